import PyProof.Rows.All
import Wide.All
import OpenK.AllK
import Wide.FinOn
import Lean
import PyProof.EqAt
import PyProof.EqKinds
import PyProof.TupleCall
import PySem.Challenge.RW_foreknown_k25_shapes
set_option Elab.async false
set_option linter.all false
set_option maxRecDepth 100000
def zv:=@PySem.wpAny_bind
def yv:=@PySem.Heap.get?_push_of_some
def zR:=@PySem.wpAny_pure
def yF:=@PySem.Heap.lt_size
def jv:=@PySem.Heap.get?_push_size
def jg:=@PySem.wpAny_field
def wC:=@PySem.wpAny_call_entry
def wD:=@PySem.wpAny_newObj_type
def wb:=@PySem.wpAny_holding
def jQ:=@PySem.wpAny_mono
def zah:=@PySem.Heap.get?_update_other
def zaF:=@PySem.wpAny_truthy_bool
def zai:=@PySem.lookup_relabel_local
def zbn:=@PySem.wpAny_rule
def zU:=@List.getElem?_eq_getElem
def yh:=@List.getElem?_set_ne
def yI:=@List.getElem?_eq_some_iff
def yZ:=@List.getElem?_set_self
def yf:=@Nat.le_refl
def yP:=@List.size_toArray
def yY:=@List.mem_cons_self
def jc:=@List.mem_cons_of_mem
def jj:=@List.mem_append_right
def zbM:=@List.mem_append_left
def zH:=@if_pos
def zX:=@if_neg
def jw:=@List.mem_singleton
def jk:=@List.getElem?_map
def yQ:=@List.mem_cons
def wc:=@List.drop_eq_getElem_cons
def yS:=@Nat.le_trans
def jy:=@List.getElem_mem
def jG:=@List.length_append
def ym:=@if_false
def yw:=@if_true
def yR:=@Nat.zero_le
def j3:=@List.mem_of_getElem?
def jq:=@List.length_map
def jz:=@List.map_append
def j0:=@Nat.lt_of_lt_of_le
def yA:=@or_false
def jH:=@List.map_cons
def wW:=@List.getElem?_cons_zero
def zaj:=@List.getElem?_cons_succ
def jr:=@Nat.ne_of_lt
def wX:=@List.getElem_of_mem
def jI:=@List.range_succ
def we:=@Bool.and_eq_true
def j4:=@List.mem_map
def wE:=@List.mem_append
def wq:=@List.length_cons
def wt:=@List.nodup_cons
def zaG:=@List.getElem?_append_left
def zaW:=@List.getElem?_append_right
def wu:=@decide_eq_false
def zbN:=@decide_eq_true
def js:=@Nat.mod_lt
def zaX:=@List.drop_of_length_le
def wY:=@List.flatMap_cons
def wZ:=@List.lookup_cons
def zd8:=@List.getElem?_eq_none
def zbo:=@List.getElem?_eq_none_iff
def zak:=@Option.getD_some
def zaY:=@List.length_range
def zcg:=@List.append_assoc
def zaZ:=@List.mem_range
def za0:=@decide_eq_true_eq
def yJ:=@Ne.symm
def zbp:=@List.length_singleton
def zbO:=@Nat.mul_le_mul_right
def za1:=@Nat.lt_succ_self
namespace L2
open PySem PySem.Spec PyProof.Rows
abbrev Key:=Sum Int Str
def keyIs:Key->Value->Bool
 | .inl k,v=>Value.isInt k v
 | .inr x,v=>Value.isStrOf x v
def keyH (w:World):Key->Int
 | .inl k=>hashInt k
 | .inr x=>hashStr w x
def w4:∀{k:Key}{v:Value},keyIs k v=true->(∃i t,k=Sum.inl i/\v=Value.int i t)\/(∃x t,k=Sum.inr x/\v=Value.str x t)
 | .inl i,v,h=>by
  obtain ⟨t,e⟩:=Value.isInt_shape (k:=i) (v:=v) h
  exact .inl ⟨i,t,rfl,e⟩
 | .inr x,v,h=>by
  obtain ⟨t,e⟩:=Value.isStrOf_shape (x:=x) (v:=v) h
  exact .inr ⟨x,t,rfl,e⟩
def zj4 (i:Int) (t:Tok):keyIs (.inl i) (.int i t)=true:=by simp [keyIs,Value.isInt]
def zj5 (x:Str) (t:Tok):keyIs (.inr x) (.str x t)=true:=by simp [keyIs,Value.isStrOf]
def zj6 (a b:Int):decide ((Sum.inl a:Key)=Sum.inl b)=(a==b):=by
 by_cases e:a=b
 ·subst e;simp
 ·have h:¬(Sum.inl a:Key)=Sum.inl b:=fun q=>e (Sum.inl.inj q)
  rw [wu h]
  exact (beq_eq_false_iff_ne.mpr e).symm
def zj7 (a b:Str):decide ((Sum.inr a:Key)=Sum.inr b)=decide (a=b):=by
 by_cases e:a=b
 ·subst e;simp
 ·have h:¬(Sum.inr a:Key)=Sum.inr b:=fun q=>e (Sum.inr.inj q)
  rw [wu h,wu e]
def zj8 (a:Int) (b:Str):decide ((Sum.inl a:Key)=Sum.inr b)=false:=wu (fun q=>nomatch q)
def zj9 (a:Str) (b:Int):decide ((Sum.inr a:Key)=Sum.inl b)=false:=wu (fun q=>nomatch q)
def mixKind (prog:Program) (w:World):PySem.KeyKind prog w Key where
 is:=keyIs
 hash:=keyH w
 inj:=fun v a b ha hb=>by
  rcases w4 ha with ⟨i,t,rfl,rfl⟩|⟨x,t,rfl,rfl⟩
  ·rcases w4 hb with ⟨j,u,rfl,e⟩|⟨y,u,rfl,e⟩
   ·injection e with e1 _;rw [e1]
   ·exact nomatch e
  ·rcases w4 hb with ⟨j,u,rfl,e⟩|⟨y,u,rfl,e⟩
   ·exact nomatch e
   ·injection e with e1 _;rw [e1]
 byValue:=fun k v h=>by
  rcases w4 h with ⟨i,t,rfl,rfl⟩|⟨x,t,rfl,rfl⟩<;>rfl
 pyHash:=fun hv h=>by
  rcases w4 hv with ⟨i,t,rfl,rfl⟩|⟨x,t,rfl,rfl⟩
  ·exact wpAny_pyHash_int h
  ·exact wpAny_pyHash_str h
 eqBool:=fun hu hv h=>by
  rcases w4 hu with ⟨i,t,rfl,rfl⟩|⟨x,t,rfl,rfl⟩
  ·rcases w4 hv with ⟨j,u,rfl,rfl⟩|⟨y,u,rfl,rfl⟩
   ·rw [zj6] at h;exact wpAny_eqBool_int h
   ·rw [zj8] at h;exact SeqAt.EqAt.int_str i t y u _ _ _ _ h
  ·rcases w4 hv with ⟨j,u,rfl,rfl⟩|⟨y,u,rfl,rfl⟩
   ·rw [zj9] at h;exact SeqAt.EqAt.str_int x t j u _ _ _ _ h
   ·rw [zj7] at h;exact wpAny_eqBool_str h
 «strs» := fun k x t v h=>by
  rcases w4 h with ⟨i,u,rfl,e⟩|⟨y,u,rfl,e⟩
  ·exact nomatch e
  ·injection e with e1 _
   subst e1
   cases v<;>rfl
def zka (prog:Program) (w:World) (i:Int) (t:Tok):(mixKind prog w).is (.inl i) (.int i t)=true:=zj4 i t
def zkb (prog:Program) (w:World) (x:Str) (t:Tok):(mixKind prog w).is (.inr x) (.str x t)=true:=zj5 x t
inductive V where
 | non|bl (b:Bool)|int (i:Int)|str (x:Str)|byt (b:Array UInt8)|flt (b:UInt64)|ref (a:Addr)|ty (n:String)
 deriving DecidableEq
def RelV:V->Value->Prop
 | .non,u=>u=Value.none
 | .bl b,u=>u=Value.bool b
 | .int i,u=>∃t,u=Value.int i t
 | .str x,u=>∃t,u=Value.str x t
 | .byt b,u=>∃t,u=Value.bytes b t
 | .flt b,u=>∃t,u=Value.float b t
 | .ref a,u=>u=Value.ref a
 | .ty n,u=>u=Value.type n
abbrev Vals:List V->List Value->Prop:=Paired RelV
def Vals.length {xs:List V}{us:List Value}(r:Vals xs us):xs.length=us.length:=Paired.length r
def Vals.get:∀{xs:List V}{us:List Value}{i:Nat}{x:V},Vals xs us->xs[i]?=some x->∃u,us[i]?=some u/\RelV x u
 | _,_,_,_,.nil,e=>by simp at e
 | _,_,0,_,.cons r _,e=>by simp at e;subst e;exact ⟨_,rfl,r⟩
 | _,_,i+1,x,.cons _ t,e=>by
  obtain ⟨u,h1,h2⟩:=Vals.get (i:=i) (x:=x) t (by simpa using e)
  exact ⟨u,by simpa using h1,h2⟩
def Vals.set {x:V}{u:Value}(r:RelV x u):∀{xs:List V}{us:List Value}(i:Nat),Vals xs us->Vals (xs.set i x) (us.set i u)
 | _,_,_,.nil=>.nil
 | _,_,0,.cons _ t=>.cons r t
 | _,_,i+1,.cons q t=>.cons q (Vals.set r i t)
def Vals.append:∀{xs ys:List V}{us ws:List Value},Vals xs us->Vals ys ws->Vals (xs++ys) (us++ws)
 | _,_,_,_,.nil,s=>s
 | _,_,_,_,.cons r t,s=>.cons r (Vals.append t s)
def Vals.take:∀{xs:List V}{us:List Value}(n:Nat),Vals xs us->Vals (xs.take n) (us.take n)
 | _,_,0,_=>.nil
 | _,_,_+1,.nil=>.nil
 | _,_,n+1,.cons r t=>.cons r (Vals.take n t)
def Vals.drop:∀{xs:List V}{us:List Value}(n:Nat),Vals xs us->Vals (xs.drop n) (us.drop n)
 | _,_,0,r=>r
 | _,_,_+1,.nil=>.nil
 | _,_,n+1,.cons _ t=>Vals.drop n t
def RelO:Option V->Option Value->Prop
 | some v,some u=>RelV v u
 | none,none=>True
 | _,_=>False
def KV {κ:Type}:List (κ×V)->List (κ×Value)->Prop:=Paired fun (p:κ×V) (q:κ×Value)=>p.1=q.1/\RelV p.2 q.2
def kV:Key->V
 | .inl i=>.int i
 | .inr x=>.str x
inductive HO where
 | lst (xs:List V)
 | tup (xs:List V)
 | dK (kvs:List (Key×V))|dT (kvs:List (List Key×V))
 | set (S:Int->Bool) (n:Nat)
 | ins (C dx:Addr) (fs:List (Str×V))
 | own (x:Addr)
 | xd (fs:List (Str×V))
 | met (f x:Addr)
 | rng (lo hi:Int)
 | frz (o:Obj) (u:HO)
 | tbl (ps:Array Value)
 | ext (φ:Heap->Prop)
abbrev Hp:=Addr->Option HO
def upd (H:Hp) (a:Addr) (o:HO):Hp:=fun b=>if b=a then some o else H b
def jA {H:Hp}{a:Addr}{o:HO}:upd H a o a=some o:=by unfold upd;rw [zH rfl]
def yj {H:Hp}{a b:Addr}{o:HO}(h:b≠a):upd H a o b=H b:=by unfold upd;rw [zX h]
def zkc {H:Hp}{a b:Addr}{o u:HO}(h:H a=some o) (h':H b=some u) (d:o≠u):a≠b:=by
 intro e;subst e;rw [h] at h';exact d (Option.some.inj h')
def w5 {H:Hp}{a b:Addr}{o:HO}(h:H a=some o) (h':H b=none):a≠b:=by
 intro e;subst e;rw [h] at h';cases h'
section
variable (P:Program) (w:World)
def ObjOk (H:Hp) (h:Heap) (a:Addr):HO->Prop
 | .lst xs=>xs.length<=sizeLine/\∃(its:List Value) (n:Nat),Vals xs its/\h.get? a=some { cls:=.type "list", data:=.seq its.toArray n }
 | .tup xs=>xs.length<=sizeLine/\∃its:List Value,Vals xs its/\IsTup h a its.toArray
 | .dK kvs=>kvs.length<=sizeLine/\(a==sysModules)=false/\∃vs,KV kvs vs/\h.DictOf (mixKind P w) a vs
 | .dT kvs=>kvs.length<=sizeLine/\(a==sysModules)=false/\∃xs:List (List Key×Addr×Value),
   Paired (fun (p:List Key×V) (q:List Key×Addr×Value)=>p.1=q.1/\H q.2.1=some (.tup (p.1.map kV))/\RelV p.2 q.2.2) kvs xs /\
   ∃o es ep,h.get? a=some o/\o.ExactDict/\o.data=.dict es ep/\es.toList=xs.map (entryOfKey (tupleKind (mixKind P w)))/\(xs.map (·.1)).Nodup
 | .set S n=>h.SetOf (intKind P w) a S n
 | .ins C dx fs=>H dx=some (.own a)/\fs.length<=1000/\dx≠a/\h.get? a=some (PySem.W.instObj C dx) /\
   ∃mA,h.Ns1 dx mA/\(∀f,RelO (fs.lookup f) (mA f))/\PySem.Within mA (fs.map (·.1))
 | .own _=>∃o,h.get? a=some o
 | .xd fs=>∃mA,h.Ns1 a mA/\∀f,RelO (fs.lookup f) (mA f)
 | .rng lo hi=>∃t u v,h.get? a=some { cls:=.type "range", data:=.fields #[.int lo t,.int hi u,.int 1 v] }
 | .frz o u=>h.get? a=some o/\ObjOk H h a u
 | .tbl ps=>h.get? a=some { cls:=.none,data:=.fields ps }
 | .met f x=>h.get? a=some (PySem.W.methodObj (.ref f) (.ref x))
 | .ext φ=>φ h/\(∃o,h.get? a=some o)/\∀h1 h2:Heap,φ h1->(∀o,h1.get? a=some o->h2.get? a=some o)->φ h2
def HOk (H:Hp) (h:Heap):Prop:=∀a o,H a=some o->ObjOk P w H h a o
end
section
variable {P:Program}{w:World}{H H':Hp}{h h':Heap}{a:Addr}{o:HO}
def ObjOk.lt (x:ObjOk P w H h a o):a<h.objs.size:=by
 cases o with
 | lst xs=>obtain ⟨_,_,_,_,e⟩:=x;exact yF e
 | tup xs=>obtain ⟨_,_,_,p⟩:=x;exact p.lt
 | dK kvs=>obtain ⟨_,_,_,_,o,_,_,e,_⟩:=x;exact yF e
 | dT kvs=>obtain ⟨_,_,_,_,o,_,_,e,_⟩:=x;exact yF e
 | set S n=>obtain ⟨o,_,_,_,e,_⟩:=x;exact yF e
 | ins C dx fs=>obtain ⟨_,_,_,e,_⟩:=x;exact yF e
 | own y=>obtain ⟨_,e⟩:=x;exact yF e
 | xd fs=>obtain ⟨_,⟨_,_,_,e,_⟩,_⟩:=x;exact yF e
 | rng lo hi=>obtain ⟨_,_,_,e⟩:=x;exact yF e
 | frz ob u=>obtain ⟨e,_⟩:=x;exact yF e
 | tbl ps=>exact yF (show h.get? a=some _ from x)
 | met f y=>exact yF (show h.get? a=some _ from x)
 | ext φ=>obtain ⟨_,⟨_,e⟩,_⟩:=x;exact yF e
def Paired.mapP {α β:Type}{F G:α->β->Prop}:∀{aI:List α}{aK:List β},Paired F aI aK->(∀a b,F a b->G a b)->Paired G aI aK
 | _,_,.nil,_=>.nil
 | _,_,.cons r t,f=>.cons (f _ _ r) (Paired.mapP t f)
def ObjOk.stay (x:ObjOk P w H h a o) (k:∀b u,(b=a\/H b=some (.own a))->h.get? b=some u->h'.get? b=some u)
  (ho:∀b,H b=some (.own a)->H' b=some (.own a)) (ht:∀b xs,H b=some (.tup xs)->H' b=some (.tup xs)):ObjOk P w H' h' a o:=by
 induction o with
 | lst xs=>obtain ⟨z,its,n,r,e⟩:=x;exact ⟨z,its,n,r,k _ _ (.inl rfl) e⟩
 | tup xs=>obtain ⟨z,its,r,ob,e,c⟩:=x;exact ⟨z,its,r,ob,k _ _ (.inl rfl) e,c⟩
 | dK kvs=>obtain ⟨z,y,vs,r,ob,es,ep,e,c⟩:=x;exact ⟨z,y,vs,r,ob,es,ep,k _ _ (.inl rfl) e,c⟩
 | dT kvs =>
  obtain ⟨z,y,xs,r,ob,es,ep,e,c⟩:=x
  exact ⟨z,y,xs,Paired.mapP r fun p q z=>⟨z.1,ht _ _ z.2.1,z.2.2⟩,ob,es,ep,k _ _ (.inl rfl) e,c⟩
 | set S n=>obtain ⟨ob,es,ep,t,e,c⟩:=x;exact ⟨ob,es,ep,t,k _ _ (.inl rfl) e,c⟩
 | ins C dx fs =>
  obtain ⟨d,z,ne,e,mA,⟨od,es,ep,e2,c⟩,r⟩:=x
  exact ⟨ho _ d,z,ne,k _ _ (.inl rfl) e,mA,⟨od,es,ep,k _ _ (.inr d) e2,c⟩,r⟩
 | own y=>obtain ⟨ob,e⟩:=x;exact ⟨ob,k _ _ (.inl rfl) e⟩
 | xd fs=>obtain ⟨mA,⟨od,es,ep,e,c⟩,r⟩:=x;exact ⟨mA,⟨od,es,ep,k _ _ (.inl rfl) e,c⟩,r⟩
 | rng lo hi=>obtain ⟨t,u,v,e⟩:=x;exact ⟨t,u,v,k _ _ (.inl rfl) e⟩
 | frz ob u ih=>obtain ⟨e,q⟩:=x;exact ⟨k _ _ (.inl rfl) e,ih q⟩
 | tbl ps =>
  have e:h.get? a=some { cls:=.none,data:=.fields ps }:=x
  show h'.get? a=some { cls:=.none,data:=.fields ps }
  exact k a _ (.inl rfl) e
 | met f y =>
  have e:h.get? a=some (PySem.W.methodObj (.ref f) (.ref y)):=x
  show h'.get? a=some (PySem.W.methodObj (.ref f) (.ref y))
  exact k a _ (.inl rfl) e
 | ext φ=>obtain ⟨p,⟨o,e⟩,st⟩:=x;exact ⟨st _ _ p fun o q=>k _ _ (.inl rfl) q,⟨o,k _ _ (.inl rfl) e⟩,st⟩
def HOk.lt (x:HOk P w H h) (e:H a=some o):a<h.objs.size:=(x a o e).lt
def HOk.fresh (x:HOk P w H h) (e:h.objs.size<=a):H a=none:=by
 cases q:H a with
 | none=>rfl
 | some u=>exact absurd (j0 (x.lt q) e) (Nat.lt_irrefl _)
def HOk.kept (x:HOk P w H h) (k:∀b u,h.get? b=some u->h'.get? b=some u):HOk P w H h':=fun a o e =>
 (x a o e).stay (fun b u _ q=>k b u q) (fun _ q=>q) fun _ _ q=>q
def HOk.laid (x:HOk P w H h) (k:∀b u,h.get? b=some u->h'.get? b=some u) (hp:h.objs.size<=a) (new:ObjOk P w (upd H a o) h' a o):HOk P w (upd H a o) h':=fun b u e=>by
 have hn:=x.fresh hp
 by_cases hb:b=a
 ·subst hb;rw [jA] at e;cases e;exact new
 ·rw [yj hb] at e
  exact (x b u e).stay (fun c v _ q=>k c v q) (fun c q=>by rw [yj (w5 q hn)];exact q) fun c xs q=>by rw [yj (w5 q hn)];exact q
end
def Rd (H:Hp) (a:Addr) (u:HO):Prop:=H a=some u\/∃o,H a=some (.frz o u)
def Rd.ok {P:Program}{w:World}{H:Hp}{h:Heap}{a:Addr}{u:HO}(r:Rd H a u) (x:HOk P w H h):ObjOk P w H h a u:=by
 rcases r with r|⟨o,r⟩
 ·exact x a u r
 ·obtain ⟨_,q⟩:=x a _ r
  exact q
def Mut:Option HO->Prop
 | some (.lst _)=>True
 | some (.dK _)=>True
 | some (.dT _)=>True
 | some (.set _ _)=>True
 | some (.ins _ _ _)=>True
 | some (.ext _)=>True
 | _=>False
section
variable {P:Program}{w:World}{H:Hp}{h h':Heap}{x e:Addr}{o':HO}
def HOk.write (ok:HOk P w H h) (mu:Mut (H x)) (he:e=x\/H e=some (.own x)) (k:∀b u,b≠e->h.get? b=some u->h'.get? b=some u) (heo:∃u,h'.get? e=some u)
  (new:ObjOk P w (upd H x o') h' x o'):HOk P w (upd H x o') h':=fun b u q=>by
 have nown:∀c y,H c=some (.own y)->c≠x:=fun c y r z=>by subst z;rw [r] at mu;exact mu
 have ntup:∀c xs,H c=some (.tup xs)->c≠x:=fun c xs r z=>by subst z;rw [r] at mu;exact mu
 by_cases hb:b=x
 ·subst hb;rw [jA] at q;cases q;exact new
 ·rw [yj hb] at q
  by_cases hbe:b=e
  ·have q':H b=some (.own x):=by
    rcases he with z|z
    ·exact absurd (hbe.trans z) hb
    ·rw [hbe];exact z
   rw [q] at q';cases q'
   obtain ⟨v,hv⟩:=heo
   exact ⟨v,by rw [hbe];exact hv⟩
  ·refine (ok b u q).stay (fun c v hc r=>k c v ?_ r) (fun c r=>by rw [yj (nown c b r)];exact r) fun c xs r=>by rw [yj (ntup c xs r)];exact r
   rcases hc with rfl|hc
   ·exact hbe
   ·rintro rfl
    rcases he with z|z
    ·exact nown c b hc z
    ·rw [hc] at z;cases z;exact hb rfl
end
structure Un (fs ex:List Addr) (H H':Hp) (h h':Heap):Prop where
 keep:∀b o,h.get? b=some o->H b=none->b∉fs->b∉ex->h'.get? b=some o
 slot:∀b o,h.get? b=some o->H b=none->b∈fs->b∉ex->∃sl,h'.get? b=some { o with slots:=sl }
 free:∀b o,h.get? b=some o->H b=none->b∉ex->H' b=none
 there:∀b o,h.get? b=some o->b∉ex->∃o',h'.get? b=some o'
 tups:∀b xs,H b=some (.tup xs)->H' b=some (.tup xs)
 frzs:∀b o u,H b=some (.frz o u)->H' b=some (.frz o u)
 tbls:∀b ps,H b=some (.tbl ps)->∃more,H' b=some (.tbl (ps++more))
section
variable {fs fs' ex ex':List Addr}{H H1 H2:Hp}{h h1 h2 h':Heap}{a x e:Addr}{o:HO}
def Un.any (u:Un fs ex H H1 h h1) {b:Addr}{ob:Obj}(q:h.get? b=some ob) (n:H b=none) (hx:b∉ex):∃sl,h1.get? b=some { ob with slots:=sl }:=by
 by_cases hb:b∈fs
 ·exact u.slot b ob q n hb hx
 ·exact ⟨ob.slots,u.keep b ob q n hb hx⟩
def Un.kept (k:∀b u,h.get? b=some u->h'.get? b=some u):Un fs ex H H h h' :=
 ⟨fun b ob q _ _ _=>k b ob q,fun b ob q _ _ _=>⟨ob.slots,k b ob q⟩,fun _ _ _ n _=>n,fun b ob q _=>⟨ob,k b ob q⟩,fun _ _ q=>q,fun _ _ _ q=>q,fun _ ps q=>⟨#[],by rw [q];simp⟩⟩
def Un.refl:Un fs ex H H h h:=Un.kept fun _ _ q=>q
def Un.laid (k:∀b u,h.get? b=some u->h'.get? b=some u) (hp:h.objs.size<=a) (hn:H a=none):Un fs ex H (upd H a o) h h' where
 keep:=fun b u q _ _ _=>k b u q
 slot:=fun b u q _ _ _=>⟨u.slots,k b u q⟩
 free:=fun b u q n _=>by rw [yj (jr (j0 (yF q) hp))];exact n
 there:=fun b u q _=>⟨u,k b u q⟩
 tups:=fun b xs q=>by rw [yj (w5 q hn)];exact q
 frzs:=fun b u xs q=>by rw [yj (w5 q hn)];exact q
 tbls:=fun b ps q=>⟨#[],by rw [yj (w5 q hn),q];simp⟩
def Un.write (mu:Mut (H x)) (he:e=x\/H e=some (.own x)) (k:∀b u,b≠e->h.get? b=some u->h'.get? b=some u) (heo:∃u,h'.get? e=some u):Un fs ex H (upd H x o) h h':=by
 have hx:∀b,H b=none->b≠x:=fun b n z=>by subst z;rw [n] at mu;exact mu
 have hb:∀b,H b=none->b≠e:=fun b n z=>by
  subst z
  rcases he with r|r
  ·exact hx b n r
  ·rw [n] at r;cases r
 have hm:∀b u,H b=some u->¬Mut (some u)->b≠x:=fun b u q nm z=>by subst z;rw [q] at mu;exact nm mu
 refine ⟨fun b u q n _ _=>k b u (hb b n) q,fun b u q n _ _=>⟨u.slots,k b u (hb b n) q⟩,fun b u q n _=>by rw [yj (hx b n)];exact n,fun b u q _=>?_,
  fun b xs q=>by rw [yj (hm b _ q fun z=>z)];exact q,fun b u xs q=>by rw [yj (hm b _ q fun z=>z)];exact q,fun b ps q=>⟨#[],by rw [yj (hm b _ q fun z=>z),q];simp⟩⟩
 by_cases hbe:b=e
 ·subst hbe;exact heo
 ·exact ⟨u,k b u hbe q⟩
def Un.mono (u:Un fs ex H H1 h h1) (hs:∀b∈fs,b∈fs') (hx:∀b∈ex,b∈ex'):Un fs' ex' H H1 h h1 :=
 ⟨fun b ob q n hb he=>u.keep b ob q n (fun z=>hb (hs b z)) fun z=>he (hx b z),fun _ _ q n _ he=>u.any q n fun z=>he (hx _ z),fun b ob q n he=>u.free b ob q n fun z=>he (hx b z),fun b ob q he=>u.there b ob q fun z=>he (hx b z),u.tups,u.frzs,u.tbls⟩
end
def trk (h:Heap) (H:Hp):List Addr:=(List.range h.objs.size).filter fun a=>(H a).isSome
def hidT (h:Heap) (H:Hp):Heap:=PySem.W.hideAll h (trk h H)
def zkd (h:Heap) (H:Hp):(hidT h H).objs.size=h.objs.size:=PySem.W.hideAll_size _ _
def zke {h:Heap}{H:Hp}{b:Addr}{o:Obj}(e:h.get? b=some o) (n:H b=none):(hidT h H).get? b=some o :=
 PySem.W.hideAll_get _ e fun hm=>by
  have q:(H b).isSome=true:=(List.mem_filter.mp hm).2
  rw [n] at q;simp at q
def zkf {h:Heap}{H:Hp}{b:Addr}{o:Obj}(e:(hidT h H).get? b=some o):h.get? b=some o/\H b=none:=by
 have e':h.get? b=some o:=PySem.W.of_hideAll (trk h H) e
 refine ⟨e',?_⟩
 cases q:H b with
 | none=>rfl
 | some x =>
  have hm:b∈trk h H:=List.mem_filter.mpr ⟨zaZ.mpr (yF e'),by simp [q]⟩
  have z:(hidT h H).get? b=none:=PySem.W.hideAll_none (trk h H) hm
  rw [z] at e;cases e
def allNews (g h:Heap) (L:Addr):List (Addr×Obj):=(List.range h.objs.size).filterMap fun a=>if a=L\/(g.get? a).isSome=true then none else (h.get? a).map fun o=>(a,o)
def rest (g h:Heap) (L d:Addr):List (Addr×Obj):=(allNews g h L).filter fun p=>decide (p.1≠d)
structure Mod (K:PySem.W.Frag) (mg:Str->Option Value) (base:Heap):Prop where
 kin:K.In base
 glob:base.Ns mainGlobals mg
 blt:∃mb,base.Ns builtinsNs mb/\∀x:Str,x ≠ "__name__" -> mb x=bootBuiltins x
 nolimit:base.NoLimit
structure Cx where
 prog:Program
 w:World
 K:PySem.W.Frag
 mg:Str->Option Value
 base:Heap
 A:Around
 N:List Str
 s₀:Shared
 H₀:Hp
 env:Env
 outer:List Env
 stack:List Env
 ex:List Addr
 fn:Str->Bool
 calm:Bool
 pn:List (Addr×Obj)
 xe:Value->Shared->Prop
def frs (l:List Env):List Addr:=l.filterMap (·.frame)
abbrev Cx.fs (X:Cx):List Addr:=frs X.outer
def Vis (sc:Scope) (x:Str):Prop:=sc.names.lookup x=some .local\/sc.names.lookup x=some .cell\/sc.names.lookup x=some .free
def Loc (sc:Scope) (x:Str):Prop:=sc.names.lookup x=some .local\/sc.names.lookup x=some .cell
def Look (env:Env) (h:Heap) (m:Str->Option Value) (x:Str) (u:Value):Prop :=
 (env.kindOf x=some .local/\m x=some u)\/((env.kindOf x=some .cell\/env.kindOf x=some .free)/\∃c,env.cells.lookup x=some c/\h.IsCell c (some u))
structure Cx.Ok (X:Cx):Prop where
 mod:Mod X.K X.mg X.base
 kind:X.env.scope.kind=.function
 glob:X.env.globals=mainGlobals
 blt:X.env.builtins=builtinsNs
 above:X.s₀.heap.objs.size<=X.env.locals
 inj:∀x y c,X.env.cells.lookup x=some c->X.env.cells.lookup y=some c->x=y
 has:∀x,(X.env.kindOf x=some .cell\/X.env.kindOf x=some .free)->∃c,X.env.cells.lookup x=some c
 cab:∀x c,X.fn x=true->X.env.cells.lookup x=some c->X.s₀.heap.objs.size<=c
 hd:X.calm=true->X.A.handled=none
 frames:X.A.frames=some X.stack
 stk:X.stack=X.outer\/(X.stack=X.env::X.outer/\X.env.frame=some X.env.locals)
 exf:∀b∈X.ex,b≠X.env.locals/\∀x c,X.env.cells.lookup x=some c->c≠b
 bs:∀b o,X.base.get? b=some o->X.s₀.heap.get? b=some o/\X.H₀ b=none
 bsz:X.base.objs.size<=X.s₀.heap.objs.size
 noex:∀b o,X.base.get? b=some o->b∉X.ex
 exfs:∀b∈X.ex,b∉X.fs
 funs:X.s₀.heap.FunFrames X.base X.outer
 frf:∀b∈X.fs,X.H₀ b=none
structure Inv (X:Cx) (pins:List (Addr×Obj)) (σ:List (Option V)) (H:Hp) (s:Shared):Prop where
 ok:X.Ok
 os:s.os=X.s₀.os
 bare:AllBare s.gens
 base:Un X.fs X.ex X.H₀ H X.s₀.heap s.heap
 loc:∃m,s.heap.Ns X.env.locals m/\∀(i:Nat) (x:Str) (v:V),X.N[i]?=some x->σ[i]?=some (some v)->Vis X.env.scope x->∃u,RelV v u/\Look X.env s.heap m x u
 cell:∀x c,X.env.cells.lookup x=some c->∃v,s.heap.IsCell c v
 free:H X.env.locals=none
 freeC:∀x c,X.env.cells.lookup x=some c->H c=none
 pin:∀p∈X.pn++pins,s.heap.get? p.1=some p.2/\H p.1=none/\p.1≠X.env.locals/\p.1∉X.fs/\∀v,p.2.data ≠ .cell v
 hok:HOk X.prog X.w H s.heap
 len:σ.length=X.N.length
section
variable {X:Cx}{pins:List (Addr×Obj)}{σ:List (Option V)}{H H':Hp}{s:Shared}{h':Heap}
def Cx.Ok.nofr (ok:X.Ok) {b:Addr}{o:Obj}(e:X.base.get? b=some o):b∉X.fs:=fun hb=>by
 have:=(ok.funs.mem hb).1
 rw [e] at this;cases this
def Inv.bs (I:Inv X pins σ H s):∀b o,X.base.get? b=some o->s.heap.get? b=some o/\H b=none:=fun b o e =>
 ⟨I.base.keep b o (I.ok.bs b o e).1 (I.ok.bs b o e).2 (I.ok.nofr e) (I.ok.noex b o e),I.base.free b o (I.ok.bs b o e).1 (I.ok.bs b o e).2 (I.ok.noex b o e)⟩
def Inv.bk (I:Inv X pins σ H s):∀b o,X.base.get? b=some o->s.heap.get? b=some o:=fun b o e=>(I.bs b o e).1
def Inv.mod (I:Inv X pins σ H s):Mod X.K X.mg X.base:=I.ok.mod
def Inv.kIn (I:Inv X pins σ H s):X.K.In s.heap:=I.ok.mod.kin.keeps I.bk
def Inv.fr (I:Inv X pins σ H s):∃m,Fr X.base X.env.locals s.heap m :=
 let ⟨m,hn,_⟩:=I.loc
 ⟨m,hn,I.bk,yS I.ok.bsz I.ok.above⟩
def Inv.lt (I:Inv X pins σ H s):X.env.locals<s.heap.objs.size:=let ⟨_,hn,_⟩:=I.loc;hn.lt
def Inv.sz (I:Inv X pins σ H s):X.s₀.heap.objs.size<=s.heap.objs.size:=yS I.ok.above (Nat.le_of_lt I.lt)
def Inv.nofs (I:Inv X pins σ H s) {a:Addr}(h:s.heap.objs.size<=a):a∉X.fs:=fun hb=>by
 obtain ⟨_,o,ho,_⟩:=I.ok.funs.mem hb
 exact absurd (j0 (yF ho) (yS I.sz h)) (Nat.lt_irrefl _)
def Inv.cne (I:Inv X pins σ H s):∀x c,X.env.cells.lookup x=some c->c≠X.env.locals:=fun x c e z=>by
 obtain ⟨v,o,ho,hd⟩:=I.cell x c e
 obtain ⟨m,⟨o',es,ep,ho',hd',_⟩,_⟩:=I.loc
 rw [z,ho'] at ho;cases ho;rw [hd'] at hd;cases hd
def Inv.funs (I:Inv X pins σ H s):s.heap.FunFrames X.base X.outer:=by
 have all:∀(l:List Env),(∀b∈frs l,b∈X.fs)->X.s₀.heap.FunFrames X.base l->s.heap.FunFrames X.base l:=by
  intro l
  induction l with
  | nil=>intro _ _;trivial
  | cons env r ih =>
   intro hs hl
   obtain ⟨hk,⟨L,o,hf,hn,ho,hd⟩,hr⟩:=hl
   have hL:L∈X.fs:=hs L (by unfold frs;rw [List.filterMap_cons,hf];exact yY)
   obtain ⟨sl,e⟩:=I.base.slot L o ho (I.ok.frf L hL) hL fun z=>I.ok.exfs L z hL
   exact ⟨hk,⟨L,_,hf,hn,e,hd⟩,ih (fun b hb=>hs b (by unfold frs;rw [List.filterMap_cons,hf];exact jc _ hb)) hr⟩
 exact all X.outer (fun _ hb=>hb) I.ok.funs
def Inv.stack (I:Inv X pins σ H s):s.heap.FunFrames X.base X.stack:=by
 rcases I.ok.stk with e|⟨e,hf⟩
 ·rw [e];exact I.funs
 ·rw [e]
  obtain ⟨m,hn,_⟩:=I.loc
  refine .cons (by rw [I.ok.kind];decide) hf hn ?_ I.funs
  exact Heap.get?_none_of_le (yS I.ok.bsz I.ok.above)
def Inv.stkSub (I:Inv X pins σ H s):∀b∈frs X.stack,b∈X.env.locals::X.fs:=fun b hb=>by
 rcases I.ok.stk with e|⟨e,hf⟩
 ·rw [e] at hb;exact jc _ hb
 ·rw [e] at hb
  unfold frs at hb
  rw [List.filterMap_cons,hf] at hb
  exact hb
def Inv.stkFree (I:Inv X pins σ H s):∀b∈frs X.stack,H b=none:=fun b hb=>by
 rcases yQ.mp (I.stkSub b hb) with e|hb
 ·rw [e];exact I.free
 ·obtain ⟨_,o,ho,_⟩:=I.ok.funs.mem hb
  exact I.base.free b o ho (I.ok.frf b hb) fun z=>I.ok.exfs b z hb
def Inv.step {g':Array GenState}{t':Nat}{d':Drawn}{ch:List Addr}(I:Inv X pins σ H s)
  (hch:∀b∈ch,(b∈X.ex\/X.s₀.heap.objs.size<=b)/\b≠X.env.locals/\(∀x c,X.env.cells.lookup x=some c->c≠b)/\∀p∈X.pn++pins,p.1≠b)
  (keep:∀b o,b≠X.env.locals->b∉X.fs->b∉ch->s.heap.get? b=some o->H b=none->h'.get? b=some o)
  (slot:∀b o,b≠X.env.locals->b∈X.fs->b∉ch->s.heap.get? b=some o->H b=none->∃sl,h'.get? b=some { o with slots:=sl }) (free:∀b o,b∉ch->s.heap.get? b=some o->H b=none->H' b=none)
  (there:∀b o,b∉ch->s.heap.get? b=some o->∃o',h'.get? b=some o')
  (tups:∀b xs,H b=some (.tup xs)->H' b=some (.tup xs)) (frzs:∀b o u,H b=some (.frz o u)->H' b=some (.frz o u)) (tbls:∀b ps,H b=some (.tbl ps)->∃more,H' b=some (.tbl (ps++more)))
  (ns:∀m,s.heap.Ns X.env.locals m->h'.Ns X.env.locals m) (hok:HOk X.prog X.w H' h') (hg:AllBare g') :
  Inv X pins σ H' { s with heap:=h',gens:=g',drawn:=d',toks:=t' }:=by
 have neL:∀b o,X.s₀.heap.get? b=some o->b≠X.env.locals:=fun b o e=>jr (j0 (yF e) I.ok.above)
 have neC:∀b o,X.s₀.heap.get? b=some o->b∉X.ex->b∉ch:=fun b o e hx hb=>by
  rcases (hch b hb).1 with z|z
  ·exact hx z
  ·exact absurd (j0 (yF e) z) (Nat.lt_irrefl _)
 have cellK:∀x c,X.env.cells.lookup x=some c->∀v,s.heap.IsCell c v->h'.IsCell c v:=fun x c e v ⟨o,ho,hd⟩=>by
  have nch:c∉ch:=fun z=>(hch c z).2.2.1 x c e rfl
  by_cases hc:c∈X.fs
  ·obtain ⟨sl,q⟩:=slot c o (I.cne x c e) hc nch ho (I.freeC x c e)
   exact ⟨_,q,hd⟩
  ·exact ⟨o,keep c o (I.cne x c e) hc nch ho (I.freeC x c e),hd⟩
 refine ⟨I.ok,I.os,hg,⟨fun b o e n hb hx=>?_,fun b o e n hb hx=>?_,fun b o e n hx=>?_,fun b o e hx=>?_,fun b xs e=>tups b xs (I.base.tups b xs e),fun b o xs e=>frzs b o xs (I.base.frzs b o xs e),fun b ps e=>?_⟩,?_,fun x c e=>?_,?_,fun x c e=>?_,fun p hp=>?_,hok,I.len⟩
 ·exact keep b o (neL b o e) hb (neC b o e hx) (I.base.keep b o e n hb hx) (I.base.free b o e n hx)
 ·obtain ⟨sl,e1⟩:=I.base.slot b o e n hb hx
  obtain ⟨sl',e2⟩:=slot b _ (neL b o e) hb (neC b o e hx) e1 (I.base.free b o e n hx)
  exact ⟨sl',e2⟩
 ·obtain ⟨o',e1⟩:=I.base.there b o e hx
  exact free b o' (neC b o e hx) e1 (I.base.free b o e n hx)
 ·obtain ⟨o',e1⟩:=I.base.there b o e hx
  exact there b o' (neC b o e hx) e1
 ·obtain ⟨m1,e1⟩:=I.base.tbls b ps e
  obtain ⟨m2,e2⟩:=tbls b _ e1
  exact ⟨m1++m2,by rw [e2,Array.append_assoc]⟩
 ·obtain ⟨m,hn,hl⟩:=I.loc
  refine ⟨m,ns m hn,fun i x v e1 e2 e3=>?_⟩
  obtain ⟨u,r,l⟩:=hl i x v e1 e2 e3
  refine ⟨u,r,?_⟩
  rcases l with l|⟨k,c,e,z⟩
  ·exact .inl l
  ·exact .inr ⟨k,c,e,cellK x c e _ z⟩
 ·obtain ⟨v,z⟩:=I.cell x c e
  exact ⟨v,cellK x c e v z⟩
 ·obtain ⟨m,⟨o,_,_,ho,_⟩,_⟩:=I.loc
  exact free _ o (fun z=>(hch _ z).2.1 rfl) ho I.free
 ·obtain ⟨v,o,ho,hd⟩:=I.cell x c e
  exact free c o (fun z=>(hch c z).2.2.1 x c e rfl) ho (I.freeC x c e)
 ·obtain ⟨e,n,ne,nf,d⟩:=I.pin p hp
  have nch:p.1∉ch:=fun z=>(hch p.1 z).2.2.2 p hp rfl
  exact ⟨keep p.1 p.2 ne nf nch e n,free p.1 p.2 nch e n,ne,nf,d⟩
def Inv.un {t':Nat}(I:Inv X pins σ H s) (u:Un X.fs [] H H' s.heap h') (hok:HOk X.prog X.w H' h'):Inv X pins σ H' { s with heap:=h',toks:=t' }:=by
 obtain ⟨m,⟨o,es,ep,ho,r⟩,_⟩:=id I.loc
 obtain ⟨sl,hL⟩:=u.any ho I.free (by simp)
 exact I.step (g':=s.gens) (d':=s.drawn) (ch:=[]) (fun _ z=>nomatch z) (fun b o _ hb _ e n=>u.keep b o e n hb (by simp)) (fun b o _ hb _ e n=>u.slot b o e n hb (by simp)) (fun b o _ e n=>u.free b o e n (by simp)) (fun b o _ e=>u.there b o e (by simp)) u.tups u.frzs u.tbls (fun m' hm=>by
  obtain ⟨o',es',ep',ho',r'⟩:=hm
  rw [ho] at ho';cases ho'
  exact ⟨_,es',ep',hL,r'⟩) hok I.bare
def Inv.call {g':Array GenState}{t':Nat}{d':Drawn}{ch:List Addr}(I:Inv X pins σ H s) (u:Un (frs X.stack) ch H H' s.heap h') (hok:HOk X.prog X.w H' h') (hg:AllBare g')
  (hch:∀b∈ch,(b∈X.ex\/X.s₀.heap.objs.size<=b)/\b≠X.env.locals/\(∀x c,X.env.cells.lookup x=some c->c≠b)/\∀p∈X.pn++pins,p.1≠b) :
  Inv X pins σ H' { s with heap:=h',gens:=g',drawn:=d',toks:=t' }:=by
 obtain ⟨m,⟨o,es,ep,ho,r⟩,_⟩:=id I.loc
 obtain ⟨sl,hL⟩:=u.any ho I.free fun z=>(hch _ z).2.1 rfl
 exact I.step (ch:=ch) hch (fun b o hL hb hc e n=>u.keep b o e n (fun z=>(yQ.mp (I.stkSub b z)).elim hL hb) hc) (fun b o _ _ hc e n=>u.any e n hc) (fun b o hc e n=>u.free b o e n hc) (fun b o hc e=>u.there b o e hc) u.tups u.frzs u.tbls (fun m' hm=>by
  obtain ⟨o',es',ep',ho',r'⟩:=hm
  rw [ho] at ho';cases ho'
  exact ⟨_,es',ep',hL,r'⟩) hok hg
def Inv.turned {t':Nat}{it:Addr}(I:Inv X pins σ H s) (k:∀b o,b≠it->s.heap.get? b=some o->h'.get? b=some o) (hn:H it=none) (hL:it≠X.env.locals)
  (h1:it∈X.ex\/X.s₀.heap.objs.size<=it) (h2:∀x c,X.env.cells.lookup x=some c->c≠it) (h3:∀p∈X.pn++pins,p.1≠it):Inv X pins σ H { s with heap:=h',toks:=t' }:=by
 have nit:∀b u,H b=some u->b≠it:=fun b u e z=>by rw [z,hn] at e;cases e
 refine I.step (g':=s.gens) (d':=s.drawn) (ch:=[it]) (fun b hb=>?_) (fun b o _ _ hc e _=>k b o (fun z=>hc (by simp [z])) e) (fun b o _ _ hc e _=>⟨o.slots,k b o (fun z=>hc (by simp [z])) e⟩) (fun _ _ _ _ n=>n)
  (fun b o hc e=>⟨o,k b o (fun z=>hc (by simp [z])) e⟩) (fun _ _ e=>e) (fun _ _ _ e=>e) (fun b ps e=>⟨#[],by rw [e];simp⟩) (fun m hm=>?_) (fun b u e=>?_) I.bare
 ·have e:b=it:=by simpa using hb
  subst e
  exact ⟨h1,hL,h2,h3⟩
 ·obtain ⟨o,es,ep,ho,r⟩:=hm
  exact ⟨o,es,ep,k _ o (yJ hL) ho,r⟩
 ·refine (I.hok b u e).stay (fun c v hc q=>k c v ?_ q) (fun _ q=>q) fun _ _ q=>q
  rcases hc with z|z
  ·rw [z];exact nit b u e
  ·exact nit c _ z
def Inv.tok (I:Inv X pins σ H s) (t:Nat):Inv X pins σ H { s with toks:=t }:=I.un (h':=s.heap) (t':=t) Un.refl I.hok
def Inv.kept {t':Nat}(I:Inv X pins σ H s) (k:∀b u,s.heap.get? b=some u->h'.get? b=some u):Inv X pins σ H { s with heap:=h',toks:=t' }:=I.un (Un.kept k) (I.hok.kept k)
def Inv.laid {a:Addr}{o:HO}{t':Nat}(I:Inv X pins σ H s) (k:∀b u,s.heap.get? b=some u->h'.get? b=some u) (hp:s.heap.objs.size<=a) (new:ObjOk X.prog X.w (upd H a o) h' a o) :
  Inv X pins σ (upd H a o) { s with heap:=h',toks:=t' }:=I.un (Un.laid k hp (I.hok.fresh hp)) (I.hok.laid k hp new)
def Inv.write {x e:Addr}{o:HO}{t':Nat}(I:Inv X pins σ H s) (mu:Mut (H x)) (he:e=x\/H e=some (.own x)) (k:∀b u,b≠e->s.heap.get? b=some u->h'.get? b=some u) (heo:∃u,h'.get? e=some u)
  (new:ObjOk X.prog X.w (upd H x o) h' x o):Inv X pins σ (upd H x o) { s with heap:=h',toks:=t' }:=I.un (Un.write mu he k heo) (I.hok.write mu he k heo new)
def Inv.weak {aj:List (Option V)}(I:Inv X pins σ H s) (hl:aj.length=σ.length) (w:∀(i:Nat) v,aj[i]?=some (some v)->σ[i]?=some (some v)):Inv X pins aj H s :=
 ⟨I.ok,I.os,I.bare,I.base,let ⟨m,hn,hl'⟩:=I.loc;⟨m,hn,fun i x v e1 e2 e3=>hl' i x v e1 (w i v e2) e3⟩,I.cell,I.free,I.freeC,I.pin,I.hok,hl.trans I.len⟩
def Inv.pins_of {pins':List (Addr×Obj)}(I:Inv X pins σ H s) (h:∀p∈pins',s.heap.get? p.1=some p.2/\H p.1=none/\p.1≠X.env.locals/\p.1∉X.fs/\∀v,p.2.data ≠ .cell v):Inv X pins' σ H s :=
 ⟨I.ok,I.os,I.bare,I.base,I.loc,I.cell,I.free,I.freeC,fun p hp=>(wE.mp hp).elim (fun z=>I.pin p (zbM _ z)) (h p),I.hok,I.len⟩
def zfR {N:List Str}(hN:N.Nodup) {i j:Nat}{x:Str}(a:N[i]?=some x) (b:N[j]?=some x):i=j:=by
 obtain ⟨h1,e1⟩:=yI.mp a
 obtain ⟨h2,e2⟩:=yI.mp b
 exact (List.getElem_inj hN).mp (e1.trans e2.symm)
def zkg {M:Model}{A:Around}{E:Value->Shared->Prop}{i:Nat}{x:Str}{v:V}{u:Value}{Q:Unit->Shared->Prop}(I:Inv X pins σ H s) (hN:X.N.Nodup) (hi:X.N[i]?=some x) (hx:Loc X.env.scope x) (r:RelV v u)
  (h:∀s',Inv X pins (σ.set i (some v)) H s'->(∃a,Heap.SameBut a s.heap s'.heap/\(a=X.env.locals\/X.env.cells.lookup x=some a))->Q () s') (hf:X.fn x=true\/X.env.scope.names.lookup x=some .local:=by first|exact .inl rfl|exact .inr rfl|assumption):wpAny M A (storeName X.env x u) Q E s:=by
 obtain ⟨m,hn,hl⟩:=id I.loc
 have hcls:(X.env.scope.kind == .class||(X.env.scope.kind == .module&&X.env.locals != X.env.globals))=false:=by rw [I.ok.kind];rfl
 have aJ:i<σ.length:=by rw [I.len];exact (yI.mp hi).1
 have cne:=I.cne
 have tracked:∀{a:Addr} {h':Heap},(∃o,s.heap.get? a=some o/\H a=none)->Heap.SameBut a s.heap h'->HOk X.prog X.w H h':=fun {a h'} ha hs b ob e=>by
  obtain ⟨_,_,hfree⟩:=ha
  refine (I.hok b ob e).stay (fun c w' hc q=>(hs.2 c ?_).trans q) (fun _ q=>q) fun _ _ q=>q
  rintro rfl
  rcases hc with rfl|hc
  ·rw [hfree] at e;cases e
  ·rw [hfree] at hc;cases hc
 rcases hx with hk|hk
 ·refine wpAny_storeName_local hk hn (fun h' hn' hs=>?_) hcls
  obtain ⟨oL,_,_,hoL,_⟩:=id hn
  refine h _ ⟨I.ok,I.os,I.bare,⟨fun b o e n hb hx=>?_,fun b o e n hb hx=>?_,I.base.free,fun b o e hx=>?_,I.base.tups,I.base.frzs,I.base.tbls⟩,⟨_,hn',fun j y v' e1 e2 e3=>?_⟩,fun y c e=>?_,I.free,I.freeC,fun p hp=>?_,tracked ⟨oL,hoL,I.free⟩ hs,by simpa using I.len⟩ ⟨_,hs,.inl rfl⟩
  ·exact (hs.2 b (jr (j0 (yF e) I.ok.above))).trans (I.base.keep b o e n hb hx)
  ·obtain ⟨sl,e1⟩:=I.base.slot b o e n hb hx
   exact ⟨sl,(hs.2 b (jr (j0 (yF e) I.ok.above))).trans e1⟩
  ·obtain ⟨o',e1⟩:=I.base.there b o e hx
   exact ⟨o',(hs.2 b (jr (j0 (yF e) I.ok.above))).trans e1⟩
  ·by_cases hj:j=i
   ·subst hj
    rw [hi] at e1;cases e1
    rw [yZ aJ] at e2
    cases e2
    exact ⟨u,r,.inl ⟨hk,by simp⟩⟩
   ·rw [yh (yJ hj)] at e2
    obtain ⟨u',r',q⟩:=hl j y v' e1 e2 e3
    refine ⟨u',r',?_⟩
    rcases q with ⟨k,e⟩|⟨k,c,e,z⟩
    ·refine .inl ⟨k,?_⟩
     have:y≠x:=fun e=>hj (zfR hN e1 (e▸hi))
     simp [this,e]
    ·exact .inr ⟨k,c,e,z.sameBut hs (cne y c e)⟩
  ·obtain ⟨w',z⟩:=I.cell y c e
   exact ⟨w',z.sameBut hs (cne y c e)⟩
  ·obtain ⟨e,n,ne,nf,d⟩:=I.pin p hp
   exact ⟨(hs.2 p.1 ne).trans e,n,ne,nf,d⟩
 ·have hfn:X.fn x=true:=by
   rcases hf with z|z
   ·exact z
   ·rw [z] at hk;cases hk
  obtain ⟨c,hc⟩:=I.ok.has x (.inl hk)
  obtain ⟨w',z⟩:=I.cell x c hc
  refine wpAny_storeName_cell I.ok.kind hk hc z (fun h' hc' hs=>?_)
  obtain ⟨oc,hoc,hocd⟩:=id z
  refine h { s with heap:=h' } ⟨I.ok,I.os,I.bare,⟨fun b o e n hb hx=>?_,fun b o e n hb hx=>?_,I.base.free,fun b o e hx=>?_,I.base.tups,I.base.frzs,I.base.tbls⟩,⟨m,hn.sameBut hs (yJ (cne x c hc)),fun j y v' e1 e2 e3=>?_⟩,fun y c' e=>?_,I.free,I.freeC,fun p hp=>?_,tracked ⟨oc,hoc,I.freeC x c hc⟩ hs,by simpa using I.len⟩ ⟨c,hs,.inr hc⟩
  ·exact (hs.2 b (jr (j0 (yF e) (I.ok.cab x c hfn hc)))).trans (I.base.keep b o e n hb hx)
  ·obtain ⟨sl,e1⟩:=I.base.slot b o e n hb hx
   exact ⟨sl,(hs.2 b (jr (j0 (yF e) (I.ok.cab x c hfn hc)))).trans e1⟩
  ·obtain ⟨o',e1⟩:=I.base.there b o e hx
   exact ⟨o',(hs.2 b (jr (j0 (yF e) (I.ok.cab x c hfn hc)))).trans e1⟩
  ·by_cases hj:j=i
   ·subst hj
    rw [hi] at e1;cases e1
    rw [yZ aJ] at e2
    cases e2
    exact ⟨u,r,.inr ⟨.inl hk,c,hc,hc'⟩⟩
   ·rw [yh (yJ hj)] at e2
    obtain ⟨u',r',q⟩:=hl j y v' e1 e2 e3
    refine ⟨u',r',?_⟩
    rcases q with q|⟨k,c',e,z'⟩
    ·exact .inl q
    ·refine .inr ⟨k,c',e,z'.sameBut hs ?_⟩
     rintro rfl
     exact hj (zfR hN e1 (I.ok.inj _ _ _ e hc▸hi))
  ·by_cases hcc:c'=c
   ·subst hcc;exact ⟨_,hc'⟩
   ·obtain ⟨w2,z2⟩:=I.cell y c' e
    exact ⟨w2,z2.sameBut hs hcc⟩
  ·obtain ⟨e,n,ne,nf,d⟩:=I.pin p hp
   refine ⟨(hs.2 p.1 ?_).trans e,n,ne,nf,d⟩
   intro q
   rw [q,hoc] at e
   have q':oc=p.2:=Option.some.inj e
   exact d w' (by rw [<-q'];exact hocd)
def zd9 {M:Model}{A:Around}{E:Value->Shared->Prop}{i:Nat}{x:Str}{v:V}{u:Value}{Q:Unit->Shared->Prop}(I:Inv X pins σ H s) (hN:X.N.Nodup) (hi:X.N[i]?=some x) (hx:Loc X.env.scope x) (r:RelV v u)
  (h:∀s',Inv X pins (σ.set i (some v)) H s'->Q () s') (hf:X.fn x=true\/X.env.scope.names.lookup x=some .local:=by first|exact .inl rfl|exact .inr rfl|assumption):wpAny M A (storeName X.env x u) Q E s :=
 zkg I hN hi hx r (fun s' I' _=>h s' I') hf
def Inv.call' {s':Shared}{ch:List Addr}(I:Inv X pins σ H s) (ho:s'.os=s.os) (u:Un (frs X.stack) ch H H' s.heap s'.heap) (hok:HOk X.prog X.w H' s'.heap) (hg:AllBare s'.gens)
  (hch:∀b∈ch,(b∈X.ex\/X.s₀.heap.objs.size<=b)/\b≠X.env.locals/\(∀x c,X.env.cells.lookup x=some c->c≠b)/\∀p∈X.pn++pins,p.1≠b):Inv X pins σ H' s':=by
 obtain ⟨h',g',d',t',o'⟩:=s'
 have e:o'=s.os:=ho
 subst e
 exact I.call (g':=g') (t':=t') (d':=d') u hok hg hch
end
abbrev XK:=Value->Option Addr->Hp->Prop
abbrev St:=List (Option V)
abbrev VK:=V->Hp->Prop
abbrev TE:=St->Hp->VK->Prop
abbrev TT:=St->Hp->(Bool->Hp->Prop)->Prop
abbrev TA:=St->Hp->(List V->Hp->Prop)->Prop
structure Ends where
 nx:St->Hp->Prop
 rt:VK
 bk:St->Hp->Prop:=fun _ _=>False
 ct:St->Hp->Prop:=fun _ _=>False
abbrev TS:=Ends->St->Hp->Prop
def EP (X:Cx) (pins:List (Addr×Obj)) (σ:St) (Q:VK) (u:Value) (s':Shared):Prop:=∃v H',Inv X pins σ H' s'/\RelV v u/\Q v H'
def TP (X:Cx) (pins:List (Addr×Obj)) (σ:St) (Q:Bool->Hp->Prop) (b:Bool) (s':Shared):Prop:=∃H',Inv X pins σ H' s'/\Q b H'
def AP (X:Cx) (pins:List (Addr×Obj)) (σ:St) (Q:List V->Hp->Prop) (us:List Value) (s':Shared):Prop:=∃vs H',Inv X pins σ H' s'/\Vals vs us/\Q vs H'
def SP (X:Cx) (pins:List (Addr×Obj)) (D:Ends) (f:Flow) (s':Shared):Prop :=
 match f with
 | .next=>∃aj H',Inv X pins aj H' s'/\D.nx aj H'
 | .brk=>∃aj H',Inv X pins aj H' s'/\D.bk aj H'
 | .cont=>∃aj H',Inv X pins aj H' s'/\D.ct aj H'
 | .ret u=>∃v aj H',Inv X pins aj H' s'/\RelV v u/\D.rt v H'
def PE (X:Cx) (e:Expr) (t:TE):Prop :=
 ∀(pins:List (Addr×Obj)) (s:Shared) (σ:St) (H:Hp) (Q:VK),Inv X pins σ H s->t σ H Q->wpAny (model X.prog X.w) X.A (eval e X.env) (EP X pins σ Q) X.xe s
def PT (X:Cx) (e:Expr) (t:TT):Prop :=
 ∀(pins:List (Addr×Obj)) (s:Shared) (σ:St) (H:Hp) (Q:Bool->Hp->Prop),Inv X pins σ H s->t σ H Q->wpAny (model X.prog X.w) X.A (isTrue e X.env (eval e X.env)) (TP X pins σ Q) X.xe s
def PW (X:Cx) (e:Expr) (t:TT):Prop :=
 ∀(whole:Sem Value) (pins:List (Addr×Obj)) (s:Shared) (σ:St) (H:Hp) (Q:Bool->Hp->Prop),Inv X pins σ H s->t σ H Q->wpAny (model X.prog X.w) X.A (isTrue e X.env whole) (TP X pins σ Q) X.xe s
def PW.pt {X:Cx}{e:Expr}{t:TT}(h:PW X e t):PT X e t:=h _
def PA (X:Cx) (es:List Expr) (t:TA):Prop :=
 ∀(pos:Pos) (pins:List (Addr×Obj)) (s:Shared) (σ:St) (H:Hp) (Q:List V->Hp->Prop),Inv X pins σ H s->t σ H Q->wpAny (model X.prog X.w) X.A (spliced (backTo pos (starEach es X.env))) (AP X pins σ Q) X.xe s
def PS (X:Cx) (st:Stmt) (t:TS):Prop :=
 ∀(pins:List (Addr×Obj)) (s:Shared) (σ:St) (H:Hp) (D:Ends),Inv X pins σ H s->t D σ H->wpAny (model X.prog X.w) X.A (exec st X.env) (SP X pins D) X.xe s
def PSs (X:Cx) (st:List Stmt) (t:TS):Prop :=
 ∀(pins:List (Addr×Obj)) (s:Shared) (σ:St) (H:Hp) (D:Ends),Inv X pins σ H s->t D σ H->wpAny (model X.prog X.w) X.A (execs st X.env) (SP X pins D) X.xe s
def thn {α:Type}{t:Sem α}{Q Q':α->Shared->Prop}{M:Model}{A:Around}{E:Value->Shared->Prop}{s:Shared}(h:wpAny M A t Q E s) (hQ:∀a s,Q a s->Q' a s):wpAny M A t Q' E s:=jQ h hQ fun _ _ x=>x
section
variable {X:Cx}
def zda (i:Nat):TE:=fun σ H Q=>∃v,σ[i]?=some (some v)/\Q v H
def tC (v:V):TE:=fun _ H Q=>Q v H
def zfS {i:Nat} {x:Str} {pos:Pos} (hN:X.N[i]?=some x) (hv:Vis X.env.scope x) (hd:(x==("__debug__" : Str))=false:=by decide) (hcd:(x==("__classdict__" : Str))=false:=by decide):PE X (.Name x pos) (zda i):=by
 intro pins s σ H Q I h
 obtain ⟨v,e,h⟩:=h
 obtain ⟨m,hn,hl⟩:=I.loc
 obtain ⟨u,r,l⟩:=hl i x v hN e hv
 have fin:EP X pins σ Q u s:=⟨v,H,I,r,h⟩
 rcases l with ⟨hk,hm⟩|⟨hk,c,hc,hcell⟩
 ·exact wpAny_Name (wpAny_loadName_local I.ok.kind hk hn hm fin) hd
 ·rcases hk with hk|hk
  ·exact wpAny_Name (wpAny_loadName_cell I.ok.kind hk hc hcell fin) hd
  ·exact wpAny_Name (wpAny_loadName_free I.ok.kind hk hc hcell fin hcd) hd
def zkh {i j pos}:PE X (.Constant (.int i) j pos) (tC (.int i)):=fun _ _ _ H _ I h=>wpAny_Constant_int ⟨.int i,H,I.tok _,⟨_,rfl⟩,h⟩
def zki {b j pos}:PE X (.Constant (.bool b) j pos) (tC (.bl b)):=fun _ _ _ H _ I h=>Constant_bool ⟨.bl b,H,I,rfl,h⟩
def zkj {j pos}:PE X (.Constant .none j pos) (tC .non):=fun _ _ _ H _ I h=>Constant_none ⟨.non,H,I,rfl,h⟩
def zkk {x j pos}:PE X (.Constant (.str x) j pos) (tC (.str x)):=fun _ _ _ H _ I h=>Calls.Constant_str ⟨.str x,H,I.tok _,⟨_,rfl⟩,h⟩
def Gl (X:Cx) (x:Str):Prop:=X.env.kindOf x=some .globalImplicit
def zkl {E:Value->Shared->Prop}{pins:List (Addr×Obj)}{s:Shared}{σ:St}{H:Hp}{x:Str}{u:Value}{pos:Pos}{Q:Value->Shared->Prop}(I:Inv X pins σ H s) (hg:Gl X x) (hm:X.mg x=some u) (h:Q u s)
  (hd:(x==("__debug__" : Str))=false:=by decide):wpAny (model X.prog X.w) X.A (eval (.Name x pos) X.env) Q E s :=
 Calls.Name_function_global I.ok.kind hg (Calls.loadGlobal_global (by rw [I.ok.glob];exact I.mod.glob.keeps I.bk) hm h) hd
def zch {E:Value->Shared->Prop}{pins:List (Addr×Obj)}{s:Shared}{σ:St}{H:Hp}{x:Str}{u:Value}{pos:Pos}{Q:Value->Shared->Prop}(I:Inv X pins σ H s) (hg:Gl X x) (hm:X.mg x=none) (hv:bootBuiltins x=some u) (h:Q u s)
  (hn:x ≠ "__name__" := by decide) (hd:(x==("__debug__" : Str))=false:=by decide):wpAny (model X.prog X.w) X.A (eval (.Name x pos) X.env) Q E s:=by
 obtain ⟨mb,h1,h2⟩:=I.mod.blt
 exact Calls.Name_function_global I.ok.kind hg (Calls.loadGlobal_builtin (by rw [I.ok.glob];exact I.mod.glob.keeps I.bk) hm (by rw [I.ok.blt];exact h1.keeps I.bk) ((h2 x hn).trans hv) h) hd
def zkm {x:Str} {v:V} {u:Value} {pos:Pos} (hg:Gl X x) (hm:X.mg x=none) (hv:bootBuiltins x=some u) (r:RelV v u) (hn:x ≠ "__name__" := by decide) (hd:(x==("__debug__" : Str))=false:=by decide):PE X (.Name x pos) (tC v) :=
 fun _ _ _ H _ I h=>zch I hg hm hv ⟨v,H,I,r,h⟩ hn hd
variable {a b:Expr}{ta tb:TE}{pos:Pos}
def tB (t:TE):TT:=fun σ H Q=>t σ H fun x H1=>∃c,x=.bl c/\Q c H1
def zkn {e:Expr}{t:TE}(h:PE X e t) (he:∀whole,isTrue e X.env whole=(do let v <-whole;standAt e.pos;holding [v] (truthy v)):=by intro _;rfl):PT X e (tB t):=by
 intro pins s σ H Q I hw
 refine isTrue_plain (thn (h pins s σ H _ I hw) fun v s1 ⟨x,H1,I1,r1,q1⟩=>?_) (he _)
 obtain ⟨d,rfl,q⟩:=q1
 cases r1
 exact zaF ⟨H1,I1,q⟩
variable {tA tB':TT}{rest:List Expr}
def zko (t u:TT):TT:=fun σ H Q=>t σ H fun c H1=>if c=true then u σ H1 Q else Q false H1
def tOr (t u:TT):TT:=fun σ H Q=>t σ H fun c H1=>if c=true then Q true H1 else u σ H1 Q
def zkq (t:TT):TT:=fun σ H Q=>t σ H fun c H1=>Q (!c) H1
def zkr (ha:PT X a tA):PW X (.BoolOp .And [a] pos) tA:=by
 intro wh pins s σ H Q I h
 refine isTrue_and (thn (ha pins s σ H Q I h) fun c s1 e=>?_)
 cases c with
 | true=>exact isTrue_and_nil e
 | false=>exact e
def zks (ha:PT X a tA):PW X (.BoolOp .Or [a] pos) tA:=by
 intro wh pins s σ H Q I h
 refine isTrue_or (thn (ha pins s σ H Q I h) fun c s1 e=>?_)
 cases c with
 | false=>exact isTrue_or_nil e
 | true=>exact e
def zkt (ha:PT X a tA) (hb:PW X (.BoolOp .And (b::rest) pos) tB'):PW X (.BoolOp .And (a::b::rest) pos) (zko tA tB'):=by
 intro wh pins s σ H Q I h
 refine isTrue_and (thn (ha pins s σ H _ I h) fun c s1 ⟨H1,I1,q1⟩=>?_)
 cases c with
 | true=>exact hb wh pins s1 σ H1 Q I1 q1
 | false=>exact ⟨H1,I1,q1⟩
def zku (ha:PT X a tA) (hb:PW X (.BoolOp .Or (b::rest) pos) tB'):PW X (.BoolOp .Or (a::b::rest) pos) (tOr tA tB'):=by
 intro wh pins s σ H Q I h
 refine isTrue_or (thn (ha pins s σ H _ I h) fun c s1 ⟨H1,I1,q1⟩=>?_)
 cases c with
 | true=>exact ⟨H1,I1,q1⟩
 | false=>exact hb wh pins s1 σ H1 Q I1 q1
def zkv (ha:PT X a tA):PT X (.UnaryOp .Not a pos) (zkq tA):=by
 intro pins s σ H Q I h
 exact isTrue_not (ha pins s σ H (fun c H1=>Q (!c) H1) I h)
def zkw (ta tb:TE):TE:=fun σ H Q=>ta σ H fun x H1=>∃c,x=.bl c/\if c=true then tb σ H1 Q else Q (.bl false) H1
def zkx (ta:TE):TE:=fun σ H Q=>ta σ H fun x H1=>∃c,x=.bl c/\Q (.bl (!c)) H1
def zky {op}{t:TE}(h:PE X a t):PE X (.BoolOp op [a] pos) t:=fun pins s σ H Q I hw=>BoolOp_one (h pins s σ H Q I hw)
def zkz (ha:PE X a ta) (hb:PE X (.BoolOp .And (b::rest) pos) tb):PE X (.BoolOp .And (a::b::rest) pos) (zkw ta tb):=by
 intro pins s σ H Q I h
 refine BoolOp_and (thn (ha pins s σ H _ I h) fun v s1 ⟨x,H1,I1,r1,q1⟩=>?_)
 obtain ⟨c,rfl,q1⟩:=q1
 cases r1
 refine zaF ?_
 cases c with
 | true=>exact hb pins s1 σ H1 Q I1 q1
 | false=>exact ⟨.bl false,H1,I1,rfl,q1⟩
def zkA (ha:PE X a ta):PE X (.UnaryOp .Not a pos) (zkx ta):=by
 intro pins s σ H Q I h
 refine UnaryOp_ (thn (ha pins s σ H _ I h) fun v s1 ⟨x,H1,I1,r1,q1⟩=>?_)
 obtain ⟨c,rfl,q1⟩:=q1
 cases r1
 exact not_of (zaF ⟨.bl (!c),H1,I1,rfl,q1⟩)
end
def SqL (K:PySem.W.Frag) (H:Hp) (a:Addr) (xs:List V):Prop :=
 Rd H a (.lst xs) \/
  ∃(o:Obj) (its:Array Value) (n:Nat),K.lookup a=some o/\o.cls=.type "list" /\ o.dict=none/\o.data=.seq its n/\its.size<=sizeLine/\Vals xs its.toList
def SqT (K:PySem.W.Frag) (H:Hp) (a:Addr) (xs:List V):Prop :=
 Rd H a (.tup xs) \/
  ∃(o:Obj) (its:Array Value) (n:Nat),K.lookup a=some o/\o.cls=.type "tuple" /\ o.data=.seq its n/\its.size<=sizeLine/\Vals xs its.toList
def absV:Value->Option V
 | .none=>some .non
 | .bool b=>some (.bl b)
 | .int i _=>some (.int i)
 | .str x _=>some (.str x)
 | .bytes b _=>some (.byt b)
 | .float b _=>some (.flt b)
 | .ref a=>some (.ref a)
 | .type n=>some (.ty n)
 | _=>none
def RelV.abs {x:V}{u:Value}(r:RelV x u):absV u=some x:=by
 cases x with
 | non=>cases r;rfl
 | bl _=>cases r;rfl
 | int _=>obtain ⟨t,rfl⟩:=r;rfl
 | str _=>obtain ⟨t,rfl⟩:=r;rfl
 | byt _=>obtain ⟨t,rfl⟩:=r;rfl
 | flt _=>obtain ⟨t,rfl⟩:=r;rfl
 | ref _=>cases r;rfl
 | ty _=>cases r;rfl
def RelV.inj {x y:V}{u:Value}(r:RelV x u) (q:RelV y u):x=y:=Option.some.inj (r.abs.symm.trans q.abs)
def Vals.inj:∀{xs ys:List V}{us:List Value},Vals xs us->Vals ys us->xs=ys
 | _,_,_,.nil,.nil=>rfl
 | _,_,_,.cons r t,.cons r' t'=>by rw [r.inj r',Vals.inj t t']
section
variable {X:Cx}{pins:List (Addr×Obj)}{σ:St}{H:Hp}{s:Shared}{a:Addr}{xs ys:List V}
def SqL.of {K:PySem.W.Frag}(h:H a=some (.lst xs)):SqL K H a xs:=.inl (.inl h)
def SqT.of {K:PySem.W.Frag}(h:H a=some (.tup xs)):SqT K H a xs:=.inl (.inl h)
def Inv.list (I:Inv X pins σ H s) (h:SqL X.K H a xs):∃its:List Value,Vals xs its/\PlainL s.heap a its.toArray/\xs.length<=sizeLine:=by
 rcases h with h|⟨o,its,n,hk,hc,hd,hs,hz,r⟩
 ·obtain ⟨z,its,n,r,e⟩:=h.ok I.hok
  exact ⟨its,r,⟨_,n,e,rfl,rfl,rfl⟩,z⟩
 ·refine ⟨its.toList,r,⟨o,n,I.kIn a o hk,hc,hd,by simpa using hs⟩,?_⟩
  have e:=r.length
  simp only [Array.length_toList] at e
  omega
def Inv.tuple (I:Inv X pins σ H s) (h:SqT X.K H a xs):∃its:List Value,Vals xs its/\IsTup s.heap a its.toArray/\xs.length<=sizeLine:=by
 rcases h with h|⟨o,its,n,hk,hc,hs,hz,r⟩
 ·obtain ⟨z,its,r,p⟩:=h.ok I.hok
  exact ⟨its,r,p,z⟩
 ·refine ⟨its.toList,r,⟨o,I.kIn a o hk,hc,n,by simpa using hs⟩,?_⟩
  have e:=r.length
  simp only [Array.length_toList] at e
  omega
def Inv.list_inj (I:Inv X pins σ H s) (h:SqL X.K H a xs) (h':SqL X.K H a ys):xs=ys:=by
 obtain ⟨its,r,⟨o,n,e,_,_,d⟩,_⟩:=I.list h
 obtain ⟨its',r',⟨o',n',e',_,_,d'⟩,_⟩:=I.list h'
 rw [e] at e';cases e'
 rw [d] at d'
 injection d' with d1 _
 have:its=its':=by simpa using congrArg Array.toList d1
 subst this
 exact r.inj r'
def Inv.tuple_inj (I:Inv X pins σ H s) (h:SqT X.K H a xs) (h':SqT X.K H a ys):xs=ys:=by
 obtain ⟨its,r,⟨o,e,_,n,d⟩,_⟩:=I.tuple h
 obtain ⟨its',r',⟨o',e',_,n',d'⟩,_⟩:=I.tuple h'
 rw [e] at e';cases e'
 rw [d] at d'
 injection d' with d1 _
 have:its=its':=by simpa using congrArg Array.toList d1
 subst this
 exact r.inj r'
end
abbrev Cx.wish (X:Cx) (E:Value->Shared->Prop):Cx:={ X with xe:=E }
abbrev Cx.nox (X:Cx):Cx:=X.wish fun _ _=>False
def Cx.Ok.wish {X:Cx}(ok:X.Ok) (E:Value->Shared->Prop):(X.wish E).Ok :=
 ⟨ok.mod,ok.kind,ok.glob,ok.blt,ok.above,ok.inj,ok.has,ok.cab,ok.hd,ok.frames,ok.stk,ok.exf,ok.bs,ok.bsz,ok.noex,ok.exfs,ok.funs,ok.frf⟩
def Cx.Ok.unwish {X:Cx}{E:Value->Shared->Prop}(ok:(X.wish E).Ok):X.Ok :=
 ⟨ok.mod,ok.kind,ok.glob,ok.blt,ok.above,ok.inj,ok.has,ok.cab,ok.hd,ok.frames,ok.stk,ok.exf,ok.bs,ok.bsz,ok.noex,ok.exfs,ok.funs,ok.frf⟩
section
variable {X:Cx}{pins:List (Addr×Obj)}{σ:St}{H:Hp}{s:Shared}{E:Value->Shared->Prop}
def Inv.wish (I:Inv X pins σ H s) (E:Value->Shared->Prop):Inv (X.wish E) pins σ H s:=⟨I.ok.wish E,I.os,I.bare,I.base,I.loc,I.cell,I.free,I.freeC,I.pin,I.hok,I.len⟩
def Inv.unwish (I:Inv (X.wish E) pins σ H s):Inv X pins σ H s:=⟨I.ok.unwish,I.os,I.bare,I.base,I.loc,I.cell,I.free,I.freeC,I.pin,I.hok,I.len⟩
def SP.unwish {D:Ends}{f:Flow}{s':Shared}(h:SP (X.wish E) pins D f s'):SP X pins D f s':=by
 cases f with
 | next=>obtain ⟨aj,H',I,q⟩:=h;exact ⟨aj,H',I.unwish,q⟩
 | brk=>obtain ⟨aj,H',I,q⟩:=h;exact ⟨aj,H',I.unwish,q⟩
 | cont=>obtain ⟨aj,H',I,q⟩:=h;exact ⟨aj,H',I.unwish,q⟩
 | ret u=>obtain ⟨v,aj,H',I,r,q⟩:=h;exact ⟨v,aj,H',I.unwish,r,q⟩
def PE.nox {e:Expr}{t:TE}(h:PE X.nox e t):PE X e t:=fun pins s σ H Q I hw =>
 jQ (h pins s σ H Q (I.wish _) hw) (fun _ _ ⟨v,H',I',r,q⟩=>⟨v,H',I'.unwish,r,q⟩) fun _ _ z=>z.elim
def PT.nox {e:Expr}{t:TT}(h:PT X.nox e t):PT X e t:=fun pins s σ H Q I hw =>
 jQ (h pins s σ H Q (I.wish _) hw) (fun _ _ ⟨H',I',q⟩=>⟨H',I'.unwish,q⟩) fun _ _ z=>z.elim
def PSs.nox {st:List Stmt}{t:TS}(h:PSs X.nox st t):PSs X st t:=fun pins s σ H D I hw =>
 jQ (h pins s σ H D (I.wish _) hw) (fun _ _ q=>q.unwish) fun _ _ z=>z.elim
end
section
variable {X:Cx}{st:Stmt}{rest:List Stmt}{t u:TS}{e:Expr}{te:TE}{pos:Pos}
def zkB:TS:=fun D σ H=>D.nx σ H
def zkC (t u:TS):TS:=fun D σ H=>t { D with nx:=u D } σ H
def zkD:PSs X [] zkB:=fun _ _ σ H _ I h=>wpAny_execs_nil ⟨σ,H,I,h⟩
def zkE (h1:PS X st t) (h2:PSs X rest u):PSs X (st::rest) (zkC t u):=by
 intro pins s σ H D I h
 refine wpAny_execs_cons (thn (h1 pins s σ H { D with nx:=u D } I h) fun f s1 q=>?_)
 cases f with
 | next =>
  obtain ⟨aj,H',I',q⟩:=q
  exact h2 pins s1 aj H' D I' q
 | ret v=>exact q
 | brk=>exact q
 | cont=>exact q
def zkF (h1:PS X st t):PSs X [st] t:=by
 intro pins s σ H D I h
 refine wpAny_execs_cons (thn (h1 pins s σ H D I h) fun f s1 q=>?_)
 cases f with
 | next=>exact wpAny_execs_nil q
 | ret v=>exact q
 | brk=>exact q
 | cont=>exact q
def Inv.quiet {pins:List (Addr×Obj)}{σ:St}{H:Hp}{s:Shared}(I:Inv X pins σ H s):interactive X.env=false:=by simp [interactive,I.ok.kind]
def zkG (te:TE):TS:=fun D σ H=>te σ H fun _ H1=>D.nx σ H1
def zkH (he:PE X e te) (hs:swapsWith e none pos.line X.env=pure false:=by rfl):PS X (.Expr e pos) (zkG te):=by
 intro pins s σ H D I h
 exact wpAny_Expr_any (thn (he pins s σ H _ I h) fun v s1 ⟨x,H1,I1,r1,q1⟩=>⟨σ,H1,I1,q1⟩) I.quiet hs
def zkI (te:TE):TS:=fun D σ H=>te σ H D.rt
def zkJ (he:PE X e te):PS X (.Return (some e) pos) (zkI te):=by
 intro pins s σ H D I h
 exact wpAny_Return_some (thn (he pins s σ H _ I h) fun v s1 ⟨x,H1,I1,r1,q1⟩=>⟨x,σ,H1,I1,r1,q1⟩)
def zkK (c:TT) (t u:TS):TS:=fun D σ H=>c σ H fun b H1=>if b=true then t D σ H1 else u D σ H1
def zkL {c:Expr}{a b:List Stmt}{tc:TT}(hc:PT X c tc) (ha:PSs X a t) (hb:PSs X b u):PS X (.If c a b pos) (zkK tc t u):=by
 intro pins s σ H D I h
 refine wpAny_If (thn (hc pins s σ H _ I h) fun d s1 ⟨H1,I1,q1⟩=>?_)
 cases d with
 | true=>exact ha pins s1 σ H1 D I1 q1
 | false=>exact hb pins s1 σ H1 D I1 q1
def zkM:TS:=fun _ _ _=>False
def zkN {sts:List Stmt}:PSs X sts zkM:=fun _ _ _ _ _ _ h=>h.elim
end
abbrev TG:=V->St->Hp->(St->Hp->Prop)->Prop
abbrev TGs:=List V->St->Hp->(St->Hp->Prop)->Prop
def PG (X:Cx) (target:Expr) (t:TG):Prop :=
 ∀(pins:List (Addr×Obj)) (s:Shared) (σ:St) (H:Hp) (v:V) (u:Value) (Q:St->Hp->Prop),Inv X pins σ H s->RelV v u->t v σ H Q ->
  wpAny (model X.prog X.w) X.A (assign target X.env u) (fun _ s'=>∃aj H',Inv X pins aj H' s'/\Q aj H') X.xe s
def PGs (X:Cx) (ts:List Expr) (t:TGs):Prop :=
 ∀(pins:List (Addr×Obj)) (s:Shared) (σ:St) (H:Hp) (vs:List V) (us:List Value) (Q:St->Hp->Prop),Inv X pins σ H s->Vals vs us->t vs σ H Q ->
  wpAny (model X.prog X.w) X.A (assignInOrder ((assignEach ts X.env).map (·.2)) us) (fun _ s'=>∃aj H',Inv X pins aj H' s'/\Q aj H') X.xe s
abbrev TSet:=V->V->V->Hp->(Hp->Prop)->Prop
def PSet (X:Cx) (t:TSet):Prop :=
 ∀(pins:List (Addr×Obj)) (s:Shared) (σ:St) (H:Hp) (o i v:V) (ov iv u:Value) (Q:Hp->Prop),Inv X pins σ H s->RelV o ov->RelV i iv->RelV v u->t o i v H Q ->
  wpAny (model X.prog X.w) X.A (setItem ov iv u) (fun _ s'=>∃H',Inv X pins σ H' s'/\Q H') X.xe s
section
variable {X:Cx}{pos:Pos}
def zal (i:Nat):TG:=fun v σ H Q=>Q (σ.set i (some v)) H
def za2 {i:Nat}{x:Str}(hN:X.N.Nodup) (hi:X.N[i]?=some x) (hx:Loc X.env.scope x) (hf:X.fn x=true\/X.env.scope.names.lookup x=some .local:=by first|exact .inl rfl|exact .inr rfl|assumption):PG X (.Name x pos) (zal i):=by
 intro pins s σ H v u Q I r h
 exact wpAny_assign_Name (zd9 I hN hi hx r (fun s' I'=>⟨_,H,I',h⟩) hf)
def zfT:TGs:=fun vs σ H Q=>vs=[]/\Q σ H
def zea (t:TG) (u:TGs):TGs:=fun vs σ H Q=>∃v r,vs=v::r/\t v σ H fun aj H'=>u r aj H' Q
def zfU:PGs X [] zfT:=by
 intro pins s σ H vs us Q I r h
 obtain ⟨e,h⟩:=h
 subst e
 cases r
 exact assignInOrder_nil ⟨σ,H,I,h⟩
def zdb {e:Expr}{es:List Expr}{t:TG}{u:TGs}(h1:PG X e t) (h2:PGs X es u)
  (hs:(assignEach (e::es) X.env).map (·.2)=assign e X.env::(assignEach es X.env).map (·.2):=by rfl):PGs X (e::es) (zea t u):=by
 intro pins s σ H vs us Q I r h
 obtain ⟨v,vr,e1,h⟩:=h
 subst e1
 cases r with
 | cons r rr =>
  rw [hs]
  refine assignInOrder_cons (thn (h1 pins s σ H _ _ _ I r h) fun _ s1 ⟨aw,H1,I1,q1⟩=>?_)
  exact h2 pins s1 aw H1 _ _ Q I1 rr q1
def zfV (K:PySem.W.Frag) (n:Nat) (t:TGs):TG:=fun v σ H Q=>∃a xs,v=.ref a/\SqT K H a xs/\xs.length=n/\t xs σ H Q
def zfW {es:List Expr}{k:Nat}{t:TGs}{n:Nat}(hc:X.calm=true) (h:PGs X es t)
  (hn:(assignEach es X.env).length=n:=by rfl) (hst:(assignEach es X.env).findIdx? (·.1)=none:=by rfl):PG X (.Tuple es k pos) (zfV X.K n t):=by
 intro pins s σ H v u Q I r hw
 obtain ⟨a,xs,e1,hq,hl,hw⟩:=hw
 subst e1
 cases r
 obtain ⟨its,rv,ht,hz⟩:=I.tuple hq
 refine assign_Tuple_tuple (I.ok.hd hc) ht (by simp [hn,<-hl,rv.length]) hst fun h' hx=>?_
 have I1:Inv X pins σ H { s with heap:=h' }:=I.kept (t':=s.toks) fun b o e=>hx b o (jr (yF e)) e
 exact h pins _ σ H xs _ Q I1 (by simpa using rv) hw
def zkO (to ti:TE) (t:TSet):TG:=fun v σ H Q=>to σ H fun o H1=>ti σ H1 fun i H2=>t o i v H2 fun H3=>Q σ H3
def zkP {o i:Expr}{to ti:TE}{t:TSet}(ho:PE X o to) (hi:PE X i ti) (hs:PSet X t)
  (ha:∀v,assign (.Subscript o i pos) X.env v=(do
   let ov <-holding [v] (eval o X.env)
   let iv <-holding [v,ov] (eval i X.env)
   standAt pos
   holding [v,ov,iv] (setItem ov iv v)
   release [v,ov,iv] []):=by intro _;rfl):PG X (.Subscript o i pos) (zkO to ti t):=by
 intro pins s σ H v u Q I r h
 rw [ha]
 refine zv (wb (thn (ho pins s σ H _ I h) fun ov s1 ⟨x,H1,I1,r1,q1⟩=>?_))
 refine zv (wb (thn (hi pins s1 σ H1 _ I1 q1) fun iv s2 ⟨y,H2,I2,r2,q2⟩=>?_))
 refine zv (wpAny_standAt (zv (wb (thn (hs pins s2 σ H2 x y v ov iv u _ I2 r1 r2 r q2) fun _ s3 ⟨H3,I3,q3⟩=>?_))))
 exact wpAny_release ⟨σ,H3,I3,q3⟩
def zfX (te:TE) (g:TG):TS:=fun D σ H=>te σ H fun x H1=>g x σ H1 D.nx
def zfY {tg e:Expr}{te:TE}{g:TG}(he:PE X e te) (hg:PG X tg g) (hs:swapsWithSole [tg] e pos.line X.env=pure false:=by rfl) (hw:swappedStores [tg] e X.env=pure none:=by rfl)
  (h1:(assignEach [tg] X.env).map (·.2)=[assign tg X.env]:=by rfl):PS X (.Assign [tg] e pos) (zfX te g):=by
 intro pins s σ H D I h
 refine wpAny_Assign_stores (thn (he pins s σ H _ I h) fun v s1 ⟨x,H1,I1,r1,q1⟩=>?_) hs hw
 rw [h1]
 exact thn (hg pins s1 σ H1 x v _ I1 r1 q1) fun _ s2 q=>q
def zkQ {i:Nat}{x:Str}{e:Expr}{te:TE}{pos':Pos}(hN:X.N.Nodup) (hi:X.N[i]?=some x) (hx:Loc X.env.scope x) (he:PE X e te) (hs:swapsWith e (some (.Name x pos')) pos.line X.env=pure false:=by rfl) (hf:X.fn x=true\/X.env.scope.names.lookup x=some .local:=by first|exact .inl rfl|exact .inr rfl|assumption) :
  PS X (.Assign [.Name x pos'] e pos) (zfX te (zal i)):=by
 intro pins s σ H D I h
 refine wpAny_Assign_Name (thn (he pins s σ H _ I h) fun v s1 ⟨y,H1,I1,r1,q1⟩=>?_) hs
 exact zd9 I1 hN hi hx r1 (fun s2 I2=>⟨_,H1,I2,q1⟩) hf
def zkR (c:TT) (tb:TS):TS:=fun D σ H=>∃W:Nat->St->Hp->Prop,(∃m,W m σ H)/\∀m σ H,W m σ H ->
 c σ H fun b H1=>if b=true then ∃N:St->Hp->Prop,(∀aj H',N aj H'->∃m',m'<m/\W m' aj H')/\tb { D with nx:=N,ct:=N,bk:=D.nx } σ H1 else D.nx σ H1
def zkS {c:Expr}{body:List Stmt}{tc:TT}{tb:TS}(hp:PassesOwn (model X.prog X.w) X.A X.env X.xe) (hc:PT X c tc) (hb:PSs X body tb):PS X (.While c body [] pos) (zkR tc tb):=by
 intro pins s σ H D I h
 obtain ⟨W,⟨m0,w0⟩,turn⟩:=h
 refine wpAny_While (codeAny_whileLoop (fun n s'=>∃aj H',Inv X pins aj H' s'/\W n aj H') ?_ m0 ⟨σ,H,I,w0⟩)
 rintro n s1 ⟨aw,H1,I1,w1⟩
 refine wpAny_passesOwn hp (thn (hc pins s1 aw H1 _ I1 (turn n aw H1 w1)) fun b s2 ⟨H2,I2,q2⟩=>?_)
 cases b with
 | true =>
  obtain ⟨N,hN,q2⟩:=q2
  rw [zH rfl]
  refine wpAny_passesOwn hp (thn (hb pins s2 aw H2 _ I2 q2) fun f s3 q3=>?_)
  cases f with
  | next =>
   obtain ⟨ax,H3,I3,n3⟩:=q3
   obtain ⟨m',hm,w3⟩:=hN ax H3 n3
   exact ⟨m',hm,ax,H3,I3,w3⟩
  | cont =>
   obtain ⟨ax,H3,I3,n3⟩:=q3
   obtain ⟨m',hm,w3⟩:=hN ax H3 n3
   exact ⟨m',hm,ax,H3,I3,w3⟩
  | brk=>exact q3
  | ret v=>exact q3
 | false =>
  rw [zX Bool.false_ne_true]
  exact wpAny_execs_nil ⟨aw,H2,I2,q2⟩
end
structure It where
 go:Nat->Hp->Prop
 yld:Nat->Hp->V->Hp->Prop
 stop:Nat->Hp->Prop
def FpOk (X:Cx) (pins:List (Addr×Obj)) (H:Hp) (b:Addr):Prop :=
 H b=none/\b≠X.env.locals/\b∉X.fs/\(b∈X.ex\/X.s₀.heap.objs.size<=b)/\(∀x c,X.env.cells.lookup x=some c->c≠b)/\∀p∈X.pn++pins,p.1≠b
def Inv.fpOk {X:Cx}{pins:List (Addr×Obj)}{σ:St}{H H':Hp}{s:Shared}{b:Addr}(I:Inv X pins σ H s) (hb:s.heap.objs.size<=b) (hn:H' b=none):FpOk X pins H' b:=by
 refine ⟨hn,Nat.ne_of_gt (j0 I.lt hb),I.nofs hb,.inr (yS I.sz hb),fun x c e z=>?_,fun p hp z=>?_⟩
 ·obtain ⟨v,q⟩:=I.cell x c e
  exact absurd (j0 q.lt (by rw [z];exact hb)) (Nat.lt_irrefl _)
 ·exact absurd (j0 (yF (I.pin p hp).1) (by rw [z];exact hb)) (Nat.lt_irrefl _)
structure Turn (P:Program) (w:World) (K:PySem.W.Frag) (tg:Expr) (J:It) (fp:List Addr) (it:Addr) (tn:Nat->Heap->Prop):Prop where
 mem:it∈fp
 obj:∀i h,tn i h->∀b∈fp,∃o,h.get? b=some o/\∀v,o.data ≠ .cell v
 keep:∀i h h',tn i h->(∀b∈fp,∀o,h.get? b=some o->h'.get? b=some o)->tn i h'
 item:∀(X:Cx),X.prog=P->X.w=w->X.K=K->X.calm=true->∀(i:Nat) (pins:List (Addr×Obj)) (s:Shared) (σ:St) (H:Hp) (E:Value->Shared->Prop),Inv X pins σ H s->(∀b∈fp,FpOk X pins H b)->tn i s.heap->J.go i H ->
  wpAny (model P w) X.A (pyNext (.ref it)) (fun r s1=>∃u,r=some u /\
   wpAny (model P w) X.A (letOwnedTupleGo tg (.ref it) u) (fun _ s2=>∃x H',Inv X pins σ H' s2/\RelV x u/\J.yld i H x H'/\tn (i+1) s2.heap/\∀b∈fp,H' b=none) E s1) E s
 done:∀(X:Cx),X.prog=P->X.w=w->X.K=K->X.calm=true->∀(i:Nat) (pins:List (Addr×Obj)) (s:Shared) (σ:St) (H:Hp) (E:Value->Shared->Prop),Inv X pins σ H s->(∀b∈fp,FpOk X pins H b)->tn i s.heap->J.stop i H ->
  wpAny (model P w) X.A (pyNext (.ref it)) (fun r s1=>r=none/\Inv X pins σ H s1) E s
 self:∀(A:Around) (i:Nat) (s:Shared) (Q:Value->Shared->Prop) (E:Value->Shared->Prop),tn i s.heap->Q (.ref it) s->wpAny (model P w) A (pyIter (.ref it)) Q E s
abbrev TI:=St->Hp->(It->Hp->Prop)->Prop
def PIE (X:Cx) (pins:List (Addr×Obj)) (σ:St) (tg:Expr) (R:It->Hp->Prop) (itv:Value) (s2:Shared):Prop :=
 ∃(it:Addr) (fp:List Addr) (tn:Nat->Heap->Prop) (J:It) (H':Hp),itv=.ref it/\Inv X pins σ H' s2/\Turn X.prog X.w X.K tg J fp it tn/\tn 0 s2.heap/\(∀b∈fp,FpOk X pins H' b)/\R J H'
def PI (X:Cx) (tg iter:Expr) (wi:TI):Prop :=
 ∀(pins:List (Addr×Obj)) (s:Shared) (σ:St) (H:Hp) (R:It->Hp->Prop),Inv X pins σ H s->wi σ H R ->
  wpAny (model X.prog X.w) X.A (eval iter X.env) (fun v s1=>wpAny (model X.prog X.w) X.A (pyIter v) (PIE X pins σ tg R) X.xe s1) X.xe s
def zci {M:Model}{A:Around}{E:Value->Shared->Prop}{s:Shared}{tg:Expr}{it:Addr}{u:Value}{o:Obj}{n:String}{vs:Array Value}{Q:Unit->Shared->Prop}(ho:s.heap.get? it=some o) (hc:o.cls=.type n) (hd:o.data=.fields vs)
  (hn:["enumerate", "zip", "dict_itemiterator", "dict_reverseitemiterator", "odict_iterator", "itertools.zip_longest", "itertools.pairwise"].contains n=false) (hQ:Q () s):wpAny M A (letOwnedTupleGo tg (.ref it) u) Q E s:=by
 unfold letOwnedTupleGo
 cases tg<;>first
  | exact zR hQ
  | (cases u<;>first
    | exact zR hQ
    | (refine zv (wpAny_load ho ?_)
       rw [hc,hd]
       show wpAny M A (if (["enumerate", "zip", "dict_itemiterator", "dict_reverseitemiterator", "odict_iterator", "itertools.zip_longest", "itertools.pairwise"].contains n&&vs[0]?==some (rawInt _))=true then _ else _) Q E s
       rw [zX (by intro h;rw [hn,Bool.false_and] at h;cases h)]
       exact zR hQ))
def Itl (K:PySem.W.Frag) (a:Addr):It :=
 ⟨fun i H=>∃xs x,SqL K H a xs/\xs[i]?=some x,fun i H x H'=>H'=H/\∀xs,SqL K H a xs->xs[i]?=some x,fun i H=>∃xs,SqL K H a xs/\xs.length<=i⟩
def Itt (K:PySem.W.Frag) (a:Addr):It :=
 ⟨fun i H=>∃xs x,SqT K H a xs/\xs[i]?=some x,fun i H x H'=>H'=H/\∀xs,SqT K H a xs->xs[i]?=some x,fun i H=>∃xs,SqT K H a xs/\xs.length<=i⟩
def Itr (lo:Int) (n:Nat):It:=⟨fun i _=>i<n,fun i H x H'=>H'=H/\x=.int (lo+i),fun i _=>n<=i⟩
def zkT {P:Program}{w:World}{K:PySem.W.Frag}{tg:Expr}(a it:Addr):Turn P w K tg (Itl K a) [it] it (fun i h=>h.IsListIter it a i) where
 mem:=by simp
 obj:=fun i h st b hb=>by
  have e:b=it:=by simpa using hb
  subst e
  obtain ⟨o,e,c,d⟩:=st
  exact ⟨o,e,fun v z=>by rw [d] at z;cases z⟩
 keep:=fun i h h' st k=>st.at fun o e=>k it (by simp) o e
 item:=by
  intro X hP hw hK hc i pins s σ H E I hf st hg
  subst hP hw hK
  obtain ⟨xs,x,hq,hx⟩:=hg
  obtain ⟨its,rv,p,hz⟩:=I.list hq
  obtain ⟨u,hu,ru⟩:=rv.get hx
  obtain ⟨f0,f1,f2,f3,f4,f5⟩:=hf it (by simp)
  refine wpAny_pyNext_list_item st p.isList (x:=u) (by simpa using hu) fun h' st' sb=>?_
  have I1:Inv X pins σ H { s with heap:=h' }:=I.turned (t':=s.toks) (fun b o hb e=>(sb.2 b hb).trans e) f0 f1 f3 f4 f5
  obtain ⟨o,e,c,d⟩:=id st'
  exact ⟨u,rfl,zci (s:={ s with heap:=h' }) e c d (by decide) ⟨x,H,I1,ru,⟨rfl,fun ys hy=>by rw [I.list_inj hy hq];exact hx⟩,st',fun b hb=>(hf b hb).1⟩⟩
 done:=by
  intro X hP hw hK hc i pins s σ H E I hf st hg
  subst hP hw hK
  obtain ⟨xs,hq,hx⟩:=hg
  obtain ⟨its,rv,p,hz⟩:=I.list hq
  obtain ⟨f0,f1,f2,f3,f4,f5⟩:=hf it (by simp)
  have hl:=rv.length
  exact wpAny_pyNext_list_end (I.ok.hd hc) st p.isList (by simp;omega) fun h' eb=>⟨rfl,I.turned (t':=s.toks) (fun b o hb e=>eb b o hb e) f0 f1 f3 f4 f5⟩
 self:=fun _ _ _ _ _ st h=>wpAny_pyIter_listiter st h
def zkU {P:Program}{w:World}{K:PySem.W.Frag}{tg:Expr}(a it:Addr):Turn P w K tg (Itt K a) [it] it (fun i h=>h.IsTupleIter it a i) where
 mem:=by simp
 obj:=fun i h st b hb=>by
  have e:b=it:=by simpa using hb
  subst e
  obtain ⟨o,e,c,d⟩:=st
  exact ⟨o,e,fun v z=>by rw [d] at z;cases z⟩
 keep:=fun i h h' st k=>st.at fun o e=>k it (by simp) o e
 item:=by
  intro X hP hw hK hc i pins s σ H E I hf st hg
  subst hP hw hK
  obtain ⟨xs,x,hq,hx⟩:=hg
  obtain ⟨its,rv,p,hz⟩:=I.tuple hq
  obtain ⟨u,hu,ru⟩:=rv.get hx
  obtain ⟨f0,f1,f2,f3,f4,f5⟩:=hf it (by simp)
  refine wpAny_pyNext_tuple_item st (show s.heap.IsTuple a its.toArray from p) (x:=u) (by simpa using hu) fun h' st' sb=>?_
  have I1:Inv X pins σ H { s with heap:=h' }:=I.turned (t':=s.toks) (fun b o hb e=>(sb.2 b hb).trans e) f0 f1 f3 f4 f5
  obtain ⟨o,e,c,d⟩:=id st'
  exact ⟨u,rfl,zci (s:={ s with heap:=h' }) e c d (by decide) ⟨x,H,I1,ru,⟨rfl,fun ys hy=>by rw [I.tuple_inj hy hq];exact hx⟩,st',fun b hb=>(hf b hb).1⟩⟩
 done:=by
  intro X hP hw hK hc i pins s σ H E I hf st hg
  subst hP hw hK
  obtain ⟨xs,hq,hx⟩:=hg
  obtain ⟨its,rv,p,hz⟩:=I.tuple hq
  obtain ⟨f0,f1,f2,f3,f4,f5⟩:=hf it (by simp)
  have hl:=rv.length
  exact wpAny_pyNext_tuple_end (I.ok.hd hc) st (show s.heap.IsTuple a its.toArray from p) (by simp;omega) fun h' eb=>⟨rfl,I.turned (t':=s.toks) (fun b o hb e=>eb b o hb e) f0 f1 f3 f4 f5⟩
 self:=fun _ _ _ _ _ st h=>wpAny_pyIter_tupleiter st h
def zkV {P:Program}{w:World}{K:PySem.W.Frag}{tg:Expr}(it:Addr) (lo:Int) (n:Nat):Turn P w K tg (Itr lo n) [it] it (fun i h=>IsRangeIter h it (lo+(i:Nat)*1) ((n:Int)-(i:Nat)) 1) where
 mem:=by simp
 obj:=fun i h st b hb=>by
  have e:b=it:=by simpa using hb
  subst e
  exact ⟨_,st,fun v z=>by
   have z':Data.fields _=Data.cell v:=z
   cases z'⟩
 keep:=fun i h h' st k=>k it (by simp) _ st
 item:=by
  intro X hP hw hK hc i pins s σ H E I hf st hg
  subst hP hw hK
  obtain ⟨f0,f1,f2,f3,f4,f5⟩:=hf it (by simp)
  have W:=Walks.range (prog:=X.prog) (w:=X.w) (I.ok.hd hc) it lo 1 n
  refine W.item i s _ _ hg st fun v h' tk hv st' kk=>?_
  obtain ⟨t,rfl⟩:=hv
  have I1:Inv X pins σ H { s with heap:=h',toks:=tk }:=I.turned (fun b o hb e=>kk b o (by simpa using hb) e) f0 f1 f3 f4 f5
  refine ⟨_,rfl,zci (s:={ s with heap:=h',toks:=tk }) (n := "range_iterator") st' rfl rfl (by decide) ⟨.int (lo+i),H,I1,⟨t,?_⟩,⟨rfl,rfl⟩,st',fun b hb=>(hf b hb).1⟩⟩
  rw [Int.mul_one]
 done:=by
  intro X hP hw hK hc i pins s σ H E I hf st hg
  subst hP hw hK
  obtain ⟨f0,f1,f2,f3,f4,f5⟩:=hf it (by simp)
  exact wpAny_pyNext_range_end (I.ok.hd hc) st (by have:n<=i:=hg;omega) fun h' eb=>⟨rfl,I.turned (t':=s.toks) (fun b o hb e=>eb b o hb e) f0 f1 f3 f4 f5⟩
 self:=fun _ _ _ _ _ st h=>wpAny_pyIter_rangeiter st h
section
variable {X:Cx}{tg:Expr}
def zkW {pins:List (Addr×Obj)}{σ:St}{H:Hp}{s:Shared}{R:It->Hp->Prop}{E:Value->Shared->Prop}{lo hi:Int}{t u v:Tok}{tk:Nat}(I:Inv X pins σ H s) (h1 : -(2 ^ 62)<=lo) (h2:lo<2 ^ 62) (h3 : -(2 ^ 62)<=hi) (h4:hi<2 ^ 62)
  (q:R (Itr lo (hi-lo).toNat) H):wpAny (model X.prog X.w) X.A (pyIter (.ref s.heap.objs.size)) (PIE X pins σ tg R) E { s with heap:=s.heap.push { cls:=.type "range", data:=.fields #[.int lo t,.int hi u,.int 1 v] },toks:=tk }:=by
 refine wpAny_pyIter_range (IsRange.new ..) (small_one h1 h2 h3 h4) ?_
 have I1:Inv X pins σ H { s with heap:=s.heap.push { cls:=.type "range", data:=.fields #[.int lo t,.int hi u,.int 1 v] },toks:=tk }:=I.kept fun b o e=>yv _ e
 refine ⟨(s.heap.push { cls:=.type "range", data:=.fields #[.int lo t,.int hi u,.int 1 v] }).objs.size,[(s.heap.push { cls:=.type "range", data:=.fields #[.int lo t,.int hi u,.int 1 v] }).objs.size],_,_,H,rfl,
  I1.kept (t':=tk) fun b o e=>yv _ e,zkV _ lo (hi-lo).toNat,?_,fun b hb=>?_,q⟩
 ·have e1:lo+((0:Nat):Int)*1=lo:=by simp
  have e2:(((hi-lo).toNat:Nat):Int)-((0:Nat):Int)=Builtin.Range.rangeSize lo hi 1:=by rw [rangeSize_one];split<;>omega
  show IsRangeIter _ _ (lo+((0:Nat):Int)*1) ((((hi-lo).toNat:Nat):Int)-((0:Nat):Int)) 1
  rw [e1,e2]
  exact jv _ rfl
 ·have e:b=(s.heap.push { cls:=.type "range", data:=.fields #[.int lo t,.int hi u,.int 1 v] }).objs.size:=by simpa using hb
  subst e
  exact I1.fpOk (yf _) (I1.hok.fresh (yf _))
def iRng1 (ta:TA):TI:=fun σ H R=>ta σ H fun vs H1=>∃j:Int,vs=[.int j] /\ -(2 ^ 62)<=j/\j<2 ^ 62/\R (Itr 0 j.toNat) H1
def iRng2 (ta:TA):TI:=fun σ H R=>ta σ H fun vs H1=>∃i j:Int,vs=[.int i,.int j]/\(-(2 ^ 62)<=i/\i<2 ^ 62 /\ -(2 ^ 62)<=j/\j<2 ^ 62)/\R (Itr i (j-i).toNat) H1
def zkX {a:Expr} {ta:TA} {p pos:Pos} (hg:Gl X "range") (hm:X.mg "range" = none) (ha:PA X [a] ta) (hs:starEach [a] X.env=[(false,eval a X.env)]:=by rfl):PI X tg (.Call (.Name "range" p) [a] [] pos) (iRng1 ta):=by
 intro pins s σ H R I h
 refine Call_ (zch I hg hm boot_range (PyProof.Rows.callWith_type1 (thn (ha pos pins s σ H _ I h) fun us s1 ⟨vs,H1,I1,r1,q1⟩=>?_) hs rfl))
 obtain ⟨j,e,q1,q2,q⟩:=q1
 subst e
 cases r1 with
 | cons r rr =>
  cases rr
  obtain ⟨t,rfl⟩:=r
  exact call_range_1 (zkW I1 (by omega) (by omega) q1 q2 (by simpa using q))
def zkY (wi:TI) (g:TG) (tb:TS):TS:=fun D σ H=>wi σ H fun J H1=>∃W:Nat->Nat->St->Hp->Prop,(∃m,W 0 m σ H1)/\∀i m σ H,W i m σ H ->
 (J.stop i H/\D.nx σ H)\/(J.go i H/\∃N:St->Hp->Prop,(∀aj H',N aj H'->∃m',m'<m/\W (i+1) m' aj H')/\∀x H',J.yld i H x H'->g x σ H' fun aD H2=>tb { D with nx:=N,ct:=N,bk:=D.nx } aD H2)
def pinsAt (fp:List Addr) (h:Heap):List (Addr×Obj):=fp.filterMap fun b=>(h.get? b).map fun o=>(b,o)
def zcj {fp:List Addr}{h:Heap}{b:Addr}{o:Obj}(hb:b∈fp) (e:h.get? b=some o):(b,o)∈pinsAt fp h:=List.mem_filterMap.mpr ⟨b,hb,by rw [e];rfl⟩
def zkZ {fp:List Addr}{h:Heap}{p:Addr×Obj}(hp:p∈pinsAt fp h):p.1∈fp/\h.get? p.1=some p.2:=by
 obtain ⟨b,hb,e⟩:=List.mem_filterMap.mp hp
 cases q:h.get? b with
 | none=>rw [q] at e;cases e
 | some o =>
  rw [q] at e
  have e':(b,o)=p:=Option.some.inj e
  subst e'
  exact ⟨hb,q⟩
def Inv.pinned {pins:List (Addr×Obj)}{σ:St}{H:Hp}{s:Shared}{fp:List Addr}(I:Inv X pins σ H s) (hf:∀b∈fp,FpOk X pins H b) (ho:∀b∈fp,∃o,s.heap.get? b=some o/\∀v,o.data ≠ .cell v):Inv X (pins++pinsAt fp s.heap) σ H s :=
 I.pins_of fun p hp=>(wE.mp hp).elim (fun z=>I.pin p (jj _ z)) fun z=>by
  obtain ⟨hb,e⟩:=zkZ z
  obtain ⟨f0,f1,f2,_⟩:=hf p.1 hb
  obtain ⟨o,e',d⟩:=ho p.1 hb
  rw [e] at e';cases e'
  exact ⟨e,f0,f1,f2,d⟩
def Inv.unpinned {pins pl:List (Addr×Obj)}{σ:St}{H:Hp}{s:Shared}(I:Inv X (pins++pl) σ H s):Inv X pins σ H s:=I.pins_of fun p hp=>I.pin p (jj _ (zbM _ hp))
def zk0 {iter:Expr}{body:List Stmt}{wi:TI}{g:TG}{tb:TS}{pos:Pos}(hp:PassesOwn (model X.prog X.w) X.A X.env X.xe) (hc:X.calm=true) (hi:PI X tg iter wi) (hg:PG X tg g) (hb:PSs X body tb)
  (hs:∀x,foldedSetIterable iter X.env x=pure x:=by intro _;rfl):PS X (.For tg iter body [] pos) (zkY wi g tb):=by
 intro pins s σ H D I h
 refine wpAny_For (thn (hi pins s σ H _ I h) fun v s1 h1=>thn h1 fun itv s2 h2=>?_) hs
 obtain ⟨it,fp,tn,J,H2,e,I2,T,st2,f2,W,⟨m0,w0⟩,turn⟩:=h2
 subst e
 have stat:∀{H':Hp},(∀b∈fp,H' b=none)->∀b∈fp,FpOk X pins H' b:=fun hn b hb=>⟨hn b hb,(f2 b hb).2⟩
 refine codeAny_forLoop_any (fun n s'=>∃i aj H',Inv X pins aj H' s'/\tn i s'.heap/\(∀b∈fp,H' b=none)/\W i n aj H') ?_ m0 ⟨0,σ,H2,I2,st2,fun b hb=>(f2 b hb).1,w0⟩
 rintro n s3 ⟨i,ax,H3,I3,st3,fr3,w3⟩
 rcases turn i n ax H3 w3 with ⟨stop,qn⟩|⟨go,N,hN,step⟩
 ·refine wpAny_passesOwn hp (thn (T.done X rfl rfl rfl hc i pins s3 ax H3 X.xe I3 (stat fr3) st3 stop) fun r s4 ⟨hr,I4⟩=>?_)
  subst hr
  exact wpAny_execs_nil ⟨ax,H3,I4,qn⟩
 ·refine wpAny_passesOwn hp (thn (T.item X rfl rfl rfl hc i pins s3 ax H3 X.xe I3 (stat fr3) st3 go) fun r s4 ⟨u,hr,h4⟩=>?_)
  subst hr
  refine wpAny_passesOwn hp (thn h4 fun _ s5 ⟨x,H5,I5,r5,y5,st5,fr5⟩=>?_)
  have I5':=I5.pinned (stat fr5) (T.obj _ _ st5)
  refine wpAny_passesOwn hp (thn (hg _ s5 ax H5 x u _ I5' r5 (step x H5 y5)) fun _ s6 ⟨aG,H6,I6,q6⟩=>?_)
  refine wpAny_passesOwn hp (thn (hb _ s6 aG H6 _ I6 q6) fun f s7 q7=>?_)
  have again:∀{ay:St} {H7:Hp},Inv X (pins++pinsAt fp s5.heap) ay H7 s7->N ay H7->∃m,m<n/\∃i aj H',Inv X pins aj H' s7/\tn i s7.heap/\(∀b∈fp,H' b=none)/\W i m aj H':=fun {ay H7} I7 n7=>by
   obtain ⟨m',hm,w7⟩:=hN ay H7 n7
   refine ⟨m',hm,i+1,ay,H7,I7.unpinned,T.keep _ _ _ st5 fun b hb o e=>(I7.pin (b,o) (jj _ (jj _ (zcj hb e)))).1,fun b hb=>?_,w7⟩
   obtain ⟨o,e,d⟩:=T.obj _ _ st5 b hb
   exact (I7.pin (b,o) (jj _ (jj _ (zcj hb e)))).2.1
  cases f with
  | next=>obtain ⟨ay,H7,I7,n7⟩:=q7;exact again I7 n7
  | cont=>obtain ⟨ay,H7,I7,n7⟩:=q7;exact again I7 n7
  | brk=>obtain ⟨ay,H7,I7,q7⟩:=q7;exact ⟨ay,H7,I7.unpinned,q7⟩
  | ret v=>obtain ⟨x7,ay,H7,I7,r7,q7⟩:=q7;exact ⟨x7,ay,H7,I7.unpinned,r7,q7⟩
end
def for_tup {K:PySem.W.Frag}{a:Addr}{xs:List V}{g:TG}{tb:TS}{D:Ends}{σ:St}{H:Hp}(Pv:Nat->St->Hp->Prop) (h0:Pv 0 σ H) (hl:∀i σ H,i<=xs.length->Pv i σ H->SqT K H a xs)
  (hs:∀i x σ H,xs[i]?=some x->Pv i σ H->g x σ H fun aD H2=>tb { D with nx:=Pv (i+1),ct:=Pv (i+1),bk:=D.nx } aD H2) (hd:∀σ H,Pv xs.length σ H->D.nx σ H) :
  ∃W:Nat->Nat->St->Hp->Prop,(∃m,W 0 m σ H)/\∀i m σ H,W i m σ H ->
   ((Itt K a).stop i H/\D.nx σ H)\/((Itt K a).go i H/\∃N:St->Hp->Prop,(∀aj H',N aj H'->∃m',m'<m/\W (i+1) m' aj H')/\∀x H',(Itt K a).yld i H x H'->g x σ H' fun aD H2=>tb { D with nx:=N,ct:=N,bk:=D.nx } aD H2):=by
 refine ⟨fun i m σ H=>m=xs.length-i/\i<=xs.length/\Pv i σ H,⟨xs.length,by simp,yR _,h0⟩,?_⟩
 rintro i m σ H ⟨rfl,hi,p⟩
 have q:=hl i σ H hi p
 by_cases hlt:i<xs.length
 ·refine .inr ⟨⟨xs,xs[i],q,by simp [hlt]⟩,Pv (i+1),fun aj H' p'=>⟨xs.length-(i+1),by omega,rfl,hlt,p'⟩,fun x H' y=>?_⟩
  obtain ⟨e,y⟩:=y
  subst e
  exact hs i x σ _ (y xs q) p
 ·have e:i=xs.length:=by omega
  subst e
  exact .inl ⟨⟨xs,q,yf _⟩,hd σ H p⟩
abbrev R2:=V->V->Hp->VK->Prop
def OpR (X:Cx) (f:Value->Value->Sem Value) (r:R2):Prop :=
 ∀(pins:List (Addr×Obj)) (s:Shared) (σ:St) (H:Hp) (x y:V) (v u:Value) (Q:VK),Inv X pins σ H s->RelV x v->RelV y u->r x y H Q ->
  wpAny (model X.prog X.w) X.A (f v u) (EP X pins σ Q) X.xe s
def UnR (X:Cx) (f:Value->Sem Value) (r:V->Hp->VK->Prop):Prop :=
 ∀(pins:List (Addr×Obj)) (s:Shared) (σ:St) (H:Hp) (x:V) (v:Value) (Q:VK),Inv X pins σ H s->RelV x v->r x H Q ->
  wpAny (model X.prog X.w) X.A (f v) (EP X pins σ Q) X.xe s
def CallR (X:Cx) (f:Value) (r:List V->Hp->VK->Prop):Prop :=
 ∀(pins:List (Addr×Obj)) (s:Shared) (σ:St) (H:Hp) (xs:List V) (us:List Value) (Q:VK),Inv X pins σ H s->Vals xs us->r xs H Q ->
  wpAny (model X.prog X.w) X.A (call f us) (EP X pins σ Q) X.xe s
def tOp (r:R2) (ta tb:TE):TE:=fun σ H Q=>ta σ H fun x H1=>tb σ H1 fun y H2=>r x y H2 Q
def tUn (r:V->Hp->VK->Prop) (ta:TE):TE:=fun σ H Q=>ta σ H fun x H1=>r x H1 Q
def rI (C:Int->Int->Prop) (g:Int->Int->V):R2:=fun x y H Q=>∃i j,x=.int i/\y=.int j/\C i j/\Q (g i j) H
def rI0 (g:Int->Int->V):R2:=fun x y H Q=>∃i j,x=.int i/\y=.int j/\Q (g i j) H
def rU (g:Int->V):V->Hp->VK->Prop:=fun x H Q=>∃i,x=.int i/\Q (g i) H
section
variable {X:Cx}{a b c:Expr}{ta tb tc:TE}{pos:Pos}
def binT (ha:PE X a ta) (hb:PE X b tb) {pins:List (Addr×Obj)}{s:Shared}{σ:St}{H:Hp}{R:V->V->Hp->Prop}(I:Inv X pins σ H s)
  (h:ta σ H fun x H1=>tb σ H1 fun y H2=>R x y H2) {Q:Value->Shared->Prop} {f:Value->Value->Sem Value}
  (hf:∀v u s2 x y H2,Inv X pins σ H2 s2->RelV x v->RelV y u->R x y H2->wpAny (model X.prog X.w) X.A (f v u) Q X.xe s2) :
  wpAny (model X.prog X.w) X.A (eval a X.env) (fun v ak=>wpAny (model X.prog X.w) X.A (eval b X.env) (fun u af=>wpAny (model X.prog X.w) X.A (f v u) Q X.xe af) X.xe ak) X.xe s:=by
 refine thn (ha pins s σ H _ I h) fun v s1 ⟨x,H1,I1,r1,q1⟩=>?_
 refine thn (hb pins s1 σ H1 _ I1 q1) fun u s2 ⟨y,H2,I2,r2,q2⟩=>?_
 exact hf v u s2 x y H2 I2 r1 r2 q2
def zk2 {op:Operator}{r:R2}(ho:OpR X (binaryOp op) r) (ha:PE X a ta) (hb:PE X b tb):PE X (.BinOp a op b pos) (tOp r ta tb):=by
 intro pins s σ H Q I h
 exact wpAny_BinOp (binT ha hb I h fun v u s2 x y H2 I2 rx ry q=>ho pins s2 σ H2 x y v u Q I2 rx ry q)
def zk3 {op:UnaryOp}{r:V->Hp->VK->Prop}(ho:UnR X (unaryOp op) r) (ha:PE X a ta):PE X (.UnaryOp op a pos) (tUn r ta):=by
 intro pins s σ H Q I h
 exact UnaryOp_ (thn (ha pins s σ H _ I h) fun v s1 ⟨x,H1,I1,r1,q1⟩=>ho pins s1 σ H1 x v Q I1 r1 q1)
def opI {f:Value->Value->Sem Value}{C:Int->Int->Prop}{g:Int->Int->Int}
  (rule:∀(i j:Int) (t u:Tok) (s:Shared) (Q:Value->Shared->Prop) (E:Value->Shared->Prop),C i j->Q (.int (g i j) s.toks) { s with toks:=s.toks+1 }->wpAny (model X.prog X.w) X.A (f (.int i t) (.int j u)) Q E s) :
  OpR X f (rI C fun i j=>.int (g i j)):=by
 intro pins s σ H x y v u Q I rx ry h
 obtain ⟨i,j,rfl,rfl,hc,q⟩:=h
 obtain ⟨t,rfl⟩:=rx
 obtain ⟨t',rfl⟩:=ry
 exact rule i j t t' s _ _ hc ⟨.int (g i j),H,I.tok _,⟨_,rfl⟩,q⟩
def zeb {f:Value->Value->Sem Value}{g:Int->Int->Int}
  (rule:∀(i j:Int) (t u:Tok) (s:Shared) (Q:Value->Shared->Prop) (E:Value->Shared->Prop),Q (.int (g i j) s.toks) { s with toks:=s.toks+1 }->wpAny (model X.prog X.w) X.A (f (.int i t) (.int j u)) Q E s) :
  OpR X f (rI0 fun i j=>.int (g i j)):=by
 intro pins s σ H x y v u Q I rx ry h
 obtain ⟨i,j,rfl,rfl,q⟩:=h
 obtain ⟨t,rfl⟩:=rx
 obtain ⟨t',rfl⟩:=ry
 exact rule i j t t' s _ _ ⟨.int (g i j),H,I.tok _,⟨_,rfl⟩,q⟩
def zfZ {f:Value->Value->Sem Value}{g:Int->Int->Bool}
  (rule:∀(i j:Int) (t u:Tok) (s:Shared) (Q:Value->Shared->Prop) (E:Value->Shared->Prop),Q (.bool (g i j)) s->wpAny (model X.prog X.w) X.A (f (.int i t) (.int j u)) Q E s) :
  OpR X f (rI0 fun i j=>.bl (g i j)):=by
 intro pins s σ H x y v u Q I rx ry h
 obtain ⟨i,j,rfl,rfl,q⟩:=h
 obtain ⟨t,rfl⟩:=rx
 obtain ⟨t',rfl⟩:=ry
 exact rule i j t t' s _ _ ⟨.bl (g i j),H,I,rfl,q⟩
def CPow (i j:Int):Prop:=0<=j/\j<=1000000/\i.natAbs<2 ^ 64
def CMul (i j:Int):Prop:=(-(2 ^ 64)<i/\i<2 ^ 64)\/(-(2 ^ 64)<j/\j<2 ^ 64)
def CMul.ok {i j:Int}(h:CMul i j):IntMulOk i j:=by
 rcases h with ⟨h1,h2⟩|⟨h1,h2⟩
 ·exact .of_left (intBits_le_64 h1 h2)
 ·exact .of_right (intBits_le_64 h1 h2)
def zk4 (k:Nat):(0:Int)<=2 ^ k:=by
 rw [two_pow_cast]
 exact Int.natCast_nonneg _
def zk5:OpR X (binaryOp .Add) (rI0 fun i j=>.int (i+j)):=zeb fun _ _ _ _ _ _ _ q=>add_int q
def zk6:OpR X (binaryOp .Sub) (rI0 fun i j=>.int (i-j)):=zeb fun _ _ _ _ _ _ _ q=>sub_int q
def zk7:OpR X (binaryOp .Mult) (rI CMul fun i j=>.int (i*j)):=opI fun _ _ _ _ _ _ _ hc q=>mul_int q hc.ok
def zk8:OpR X (binaryOp .Mod) (rI (fun _ j=>j≠0) fun i j=>.int (i.fmod j)):=opI fun _ _ _ _ _ _ _ hc q=>mod_int' hc q
def zk9:OpR X (binaryOp .Pow) (rI CPow fun i j=>.int (i ^ j.toNat)):=opI fun _ _ _ _ _ _ _ hc q=>pow_int_small hc.1 hc.2.1 hc.2.2 q
def zla:OpR X (binaryOp .RShift) (rI (fun _ j=>0<=j) fun i j=>.int (i/2 ^ j.toNat)):=opI fun i j _ _ _ _ _ hc q =>
 rshift_int hc (by rw [Int.fdiv_eq_ediv_of_nonneg i (zk4 _)];exact q)
def zlb:OpR X (binaryOp .BitAnd) (rI0 fun i j=>.int (Builtin.bitAnd i j)):=zeb fun _ _ _ _ _ _ _ q=>and_int q
def unI {f:Value->Sem Value}{g:Int->Int}
  (rule:∀(i:Int) (t:Tok) (s:Shared) (Q:Value->Shared->Prop) (E:Value->Shared->Prop),Q (.int (g i) s.toks) { s with toks:=s.toks+1 }->wpAny (model X.prog X.w) X.A (f (.int i t)) Q E s) :
  UnR X f (rU fun i=>.int (g i)):=by
 intro pins s σ H x v Q I rx h
 obtain ⟨i,rfl,q⟩:=h
 obtain ⟨t,rfl⟩:=rx
 exact rule i t s _ _ ⟨.int (g i),H,I.tok _,⟨_,rfl⟩,q⟩
def zlc:UnR X (unaryOp .USub) (rU fun i=>.int (-i)):=unI fun _ _ _ _ _ q=>neg_int q
def zf0 {pins:List (Addr×Obj)}{σ:St}{H:Hp}{s:Shared}{Q:VK}{k k':Bool}(I:Inv X pins σ H s) (q:Q (.bl k) H) (e:k=k'):EP X pins σ Q (.bool k') s:=by
 subst e
 exact ⟨.bl k,H,I,rfl,q⟩
def zld:OpR X (compareOp .Lt) (rI0 fun i j=>.bl (decide (i<j))):=zfZ fun _ _ _ _ _ _ _ q=>lt_int q
def zle:OpR X (compareOp .Gt) (rI0 fun i j=>.bl (decide (j<i))):=zfZ fun _ _ _ _ _ _ _ q=>gt_int q
def zlf:OpR X (compareOp .In) (fun x y H Q=>∃i j,x=.str i/\y=.str j/\Q (.bl (!(Builtin.Str.occurrences j i 0 j.length 1).isEmpty)) H):=by
 intro pins s σ H x y v u Q I rx ry h
 obtain ⟨i,j,rfl,rfl,q⟩:=h
 obtain ⟨t,rfl⟩:=rx
 obtain ⟨t',rfl⟩:=ry
 exact in_str (zf0 I q rfl)
def zlg:OpR X (compareOp .IsNot) (fun x y H Q=>y=.non/\Q (.bl (!decide (x=.non))) H):=by
 intro pins s σ H x y v u Q I rx ry h
 obtain ⟨rfl,q⟩:=h
 cases ry
 refine isnot_none_gen (zf0 I q ?_)
 cases x<;>first
  | (cases rx;rfl)
  | (obtain ⟨t,rfl⟩:=rx;rfl)
def OpR.or {f:Value->Value->Sem Value}{r r':R2}(h:OpR X f r) (h':OpR X f r'):OpR X f (fun x y H Q=>r x y H Q\/r' x y H Q):=by
 intro pins s σ H x y v u Q I rx ry q
 rcases q with q|q
 ·exact h pins s σ H x y v u Q I rx ry q
 ·exact h' pins s σ H x y v u Q I rx ry q
def nomark (b:Expr) {op:CmpOp}(h:op ≠ .In:=by decide) (h2:op ≠ .NotIn:=by decide):behindInMarks op b=false:=by
 have e1:(op==CmpOp.In)=false:=by cases op<;>first|rfl|exact absurd rfl h
 have e2:(op==CmpOp.NotIn)=false:=by cases op<;>first|rfl|exact absurd rfl h2
 cases b<;>simp [behindInMarks,e1,e2]
def zlh {op:CmpOp}{r:R2}(ho:OpR X (compareOp op) r) (ha:PE X a ta) (hb:PE X b tb) (hm:behindInMarks op b=false):PE X (.Compare a [op] [b] pos) (tOp r ta tb):=by
 intro pins s σ H Q I h
 exact wpAny_Compare1 (binT ha hb I h fun v u s2 x y H2 I2 rx ry q=>ho pins s2 σ H2 x y v u Q I2 rx ry q) hm
def zli (t:TE):TT:=fun σ H Q=>t σ H fun x H'=>∃k,x=.bl k/\Q k H'
def zlj {op:CmpOp}{r:R2}(ho:OpR X (compareOp op) r) (ha:PE X a ta) (hb:PE X b tb) (hm:behindInMarks op b=false):PT X (.Compare a [op] [b] pos) (zli (tOp r ta tb)):=by
 intro pins s σ H Q I h
 refine wpAny_isTrue_Compare1 (thn (ha pins s σ H _ I h) fun v s1 ⟨x,H1,I1,r1,q1⟩=>thn (hb pins s1 σ H1 _ I1 q1) fun u s2 ⟨y,H2,I2,r2,q2⟩ =>
  thn (ho pins s2 σ H2 x y v u _ I2 r1 r2 q2) fun c s3 ⟨z,H3,I3,r3,k,e,q3⟩=>?_) hm
 subst e
 cases r3
 exact zaF ⟨H3,I3,q3⟩
def zcl:(sizeLine:Nat)<2 ^ 63:=by rw [sizeLine_eq];decide
def zlk:OpR X (binaryOp .Add) (fun x y H Q=>∃i j,x=.str i/\y=.str j/\i.length+j.length<=sizeLine/\Q (.str (i++j)) H):=by
 intro pins s σ H x y v u Q I rx ry h
 obtain ⟨i,j,rfl,rfl,hz,q⟩:=h
 obtain ⟨t,rfl⟩:=rx
 obtain ⟨t',rfl⟩:=ry
 exact add_str (fun t' tk=>⟨.str (i++j),H,I.tok _,⟨_,rfl⟩,q⟩) hz
def w6 {x:V}{us:List Value}(r:Vals [x] us):∃u,us=[u]/\RelV x u:=by
 cases r with
 | cons r1 r2=>cases r2;exact ⟨_,rfl,r1⟩
def zdc {x y:V}{us:List Value}(r:Vals [x,y] us):∃u w',us=[u,w']/\RelV x u/\RelV y w':=by
 cases r with
 | cons r1 r2 =>
  cases r2 with
  | cons r3 r4=>cases r4;exact ⟨_,_,rfl,r1,r3⟩
def zll (hc:X.calm=true):CallR X (.builtin "max") (fun xs H Q=>∃i j,xs=[.int i,.int j]/\Q (.int (if j>i then j else i)) H):=by
 intro pins s σ H xs us Q I r h
 obtain ⟨i,j,rfl,q⟩:=h
 obtain ⟨u,w',rfl,⟨t,rfl⟩,⟨t',rfl⟩⟩:=zdc r
 refine max_two_ints (I.ok.hd hc) fun h' tk k=>⟨_,H,I.kept k,?_,q⟩
 by_cases hj:j>i
 ·rw [zH hj,zH hj];exact ⟨_,rfl⟩
 ·rw [zX hj,zX hj];exact ⟨_,rfl⟩
def zlm (hc:X.calm=true):CallR X (.builtin "min") (fun xs H Q=>∃i j,xs=[.int i,.int j]/\Q (.int (if j<i then j else i)) H):=by
 intro pins s σ H xs us Q I r h
 obtain ⟨i,j,rfl,q⟩:=h
 obtain ⟨u,w',rfl,⟨t,rfl⟩,⟨t',rfl⟩⟩:=zdc r
 refine min_two_ints (I.ok.hd hc) fun h' tk k=>⟨_,H,I.kept k,?_,q⟩
 by_cases hj:j<i
 ·rw [zH hj,zH hj];exact ⟨_,rfl⟩
 ·rw [zX hj,zX hj];exact ⟨_,rfl⟩
def zln:CallR X (.type "int") (fun xs H Q=>(∃i,xs=[.int i]/\Q (.int i) H)\/∃k,xs=[.bl k]/\Q (.int (if k then 1 else 0)) H):=by
 intro pins s σ H xs us Q I r h
 rcases h with ⟨i,rfl,q⟩|⟨k,rfl,q⟩
 ·obtain ⟨u,rfl,t,rfl⟩:=w6 r
  exact call_int_int ⟨.int i,H,I,⟨_,rfl⟩,q⟩
 ·obtain ⟨u,rfl,r1⟩:=w6 r
  cases r1
  exact call_int_bool ⟨.int (if k then 1 else 0),H,I.tok _,⟨_,rfl⟩,q⟩
def zlo:CallR X (.type "str") (fun xs H Q=>∃i,xs=[.int i]/\i.natAbs.log2<1920/\Q (.str (toString i)) H):=by
 intro pins s σ H xs us Q I r h
 obtain ⟨i,rfl,hz,q⟩:=h
 obtain ⟨u,rfl,t,rfl⟩:=w6 r
 exact PySem.P.str_of_int hz ⟨.str _,H,I.tok _,⟨_,rfl⟩,q⟩
def LenV (K:PySem.W.Frag) (x:V) (H:Hp) (n:Nat):Prop :=
 match x with
 | .str y=>y.length<=sizeLine/\n=y.length
 | .byt y=>y.size<=sizeLine/\n=y.size
 | .ref p=>(∃xs,SqL K H p xs/\n=xs.length)\/∃xs,SqT K H p xs/\n=xs.length
 | _=>False
def zlp:CallR X (.builtin "len") (fun xs H Q=>∃x n,xs=[x]/\LenV X.K x H n/\Q (.int n) H):=by
 intro pins s σ H xs us Q I r h
 obtain ⟨x,n,rfl,e,q⟩:=h
 obtain ⟨u,rfl,rx⟩:=w6 r
 have hl:=zcl
 have hs:sizeLine=16777216:=sizeLine_eq
 cases x with
 | str y =>
  obtain ⟨t,rfl⟩:=rx
  obtain ⟨hy,e'⟩:y.length<=sizeLine/\n=y.length:=e
  subst e'
  exact len_str (by omega) ⟨.int _,H,I.tok _,⟨_,rfl⟩,q⟩
 | byt y =>
  obtain ⟨t,rfl⟩:=rx
  obtain ⟨hy,e'⟩:y.size<=sizeLine/\n=y.size:=e
  subst e'
  exact PySem.W.len_bytes (by omega) ⟨.int _,H,I.tok _,⟨_,rfl⟩,q⟩
 | ref p =>
  cases rx
  have e':(∃xs,SqL X.K H p xs/\n=xs.length)\/∃xs,SqT X.K H p xs/\n=xs.length:=e
  rcases e' with ⟨xs,hx,e'⟩|⟨xs,hx,e'⟩
  ·subst e'
   obtain ⟨its,r',pl,hz⟩:=I.list hx
   have hlen:=r'.length
   exact Calls.call_len_list pl.isList (by simp only [yP];omega) ⟨.int xs.length,H,I.tok _,⟨_,by simp only [yP];rw [hlen]⟩,q⟩
  ·subst e'
   obtain ⟨its,r',pl,hz⟩:=I.tuple hx
   have hlen:=r'.length
   exact len_tuple pl (by simp only [yP];omega) ⟨.int xs.length,H,I.tok _,⟨_,by simp only [yP];rw [hlen]⟩,q⟩
 | _=>exact (show False from e).elim
end
structure ObjM (h:Heap) (x dx C:Addr) (mA:Str->Option Value):Prop where
 obj:h.get? x=some (PySem.W.instObj C dx)
 ns:h.Ns1 dx mA
 ne:dx≠x
def zf1 {h:Heap}{dx:Addr}{mA:Str->Option Value}(n:h.Ns1 dx mA):∃od,h.get? dx=some od/\∀name,PySem.W.lookIn name od=some (mA name):=by
 obtain ⟨o,es,ep,ho,hd,hk,_,hm⟩:=n
 refine ⟨o,ho,fun name=>?_⟩
 have e:=hm name
 unfold nsFind findBy at e
 rw [<-Array.find?_toList] at e
 unfold PySem.W.lookIn
 rw [hd]
 dsimp only
 split
 ·rename_i y q
  rw [q] at e
  exact congrArg some e
 ·rename_i q
  rw [q] at e
  have a:es.toList.any (·.refKey)=false:=by
   rw [List.any_eq_false]
   intro y hy
   obtain ⟨z,t,hkey⟩:=hk y (Array.mem_toList_iff.mp hy)
   simp [DictEntry.refKey,hkey]
  have a':¬es.toList.any (·.refKey)=true:=by rw [a];exact Bool.false_ne_true
  rw [zX a']
  exact congrArg some e
def ObjM.look {h:Heap}{x dx C:Addr}{mA:Str->Option Value}(I:ObjM h x dx C mA):∃od,PySem.W.InstAt h x (PySem.W.instObj C dx) C (some od)/\∀name,PySem.W.lookIn name od=some (mA name) :=
 let ⟨od,ho,hl⟩:=zf1 I.ns
 ⟨od,⟨I.obj,rfl,rfl,ho⟩,hl⟩
section
variable {prog:Program}{w:World}{A:Around}{E:Value->Shared->Prop}{s:Shared}{K:PySem.W.Frag}{x dx C f:Addr}{mA:Str->Option Value}{name:Str}{v:Value}
end
def putF (f:Str) (v:V):List (Str×V)->List (Str×V)
 | []=>[(f,v)]
 | (g,x)::r=>if g=f then (g,v)::r else (g,x)::putF f v r
def RelO.some_of {v:V}{o:Option Value}(r:RelO (some v) o):∃u,o=some u/\RelV v u:=by
 cases o with
 | none=>exact (show False from r).elim
 | some u=>exact ⟨u,rfl,r⟩
section
variable {P:Program}{w:World}{H H':Hp}{h h':Heap}{a C dx:Addr}{fs fs':List (Str×V)}
def zlq (hok:HOk P w H h) (e:H a=some (.ins C dx fs)):∃mA,ObjM h a dx C mA/\(∀f,RelO (fs.lookup f) (mA f))/\PySem.Within mA (fs.map (·.1))/\fs.length<=1000/\H dx=some (.own a):=by
 obtain ⟨d,z,ne,ob,mA,n,r,q⟩:=(show ObjOk P w H h a (.ins C dx fs) from hok a _ e)
 exact ⟨mA,⟨ob,n,ne⟩,r,q,z,d⟩
end
structure Cls (K:PySem.W.Frag) (C:Addr):Prop where
 pg:PySem.W.plainGet K C Str.empty=true
 hd:PySem.W.hasDictIn K C=true
 po:PySem.W.plainOver K C=true
 sa:PySem.W.findIn K (.ref C) "__setattr__" = some (some (.builtin "object.__setattr__"))
def Cls.get {K:PySem.W.Frag}{C:Addr}(c:Cls K C) (f:Str):PySem.W.plainGet K C f=true:=c.pg
def NoAttr (K:PySem.W.Frag) (C:Addr) (f:Str):Prop:=PySem.W.findIn K (.ref C) f=some none
structure Con (K:PySem.W.Frag) (C:Addr) (f:Str) (v:V) (u:Value):Prop where
 at_:PySem.W.findIn K (.ref C) f=some (some u)
 rel:RelV v u
 get:PySem.W.specialIn K u "__get__" = some none
 cp:PySem.W.copiedNames.contains f=false
structure Meth (K:PySem.W.Frag) (C:Addr) (m:Str) (f:Addr):Prop where
 at_:PySem.W.findIn K (.ref C) m=some (some (.ref f))
 fn:PySem.W.isFn K (.ref f)=true
 kp:PySem.W.keepIn K (.ref f)=true
section
variable {X:Cx}{pins:List (Addr×Obj)}{σ:St}{H:Hp}{s:Shared}{a C dx:Addr}{fs:List (Str×V)}{f:Str}{v:V}{A:Around}{E:Value->Shared->Prop}
end
def sFld (K:PySem.W.Frag) (ta tv:TE) (f:Str):TS:=fun D σ H=>tv σ H fun y H1=>ta σ H1 fun x H2=>∃a C dx fs,x=.ref a/\H2 a=some (.ins C dx fs)/\Cls K C/\NoAttr K C f/\fs.length<1000 /\
 D.nx σ (upd H2 a (.ins C dx (putF f y fs)))
section
variable {X:Cx}{o e value:Expr}{f:Str}{pos pos' tpos:Pos}{ta tv:TE}
end
section
variable {X:Cx}{pins:List (Addr×Obj)}{σ:St}{H:Hp}{s:Shared}{A:Around}{E:Value->Shared->Prop}{Q:Value->Shared->Prop}{c:Value}{b:Bool}
inductive TyOf (K:PySem.W.Frag) (H:Hp):V->Value->Prop where
 | non:TyOf K H .non (.type "NoneType")
 | bl (x:Bool):TyOf K H (.bl x) (.type "bool")
 | int (i:Int):TyOf K H (.int i) (.type "int")
 | str (x:Str):TyOf K H (.str x) (.type "str")
 | flt (x:UInt64):TyOf K H (.flt x) (.type "float")
 | lst {a:Addr} {xs:List V} (e:H a=some (.lst xs)):TyOf K H (.ref a) (.type "list")
 | frz {a:Addr} {o:Obj} {xs:List V} (e:H a=some (.frz o (.lst xs))):TyOf K H (.ref a) (.type "list")
 | tup {a:Addr} {xs:List V} (e:H a=some (.tup xs)):TyOf K H (.ref a) (.type "tuple")
 | dK {a:Addr} {kvs:List (Key×V)} (e:H a=some (.dK kvs)):TyOf K H (.ref a) (.type "dict")
 | dT {a:Addr} {kvs:List (List Key×V)} (e:H a=some (.dT kvs)):TyOf K H (.ref a) (.type "dict")
 | ins {a C dx:Addr} {fs:List (Str×V)} (e:H a=some (.ins C dx fs)) (cl:Cls K C) (ha:PySem.W.findIn K (.ref C) "__class__" = some (some (.builtin "object.__class__")))
   (hn:PySem.W.specialIn K (.builtin "object.__class__") "__get__" = some (some (.builtin "getset_descriptor.__get__"))) (htk:PySem.W.takesIn K (.builtin "object.__class__")=some true)
   (hm:PySem.W.mroIn K C (.type "object")=some true):TyOf K H (.ref a) (.ref C)
def zlr {x:V}{u t:Value}(I:Inv X pins σ H s) (rx:RelV x u) (ty:TyOf X.K H x t) (e:PySem.W.kitOne X.K t c=some b) (h:∀tk,Q (.bool b) { s with toks:=tk }) :
  wpAny (model X.prog X.w) A (call (.builtin "isinstance") [u,c]) Q E s:=by
 cases ty with
 | non=>cases (show u=Value.none from rx);exact PySem.W.kia_one PySem.W.kitx_none I.kIn True.intro e (fun z=>nomatch z) h
 | bl y=>cases (show u=Value.bool y from rx);exact PySem.W.kia_one PySem.W.kitx_bool I.kIn True.intro e (fun z=>nomatch z) h
 | int i=>obtain ⟨t,q⟩:=(show ∃t,u=Value.int i t from rx);cases q;exact PySem.W.kia_one PySem.W.kitx_int I.kIn True.intro e (fun z=>nomatch z) h
 | str y=>obtain ⟨t,q⟩:=(show ∃t,u=Value.str y t from rx);cases q;exact PySem.W.kia_one PySem.W.kitx_str I.kIn True.intro e (fun z=>nomatch z) h
 | flt y=>obtain ⟨t,q⟩:=(show ∃t,u=Value.float y t from rx);cases q;exact PySem.W.kia_one PySem.W.kitx_float I.kIn True.intro e (fun z=>nomatch z) h
 | @lst a xs ea =>
  cases (show u=Value.ref a from rx)
  obtain ⟨_,_,n,_,h1⟩:=(show ObjOk X.prog X.w H s.heap a (.lst xs) from I.hok a _ ea)
  exact PySem.W.kia_one PySem.W.kitx_list I.kIn ⟨_,h1,rfl⟩ e (fun z=>nomatch z) h
 | @frz a ob xs ea =>
  cases (show u=Value.ref a from rx)
  obtain ⟨_,_,_,n,_,h1⟩:=(show ObjOk X.prog X.w H s.heap a (.frz ob (.lst xs)) from I.hok a _ ea)
  exact PySem.W.kia_one PySem.W.kitx_list I.kIn ⟨_,h1,rfl⟩ e (fun z=>nomatch z) h
 | @tup a xs ea =>
  cases (show u=Value.ref a from rx)
  obtain ⟨_,_,_,p⟩:=(show ObjOk X.prog X.w H s.heap a (.tup xs) from I.hok a _ ea)
  obtain ⟨o,h1,h2,_⟩:=p
  exact PySem.W.kia_one PySem.W.kitx_tuple I.kIn ⟨o,h1,h2⟩ e (fun z=>nomatch z) h
 | @dK a kvs ea =>
  cases (show u=Value.ref a from rx)
  obtain ⟨_,_,vs,_,p⟩:=(show ObjOk X.prog X.w H s.heap a (.dK kvs) from I.hok a _ ea)
  obtain ⟨o,es,ep,h1,h2,_⟩:=p
  exact PySem.W.kia_one PySem.W.kitx_dict I.kIn ⟨o,h1,h2.1⟩ e (fun z=>nomatch z) h
 | @dT a kvs ea =>
  cases (show u=Value.ref a from rx)
  obtain ⟨_,_,xs,_,o,es,ep,h1,h2,_⟩:=(show ObjOk X.prog X.w H s.heap a (.dT kvs) from I.hok a _ ea)
  exact PySem.W.kia_one PySem.W.kitx_dict I.kIn ⟨o,h1,h2.1⟩ e (fun z=>nomatch z) h
 | @ins a C dx fs ea cl ha hn htk hm =>
  cases (show u=Value.ref a from rx)
  obtain ⟨mA,O,_⟩:=zlq I.hok ea
  obtain ⟨od,J,_⟩:=O.look
  exact PySem.W.kia_one (PySem.W.kitx_own (cl.get _) cl.hd ha hn htk hm) I.kIn J e (fun z=>nomatch z) h
end
structure Room (k:Nat) (A:Around):Prop where
 hd:A.handled=none
 dp:A.depth+3*k+5<recursionLimit
 un:A.units+16*k+200<cLine
def Room.mono {j k:Nat}{A:Around}(r:Room k A) (h:j<=k):Room j A:=⟨r.hd,by have:=r.dp;omega,by have:=r.un;omega⟩
def Room.deeper {k:Nat}{A:Around}(r:Room (k+1) A) (env:Env):Room k (A.deeper env) :=
 ⟨r.hd,by have:=r.dp;show A.depth+1+3*k+5<_;omega,by have:=r.un;show A.units+3+16*k+200<_;omega⟩
def Room.depth {k:Nat}{A:Around}(r:Room k A):A.depth<recursionLimit:=by have:=r.dp;omega
def zls:TA:=fun _ H Q=>Q [] H
def zlt (ta:TE) (tr:TA):TA:=fun σ H Q=>ta σ H fun x H1=>tr σ H1 fun xs H2=>Q (x::xs) H2
section
variable {X:Cx}{e:Expr}{es:List Expr}{te:TE}{t:TA}{pos:Pos}
def zcm:PA X [] zls:=fun _ _ _ _ H Q I h=>Calls.spliced_nil ⟨[],H,I,.nil,h⟩
def zcn (ha:PE X e te) (hr:PA X es t) (hs:starEach (e::es) X.env=(false,eval e X.env)::starEach es X.env:=by rfl):PA X (e::es) (zlt te t):=by
 intro pos pins s σ H Q I h
 rw [hs]
 show wpAny _ _ (spliced ((false,eval e X.env)::backTo pos (starEach es X.env))) _ _ s
 refine Calls.spliced_cons (thn (ha pins s σ H _ I h) fun u s1 ⟨x,H1,I1,r1,q1⟩=>?_)
 exact thn (hr pos pins s1 σ H1 _ I1 q1) fun us s2 ⟨xs,H2,I2,r2,q2⟩=>⟨x::xs,H2,I2,.cons r1 r2,q2⟩
def zlu (t:TA):TE:=fun σ H Q=>t σ H fun xs H1=>xs.length<=sizeLine/\∀p,H1 p=none->Q (.ref p) (upd H1 p (.tup xs))
def zlv (t:TA):TE:=fun σ H Q=>t σ H fun xs H1=>xs.length<=sizeLine/\∀p,H1 p=none->Q (.ref p) (upd H1 p (.lst xs))
def zlw {x1}(h:PA X es t):PE X (.Tuple es x1 pos) (zlu t):=by
 intro pins s σ H Q I hq
 refine wpAny_Tuple_spliced (thn (h pos pins s σ H _ I hq) fun us s1 ⟨xs,H1,I1,r,z,q⟩=>⟨by rw [<-r.length];exact z,?_⟩)
 have hf:H1 s1.heap.objs.size=none:=I1.hok.fresh (yf _)
 refine ⟨.ref s1.heap.objs.size,upd H1 s1.heap.objs.size (.tup xs),I1.laid (t':=s1.toks) (fun b u e=>yv _ e) (yf _) ?_,rfl,q _ hf⟩
 exact ⟨z,us,r,⟨_,jv _ rfl,rfl,_,rfl⟩⟩
def zlx (h:PA X es t):PE X (.List es pos) (zlv t):=by
 intro pins s σ H Q I hq
 refine wpAny_List_spliced (thn (h pos pins s σ H _ I hq) fun us s1 ⟨xs,H1,I1,r,z,q⟩=>⟨by rw [<-r.length];exact z,?_⟩)
 have hf:H1 s1.heap.objs.size=none:=I1.hok.fresh (yf _)
 refine ⟨.ref s1.heap.objs.size,upd H1 s1.heap.objs.size (.lst xs),I1.laid (t':=s1.toks) (fun b u e=>yv _ e) (yf _) ?_,rfl,q _ hf⟩
 exact ⟨z,us,0,r,jv _ rfl⟩
end
abbrev Sp:=List V->Hp->VK->XK->Prop
abbrev CXT:=List Env->Hp->Shared->XK->Value->Shared->Prop
structure Env0 (P:Program) (w:World) (K:PySem.W.Frag) (mg:Str->Option Value) (base:Heap) (A:Around) (outer:List Env) (s:Shared) (H:Hp):Prop where
 frames:A.frames=some outer
 mod:Mod K mg base
 bs:∀b o,base.get? b=some o->s.heap.get? b=some o/\H b=none
 bsz:base.objs.size<=s.heap.objs.size
 funs:s.heap.FunFrames base outer
 frf:∀b∈frs outer,H b=none
 hok:HOk P w H s.heap
 bare:AllBare s.gens
def CE (outer:List Env) (P:Program) (w:World) (H:Hp) (s:Shared) (Q:VK) (u:Value) (s':Shared):Prop :=
 ∃v H',s'.os=s.os/\AllBare s'.gens/\Un (frs outer) [] H H' s.heap s'.heap/\HOk P w H' s'.heap/\RelV v u/\Q v H'
def CR (CX:CXT) (outer:List Env) (P:Program) (w:World) (H:Hp) (s:Shared) (Q:VK) (E:XK) (r:Result) (s':Shared):Prop :=
 match r with
 | .ok (.ret u)=>CE outer P w H s Q u s'
 | .ok _=>False
 | .error e=>CX outer H s E e s'
structure FnOk (P:Program) (w:World) (K:PySem.W.Frag) (mg:Str->Option Value) (base:Heap) (CX:CXT) (k:Nat) (f:Addr) (fd:FuncData) (ps:List Str) (sp:Sp):Prop where
 len:∀vs H Q E,sp vs H Q E->vs.length=ps.length
 run:∀(A:Around) (outer:List Env) (s:Shared) (H:Hp) (args:Args) (us:List Value) (vs:List V) (Q:VK) (E:XK),Room k A->Env0 P w K mg base A outer s H->BindsTo s fd args (ps.zip us)->Vals vs us->sp vs H Q E ->
  codeAny (model P w) A (.call (.ref f) args) (CR CX outer P w H s Q E) s
def FnOk.mono {P:Program}{w:World}{K:PySem.W.Frag}{mg:Str->Option Value}{base:Heap}{CX:CXT}{j k:Nat}{f:Addr}{fd:FuncData}{ps:List Str}{sp:Sp}(F:FnOk P w K mg base CX j f fd ps sp) (h:j<=k) :
  FnOk P w K mg base CX k f fd ps sp:=⟨F.len,fun A outer s H args us vs Q E hr=>F.run A outer s H args us vs Q E (hr.mono h)⟩
def FnOk.imp {P:Program}{w:World}{K:PySem.W.Frag}{mg:Str->Option Value}{base:Heap}{CX:CXT}{k:Nat}{f:Addr}{fd:FuncData}{ps:List Str}{sp sp':Sp}(F:FnOk P w K mg base CX k f fd ps sp)
  (h:∀vs H Q E,sp' vs H Q E->sp vs H Q E):FnOk P w K mg base CX k f fd ps sp' :=
 ⟨fun vs H Q E q=>F.len vs H Q E (h _ _ _ _ q),fun A outer s H args us vs Q E hr he hb hv hs=>F.run A outer s H args us vs Q E hr he hb hv (h _ _ _ _ hs)⟩
section
variable {X:Cx}{pins:List (Addr×Obj)}{σ:St}{H:Hp}{s s':Shared}
def Inv.env0 (I:Inv X pins σ H s):Env0 X.prog X.w X.K X.mg X.base X.A X.stack s H :=
 ⟨I.ok.frames,I.ok.mod,I.bs,yS I.ok.bsz I.sz,I.stack,I.stkFree,I.hok,I.bare⟩
def Inv.after {Q:VK}{u:Value}(I:Inv X pins σ H s) (h:CE X.stack X.prog X.w H s Q u s'):EP X pins σ Q u s':=by
 obtain ⟨v,H',os,bare,un,hok,r,q⟩:=h
 obtain ⟨hh,g,d,t,os'⟩:=s'
 obtain rfl:os'=s.os:=os
 exact ⟨v,H',I.call (h':=hh) (g':=g) (d':=d) (t':=t) (ch:=[]) un hok bare (fun b z=>absurd z (by simp)),r,q⟩
end
def zly (sp:Sp) (dvs:List V) (E:XK) (t:TA):TE:=fun σ H Q=>t σ H fun vs H1=>sp (vs++dvs) H1 Q E
def Binds (K:PySem.W.Frag) (fd:FuncData) (ps:List Str) (ds:List Value):Prop :=
 ∀(s:Shared) (us:List Value),K.In s.heap->(us++ds).length=ps.length->BindsTo s fd ⟨us,[]⟩ (ps.zip (us++ds))
def Binds.all {K:PySem.W.Frag}{fd:FuncData}{ps:List Str}(h:∀us:List Value,us.length=ps.length->bindArgs fd ⟨us,[]⟩=pure (ps.zip us)):Binds K fd ps []:=fun s us _ hl=>by
 rw [List.append_nil] at hl ⊢
 exact .of_eq (h us hl)
def Passes (CX:CXT) (X:Cx) (E:XK):Prop:=∀(pins:List (Addr×Obj)) (σ:St) (H:Hp) (s:Shared) (e:Value) (s':Shared),Inv X pins σ H s->CX X.stack H s E e s'->X.xe e s'
section
variable {X:Cx}{CX:CXT}{k:Nat}{f C:Addr}{fd:FuncData}{ps:List Str}{sp:Sp}{dvs:List V}{ds:List Value}{E:XK}{x m:Str}{p pos apos:Pos}{e o:Expr}{es:List Expr}{ta:TE}{t:TA}
def zlz {pins:List (Addr×Obj)}{σ:St}{H:Hp}{s:Shared}{Q:VK}{us:List Value}{vs:List V}(F:FnOk X.prog X.w X.K X.mg X.base CX k f fd ps sp) (hr:Room k X.A) (hb:Binds X.K fd ps ds) (hd:Vals dvs ds) (hx:Passes CX X E)
  (I:Inv X pins σ H s) (r:Vals vs us) (h:sp (vs++dvs) H Q E):wpAny (model X.prog X.w) X.A (call (.ref f) us) (EP X pins σ Q) X.xe s:=by
 have r2:Vals (vs++dvs) (us++ds):=r.append hd
 have hl:(us++ds).length=ps.length:=by rw [<-r2.length];exact F.len _ _ _ _ h
 refine wpAny_call (codeAny_mono (F.run X.A X.stack s H ⟨us,[]⟩ (us++ds) (vs++dvs) Q E hr I.env0 (hb s us I.kIn hl) r2 h) fun r s' hq=>?_)
 cases r with
 | error e=>exact hx pins σ H s e s' I hq
 | ok fl =>
  cases fl with
  | ret u=>exact I.after hq
  | next=>exact hq.elim
  | brk=>exact hq.elim
  | cont=>exact hq.elim
def zlA (F:FnOk X.prog X.w X.K X.mg X.base CX k f fd ps sp) (hr:Room k X.A) (hg:Gl X x) (hm:X.mg x=some (.ref f)) (hk:PySem.W.keepIn X.K (.ref f)=true) (hb:Binds X.K fd ps ds) (hd:Vals dvs ds) (hx:Passes CX X E)
  (ha:PA X (e::es) t) (hdb:(x==("__debug__" : Str))=false:=by decide) (he:starEach (e::es) X.env=(false,eval e X.env)::starEach es X.env:=by rfl) (hpl:(backTo pos (starEach es X.env)).any (·.1)=false:=by rfl) :
  PE X (.Call (.Name x p) (e::es) [] pos) (zly sp dvs E t):=by
 intro pins s σ H Q I h
 refine wpAny_Call_Name_kw (zkl I hg hm ?_ hdb)
 refine PySem.W.callWith_K (h₀:=X.base) I.ok.mod.kin hk (thn (ha pos pins s σ H _ I h) fun us s1 ⟨vs,H1,I1,r,q⟩=>⟨I1.kIn,?_⟩) he hpl
 exact zlz F hr hb hd hx I1 r q
structure Mk (K:PySem.W.Frag) (C f:Addr):Prop where
 makes:PySem.W.makesIn K C=true
 init:PySem.W.findIn K (.ref C) "__init__" = some (some (.ref f))
 fn:PySem.W.isFn K (.ref f)=true
 kp:PySem.W.keepIn K (.ref C)=true
end
section
variable {X:Cx}{CX:CXT}{k:Nat}{f C:Addr}{fd:FuncData}{ps ks:List Str}{sp:Sp}{E:XK}{x m:Str}{p pos apos kpos:Pos}{e o:Expr}{es:List Expr}{kws:List Keyword}{te ta:TE}{t tk:TA}{nm:Option Str}
structure KBinds (K:PySem.W.Frag) (fd:FuncData) (ps ks:List Str) (g:List Value->List Value->List Value) (gV:List V->List V->List V):Prop where
 to:∀(s:Shared) (us ws:List Value),K.In s.heap->(g us ws).length=ps.length->BindsTo s fd ⟨us,ks.zip ws⟩ (ps.zip (g us ws))
 rel:∀{vs:List V} {us:List Value} {zs:List V} {ws:List Value},Vals vs us->Vals zs ws->Vals (gV vs zs) (g us ws)
variable {g:List Value->List Value->List Value}{gV:List V->List V->List V}
end
structure FnScope (N P:List Str) (sc:Scope):Prop where
 kind:sc.kind=.function
 co:sc.isCoroutine=false
 gen:sc.isGenerator=false
 nd:N.Nodup
 pre:N.take P.length=P
 par:∀x∈P,sc.names.lookup x=some .local\/sc.names.lookup x=some .cell
 nofree:∀y∈sc.names,y.2 ≠ .free
def zf2 {kindOf:Str->Option NameKind}{x:Str}:∀{binds:List (Str×Value)}{m:Str->Option Value},(∀v,(x,v)∉binds)->bindL kindOf binds m x=m x
 | [],_,_=>rfl
 | (n,v)::r,m,h=>by
  unfold bindL
  rw [zf2 fun w hw=>h w (jc _ hw)]
  split
  ·have:x≠n:=by rintro rfl;exact h v yY
   simp [this]
  ·rfl
def zf3 {kindOf:Str->Option NameKind}{x:Str}:∀{binds:List (Str×Value)}{m:Str->Option Value},(∀v,(x,v)∉binds)->bindC kindOf binds m x=m x
 | [],_,_=>rfl
 | (n,v)::r,m,h=>by
  unfold bindC
  rw [zf3 fun w hw=>h w (jc _ hw)]
  split
  ·rfl
  ·have:x≠n:=by rintro rfl;exact h v yY
   simp [this]
def zf4 {kindOf:Str->Option NameKind}{x:Str}{v:Value}:∀{P:List Str}{vs:List Value}{i:Nat}{m:Str->Option Value},P.Nodup->P[i]?=some x->vs[i]?=some v->kindOf x=some .local ->
  bindL kindOf (P.zip vs) m x=some v
 | [],_,_,_,_,h,_,_=>by simp at h
 | _::_,[],_,_,_,_,h,_=>by simp at h
 | p::P,w::vs,0,m,nd,h1,h2,hk=>by
  simp at h1 h2;subst h1;subst h2
  show bindL kindOf ((p,w)::P.zip vs) m p=_
  unfold bindL
  rw [zf2 fun v hv=>(wt.mp nd).1 (List.of_mem_zip hv).1,zH hk]
  simp
 | p::P,w::vs,i+1,m,nd,h1,h2,hk=>by
  show bindL kindOf ((p,w)::P.zip vs) m x=_
  unfold bindL
  exact zf4 (i:=i) (wt.mp nd).2 (by simpa using h1) (by simpa using h2) hk
def zf5 {kindOf:Str->Option NameKind}{x:Str}{v:Value}:∀{P:List Str}{vs:List Value}{i:Nat}{m:Str->Option Value},P.Nodup->P[i]?=some x->vs[i]?=some v->kindOf x≠some .local ->
  bindC kindOf (P.zip vs) m x=some v
 | [],_,_,_,_,h,_,_=>by simp at h
 | _::_,[],_,_,_,_,h,_=>by simp at h
 | p::P,w::vs,0,m,nd,h1,h2,hk=>by
  simp at h1 h2;subst h1;subst h2
  show bindC kindOf ((p,w)::P.zip vs) m p=_
  unfold bindC
  rw [zf3 fun v hv=>(wt.mp nd).1 (List.of_mem_zip hv).1,zX hk]
  simp
 | p::P,w::vs,i+1,m,nd,h1,h2,hk=>by
  show bindC kindOf ((p,w)::P.zip vs) m x=_
  unfold bindC
  exact zf5 (i:=i) (wt.mp nd).2 (by simpa using h1) (by simpa using h2) hk
def start (N:List Str) (vs:List V):St:=vs.map some++List.replicate (N.length-vs.length) none
def cxOf (CX:CXT) (P:Program) (w:World) (K:PySem.W.Frag) (mg:Str->Option Value) (base:Heap) (N:List Str) (qual:Str) (scope:Scope) (f:Addr) (cd:Value) (A:Around) (outer:List Env) (s:Shared) (H:Hp) (E:XK):Cx where
 prog:=P
 w:=w
 K:=K
 mg:=mg
 base:=base
 A:=A.deeper (envOfC qual scope s.heap.objs.size f cd)
 N:=N
 s₀:=s
 H₀:=H
 env:=envOfC qual scope s.heap.objs.size f cd
 outer:=outer
 stack:=envOfC qual scope s.heap.objs.size f cd::outer
 ex:=[]
 calm:=true
 fn:=fun _=>true
 pn:=[]
 xe:=fun e s'=>wpAny (model P w) (A.deeper (envOfC qual scope s.heap.objs.size f cd)) (leaving (envOfC qual scope s.heap.objs.size f cd) e) (fun _ s''=>CX outer H s E e s'') (fun e' s''=>CX outer H s E e' s'') s'
def zf6 {sc:Scope}{n:Nat}{x:Str}(h:sc.names.lookup x=some .cell):∃c,(cellsFrom n sc.names []).lookup x=some c:=by
 have q:=PySem.W.cellsFrom_some sc.names n [] (.inl h)
 exact Option.isSome_iff_exists.mp q
def zlB {CX:CXT}{P:Program}{w:World}{K:PySem.W.Frag}{mg:Str->Option Value}{base:Heap}{N ps:List Str}{qual:Str}{scope:Scope}{f:Addr}{cd:Value}{A:Around}{outer:List Env}{s s1:Shared}{H:Hp}{E:XK}{us:List Value}{vs:List V}
  (S:FnScope N ps scope) (hd:A.handled=none) (e0:Env0 P w K mg base A outer s H) (hl:vs.length=ps.length) (r:Vals vs us)
  (x:InCallC s s.heap.objs.size (bindL (envOfC qual scope s.heap.objs.size f cd).kindOf (ps.zip us) fun _=>none) (cellsFrom (s.heap.objs.size+1) scope.names []) (bindC (envOfC qual scope s.heap.objs.size f cd).kindOf (ps.zip us) fun _=>none) s1) :
  Inv (cxOf CX P w K mg base N qual scope f cd A outer s H E) [] (start N vs) H s1:=by
 have hpl:ps.length<=N.length:=by have:=congrArg List.length S.pre;rw [List.length_take] at this;omega
 obtain ⟨h1,tk,rfl,hk⟩:=x.done
 have noA:∀b:Addr,b∉(cxOf CX P w K mg base N qual scope f cd A outer s H E).ex:=fun b z=>absurd (show b∈([]:List Addr) from z) (by simp)
 refine ⟨⟨e0.mod,S.kind,rfl,rfl,yf _,fun y z c h1 h2=>?_,fun y hy=>?_,fun y c _ h=>?_,fun _=>hd,Around.frames_deeper e0.frames,.inr ⟨rfl,rfl⟩,fun b z=>absurd z (noA b),e0.bs,e0.bsz,fun b _ _=>noA b,fun b z=>absurd z (noA b),e0.funs,e0.frf⟩,
  rfl,e0.bare,Un.kept hk,⟨_,x.toInCall.ns,fun i y v h1 h2 h3=>?_⟩,fun y c h=>⟨_,x.cell y c h⟩,e0.hok.fresh (yf _),fun y c h=>?_,fun p hp=>absurd (show p∈([]:List (Addr×Obj)) from hp) (by simp),e0.hok.kept hk,?_⟩
 ·exact name_of_addr x.apart (PySem.mem_of_lookup h1) (PySem.mem_of_lookup h2)
 ·have hy:scope.names.lookup y=some .cell\/scope.names.lookup y=some .free:=hy
  rcases hy with hy|hy
  ·exact zf6 hy
  ·exact absurd rfl (S.nofree _ (PySem.mem_of_lookup hy))
 ·exact Nat.le_of_lt (x.above y c (PySem.mem_of_lookup h))
 ·have hi:i<vs.length:=by
   unfold start at h2
   by_cases hi:i<vs.length
   ·exact hi
   ·rw [zaW (by simpa using hi)] at h2
    rw [List.getElem?_replicate] at h2
    split at h2<;>cases h2
  have ha:vs[i]?=some v:=by
   unfold start at h2
   rw [zaG (by simpa using hi),jk] at h2
   cases e:vs[i]? with
   | none=>rw [e] at h2;cases h2
   | some a=>rw [e] at h2;cases h2;rfl
  obtain ⟨u,hu,rv⟩:=r.get ha
  have hp:ps[i]?=some y:=by
   rw [<-S.pre,List.getElem?_take_of_lt (by omega)];exact h1
  have ndP:ps.Nodup:=by rw [<-S.pre];exact S.nd.sublist (List.take_sublist _ _)
  refine ⟨u,rv,?_⟩
  rcases S.par y (j3 hp) with k|k
  ·exact .inl ⟨k,zf4 ndP hp hu k⟩
  ·obtain ⟨c,e⟩:=zf6 (n:=s.heap.objs.size+1) k
   refine .inr ⟨.inl k,c,e,?_⟩
   have q:=x.cell y c e
   rw [zf5 ndP hp hu (by show scope.names.lookup y≠_;rw [k];decide)] at q
   exact q
 ·exact e0.hok.fresh (Nat.le_of_lt (x.above y c (PySem.mem_of_lookup h)))
 ·unfold start
  show _=N.length
  rw [jG,jq,List.length_replicate]
  omega
def zf7 {CX:CXT}{P:Program}{w:World}{K:PySem.W.Frag}{mg:Str->Option Value}{base:Heap}{k:Nat}{f:Addr}{name qual:Str}{params:Arguments}{body:List Stmt}{scope:Scope}{dV kV doc pm cdv ct oc:Value}{an od:Option Addr}
  {osl:Array (Option Value)} {N ps:List Str} {sp:Sp} (lk:K.lookup f=some ⟨oc,od,.func (PySem.W.fnOf name qual params body scope dV kV doc pm an cdv ct),osl⟩) (hcd:PySem.W.codeIn K cdv qual=true) (S:FnScope N ps scope)
  (len:∀vs H Q E,sp vs H Q E->vs.length=ps.length)
  (hbody:∀(A:Around) (outer:List Env) (s:Shared) (H:Hp) (vs:List V) (Q:VK) (E:XK),Room k (A.deeper (envOfC qual scope s.heap.objs.size f cdv))->sp vs H Q E ->
   ∃t,PSs (cxOf CX P w K mg base N qual scope f cdv A outer s H E) body t/\t { nx:=fun _ H'=>Q .non H',rt:=Q } (start N vs) H) :
  FnOk P w K mg base CX (k+1) f (PySem.W.fnOf name qual params body scope dV kV doc pm an cdv ct) ps sp:=by
 refine ⟨len,fun A outer s H args us vs Q E hr e0 hb r hsp=>?_⟩
 have hl:=len _ _ _ _ hsp
 have KX:K.In s.heap:=e0.mod.kin.keeps fun b o e=>(e0.bs b o e).1
 have lim:s.heap.NoLimit:=e0.mod.nolimit.keeps fun b o e=>(e0.bs b o e).1
 have hkind:∀y∈ps.zip us,scope.names.lookup y.1=some .local\/(scope.names.lookup y.1=some .cell/\((cellsFrom (s.heap.objs.size+1) scope.names []).lookup y.1).isSome=true):=fun ⟨n,v⟩ hy=>by
  rcases S.par n (List.of_mem_zip hy).1 with q|q
  ·exact .inl q
  ·exact .inr ⟨q,PySem.W.cellsFrom_some _ _ _ (.inl q)⟩
 refine codeAny_call_function hr.depth (KX _ _ lk) rfl S.co S.gen rfl (PySem.W.codeRec_of KX hcd) (hb _ _ _ _ ?_)
 refine wpAny_newFunctionEnv_cells S.kind hkind fun env he s1 x=>?_
 subst he
 refine ⟨lim.keeps x.toInCall.keep,codeAny_func ?_⟩
 obtain ⟨t,ht,hq⟩:=hbody A outer s H vs Q E (hr.deeper _) hsp
 have I:Inv (cxOf CX P w K mg base N qual scope f cdv A outer s H E) [] (start N vs) H s1:=zlB S hr.hd e0 hl r x
 refine jQ (ht [] s1 (start N vs) H _ I hq) (fun fl s' hs=>?_) fun e s' hs=>hs
 have fin:∀{aj:St} {H':Hp} {v:V} {u:Value},Inv (cxOf CX P w K mg base N qual scope f cdv A outer s H E) [] aj H' s'->RelV v u->Q v H'->CE outer P w H s Q u s' :=
  fun {aj H' v u} J rv q=>⟨v,H',J.os,J.bare,J.base,J.hok,rv,q⟩
 cases fl with
 | ret u =>
  obtain ⟨v,aj,H',J,rv,q⟩:=hs
  exact fin J rv q
 | next =>
  obtain ⟨aj,H',J,q⟩:=hs
  exact fin (v:=V.non) (u:=Value.none) J rfl q
 | brk =>
  obtain ⟨_,_,_,q⟩:=hs
  exact q.elim
 | cont =>
  obtain ⟨_,_,_,q⟩:=hs
  exact q.elim
section
variable {X:Cx}{x:Str}{p pos:Pos}{e:Expr}{es:List Expr}{t:TA}{id T:String}{r:List V->Hp->VK->Prop}
def tCB (r:List V->Hp->VK->Prop) (t:TA):TE:=fun σ H Q=>t σ H fun vs H1=>r vs H1 Q
def zlC (hc:CallR X (.builtin id) r) (hg:Gl X x) (hm:X.mg x=none) (hv:bootBuiltins x=some (.builtin id)) (ha:PA X (e::es) t) (hn:x ≠ "__name__" := by decide) (hdb:(x==("__debug__" : Str))=false:=by decide)
  (he:starEach (e::es) X.env=(false,eval e X.env)::starEach es X.env:=by rfl) (hpl:(backTo pos (starEach es X.env)).any (·.1)=false:=by rfl):PE X (.Call (.Name x p) (e::es) [] pos) (tCB r t):=by
 intro pins s σ H Q I h
 refine wpAny_Call_Name_kw (zch I hg hm hv ?_ hn hdb)
 exact PyProof.Rows.callWith_builtin1 (thn (ha pos pins s σ H _ I h) fun us s1 ⟨vs,H1,I1,r1,q1⟩=>hc pins s1 σ H1 vs us Q I1 r1 q1) he hpl
def zlD (hc:CallR X (.type T) r) (hg:Gl X x) (hm:X.mg x=none) (hv:bootBuiltins x=some (.type T)) (ha:PA X (e::es) t) (hn:x ≠ "__name__" := by decide) (hdb:(x==("__debug__" : Str))=false:=by decide)
  (he:starEach (e::es) X.env=(false,eval e X.env)::starEach es X.env:=by rfl) (hpl:(backTo pos (starEach es X.env)).any (·.1)=false:=by rfl):PE X (.Call (.Name x p) (e::es) [] pos) (tCB r t):=by
 intro pins s σ H Q I h
 refine wpAny_Call_Name_kw (zch I hg hm hv ?_ hn hdb)
 exact PyProof.Rows.callWith_type1 (thn (ha pos pins s σ H _ I h) fun us s1 ⟨vs,H1,I1,r1,q1⟩=>hc pins s1 σ H1 vs us Q I1 r1 q1) he hpl
end
end L2
namespace HT
open PySem PyProof.Rows
section
open PySem.SeqAt
open PySem.AutoSeq1 (wpAny_loadPart')
open PySem.MeetsSeq PySem.MeetsSeq2 PySem.MeetsSeq3
end
section
variable {prog:Program}{w:World}{A:Around}{E:Value->Shared->Prop}{s:Shared}
def cat_tup {t b:Addr}{vs ws:List Value}{Q:Value->Shared->Prop}(ht:IsTup s.heap t vs.toArray) (hb:IsTup s.heap b ws.toArray) (hv:vs≠[])
  (h1:ws=[]->Q (.ref t) s) (h2:ws≠[]->Q (.ref s.heap.objs.size) { s with heap:=s.heap.push { cls:=.type "tuple", data:=.seq (vs++ws).toArray } })
  (hsz:vs.length+ws.length<=sizeLine):wpAny (model prog w) A (binaryOp .Add (.ref t) (.ref b)) Q E s:=by
 obtain ⟨⟨cls,dd,data,sl⟩,ho,hc,n,hd⟩:=id ht
 obtain ⟨⟨cls2,dd2,data2,sl2⟩,ho2,hc2,n2,hd2⟩:=id hb
 simp only at hc hd hc2 hd2
 subst hc hd hc2 hd2
 have e:vs.toArray++ws.toArray=(vs++ws).toArray:=by simp
 by_cases hw:ws=[]
 ·exact concat_meets ⟨_,ho,rfl⟩ ⟨_,ho2,rfl⟩ noFill_tuple_add seq_tuple_add PySem.F.slot_tuple_add PySem.F.entry_tuple_add (PySem.F.args_tuple_add_2 _ _)
   (tuple_addW1 t b vs.toArray ws.toArray n n2 dd dd2 sl sl2 (by simpa using hv) (by simp [hw])) ⟨ho,ho2,h1 hw⟩
 ·refine concat_meets ⟨_,ho,rfl⟩ ⟨_,ho2,rfl⟩ noFill_tuple_add seq_tuple_add PySem.F.slot_tuple_add PySem.F.entry_tuple_add (PySem.F.args_tuple_add_2 _ _)
   (tuple_addW2 t b vs.toArray ws.toArray n n2 dd dd2 sl sl2 (by simpa using hv) (by simpa using hw) (by rw [yP,yP];exact hsz)) ⟨ho,ho2,?_⟩
  rw [e]
  exact h2 hw
def sIx (n d:Nat):Option Int->Nat
 | none=>d
 | some v=>if v<0 then (v+(n:Int)).toNat else min v.toNat n
def zlE (n d:Nat) (hd:d<=n) (o:Option Int):sIx n d o<=n:=by
 cases o with
 | none=>exact hd
 | some v =>
  show (if v<0 then (v+(n:Int)).toNat else min v.toNat n)<=n
  by_cases hv:v<0
  ·rw [zH hv];omega
  ·rw [zX hv];exact Nat.min_le_right _ _
def zf9 (v:Int) (n d:Nat):(if v<0 then max (v+(n:Int)) 0 else min v (n:Int))=((sIx n d (some v):Nat):Int):=by
 show (if v<0 then max (v+(n:Int)) 0 else min v (n:Int))=(((if v<0 then (v+(n:Int)).toNat else min v.toNat n):Nat):Int)
 by_cases hv:v<0
 ·simp only [zH hv];omega
 ·simp only [zX hv];omega
def zlF (lo hi:Option Int) (n:Nat):Builtin.Slice.sliceAdjust lo hi 1 (n:Int)=(((sIx n 0 lo:Nat):Int),((sIx n n hi:Nat):Int)):=by
 have h1:¬((1:Int)<0):=by omega
 unfold Builtin.Slice.sliceAdjust
 simp only [h1,ym]
 refine Prod.ext ?_ ?_
 ·cases lo with
  | none=>rfl
  | some v=>exact zf9 v n 0
 ·cases hi with
  | none=>rfl
  | some v=>exact zf9 v n n
def zlG (i j:Nat):Builtin.Slice.slicePlaces (i:Int) (j:Int) 1=j-i:=by
 unfold Builtin.Slice.slicePlaces
 have h1:(1:Int)>0:=by omega
 simp only [h1,yw,Int.ediv_one]
 split<;>omega
def zec {v:Value}{o:Option Int}{Q:Option Int->Shared->Prop}(p:IsPart v o) (h:Q o s):wpAny (model prog w) A (Builtin.Slice.slicePartIndex v) Q E s:=by
 cases p with
 | none=>exact slicePart_none h
 | int i t=>exact slicePart_int h
def zga {sl:Addr}{vl vu:Value}{lo hi:Option Int}{n:Nat}{Q:Int×Int×Nat->Shared->Prop}(hs:s.heap.IsSliceOf sl vl vu .none) (pl:IsPart vl lo) (pu:IsPart vu hi)
  (h:Q (((sIx n 0 lo:Nat):Int),1,sIx n n hi-sIx n 0 lo) s):wpAny (model prog w) A (Builtin.Slice.sliceApplied (.ref sl) (pure (n:Int))) Q E s:=by
 obtain ⟨os,hos,hcs,hds⟩:=id hs
 unfold Builtin.Slice.sliceApplied Builtin.Slice.sliceFields
 refine zv (zv (jg hos hds (x:=vl) rfl (zv (jg hos hds (x:=vu) rfl (zv (jg hos hds (x:=.none) rfl (zR ?_)))))))
 refine zv (slicePart_none ?_)
 show wpAny _ _ (if ((1:Int)==0)=true then _ else _) _ _ s
 rw [zX (by decide)]
 refine zv (zec pl (zv (zec pu (zv (zR ?_)))))
 show wpAny _ _ (match Builtin.Slice.sliceAdjust lo hi 1 (n:Int) with|(lo,hi)=>pure (lo,(1:Int),Builtin.Slice.slicePlaces lo hi 1)) _ _ s
 rw [zlF lo hi n]
 show wpAny _ _ (pure (((sIx n 0 lo:Nat):Int),(1:Int),Builtin.Slice.slicePlaces ((sIx n 0 lo:Nat):Int) ((sIx n n hi:Nat):Int) 1)) _ _ s
 rw [zlG]
 exact zR h
def zlH (xs:Array Value) (i k:Nat):((List.range k).filterMap fun (m:Nat)=>xs[((i:Int)+(m:Int)*1).toNat]?).toArray=((xs.toList.drop i).take k).toArray:=by
 have e:(fun (m:Nat)=>xs[((i:Int)+(m:Int)*1).toNat]?)=fun m=>xs[i+m]?:=by
  funext m
  have:((i:Int)+(m:Int)*1).toNat=i+m:=by omega
  rw [this]
 rw [e]
 have:=pick_run xs i k
 rw [List.filterMap_map] at this
 have e2:((fun x=>xs[x]?)∘fun x=>i+x)=fun m=>xs[i+m]?:=rfl
 rw [e2] at this
 rw [this]
def getItem_tuple_cut {t sl:Addr}{items:Array Value}{vl vu:Value}{lo hi:Option Int}{Q:Value->Shared->Prop}(ht:IsTup s.heap t items) (hs:s.heap.IsSliceOf sl vl vu .none) (pl:IsPart vl lo) (pu:IsPart vu hi)
  (hw:¬(sIx items.size 0 lo=0/\sIx items.size items.size hi=items.size))
  (h:Q (.ref s.heap.objs.size) { s with heap:=s.heap.push { cls:=.type "tuple", data:=.seq ((items.toList.drop (sIx items.size 0 lo)).take (sIx items.size items.size hi-sIx items.size 0 lo)).toArray } })
  (hsz:items.size<=sizeLine):wpAny (model prog w) A (getItem (.ref t) (.ref sl)) Q E s:=by
 have htake:sizeOk (.seq ((items.toList.drop (sIx items.size 0 lo)).take (sIx items.size items.size hi-sIx items.size 0 lo)).toArray):=by
  show ((items.toList.drop (sIx items.size 0 lo)).take (sIx items.size items.size hi-sIx items.size 0 lo)).toArray.size<=sizeLine
  rw [yP,List.length_take,List.length_drop,Array.length_toList]
  omega
 have hj:sIx items.size items.size hi<=items.size:=zlE _ _ (yf _) hi
 obtain ⟨os,hos,hcs,hds⟩:=id hs
 have hTs:s.TypeIs (.ref sl) "slice" := ⟨os,hos,hcs⟩
 unfold getItem
 try with_reducible refine wb ?_
 first|refine zv (zR ?_)|skip
 refine zv (wpAny_sequenceKey ht.typeIs (by decide) ?_)
 refine zv (wpAny_callSpecial?_slot (name:=Str.ofString "__getitem__") ht.typeIs PyProof.Rows.slot_tuple_getitem
  (wC PyProof.Rows.slot_tuple_getitem ht.typeIs entry_tuple_getitem ?_ (args_tuple_getitem _ _)))
 show wpAny _ _ (Builtin.Tuple.tupleItemsOf (.ref t) >>= _) _ _ s
 refine zv (tupleItemsOf_ ht ?_)
 refine zv (wpAny_typeOf hTs ?_)
 rw [zH (by decide)]
 refine zv (zga hs pl pu ?_)
 have hno:¬((((sIx items.size 0 lo:Nat):Int)==0&&(1:Int)==1&&(sIx items.size items.size hi-sIx items.size 0 lo)==items.size)=true):=by
  intro q
  rw [we,we] at q
  have q1:((sIx items.size 0 lo:Nat):Int)=0:=eq_of_beq q.1.1
  have q2:sIx items.size items.size hi-sIx items.size 0 lo=items.size:=eq_of_beq q.2
  exact hw ⟨by omega,by omega⟩
 show wpAny _ _ (if (((sIx items.size 0 lo:Nat):Int)==0&&(1:Int)==1&&(sIx items.size items.size hi-sIx items.size 0 lo)==items.size)=true then _ else _) _ _ s
 rw [zX hno,zlH]
 first
  | exact zv (m:=Builtin.Tuple.tupleExact _) (wD (zR ⟨_,rfl,zR h⟩) htake)
  | exact zv (m:=Builtin.Tuple.tupleExact _) (wD (zv (zR (zR ⟨_,rfl,zR h⟩))) htake)
  | exact zv (zv (m:=Builtin.Tuple.tupleExact _) (wD (zR (zR ⟨_,rfl,zR h⟩)) htake))
  | exact zv (zv (m:=Builtin.Tuple.tupleExact _) (wD (zR ⟨_,rfl,zR h⟩) htake))
end
end HT
namespace L2
open PySem PySem.Spec PyProof.Rows
abbrev TO:=St->Hp->(Option Int->Hp->Prop)->Prop
def PO (X:Cx) (e:Option Expr) (t:TO):Prop :=
 ∀(pins:List (Addr×Obj)) (s:Shared) (σ:St) (H:Hp) (Q:Option Int->Hp->Prop),Inv X pins σ H s->t σ H Q ->
  wpAny (model X.prog X.w) X.A (evalPart e X.env) (fun u s'=>∃o H',Inv X pins σ H' s'/\IsPart u o/\Q o H') X.xe s
def zlI:TO:=fun _ H Q=>Q none H
def zlJ (t:TE):TO:=fun σ H Q=>t σ H fun x H1=>∃i,x=.int i/\Q (some i) H1
section
variable {X:Cx}{e:Expr}{te:TE}{lo hi:Option Expr}{tl th:TO}{pos p2:Pos}
def zlK:PO X none zlI:=by
 intro pins s σ H Q I h
 rw [evalPart_none]
 exact zR ⟨none,H,I,.none,h⟩
def zlL (h:PE X e te):PO X (some e) (zlJ te):=by
 intro pins s σ H Q I hw
 rw [evalPart_some]
 refine thn (h pins s σ H _ I hw) fun u s1 ⟨x,H1,I1,r1,q1⟩=>?_
 obtain ⟨i,rfl,q⟩:=q1
 obtain ⟨t,rfl⟩:=r1
 exact ⟨some i,H1,I1,.int i t,q⟩
def SlR (X:Cx) (r:V->Option Int->Option Int->Hp->VK->Prop):Prop :=
 ∀(pins:List (Addr×Obj)) (s:Shared) (σ:St) (H:Hp) (x:V) (v vl vu:Value) (lo hi:Option Int) (sl:Addr) (Q:VK),Inv X pins σ H s->RelV x v->s.heap.IsSliceOf sl vl vu .none->IsPart vl lo->IsPart vu hi->r x lo hi H Q ->
  ∃T id,typeLookup (.type T) "__getitem__" = pure (some (.builtin id))/\s.TypeIs v T/\wpAny (model X.prog X.w) X.A (getItem v (.ref sl)) (EP X pins σ Q) X.xe s
def SlR.or {r r':V->Option Int->Option Int->Hp->VK->Prop}(h:SlR X r) (h':SlR X r'):SlR X (fun x lo hi H Q=>r x lo hi H Q\/r' x lo hi H Q):=by
 intro pins s σ H x v vl vu lo hi sl Q I rx hs pl pu q
 rcases q with q|q
 ·exact h pins s σ H x v vl vu lo hi sl Q I rx hs pl pu q
 ·exact h' pins s σ H x v vl vu lo hi sl Q I rx hs pl pu q
def tSl (r:V->Option Int->Option Int->Hp->VK->Prop) (te:TE) (tl th:TO):TE:=fun σ H Q=>te σ H fun x H1=>tl σ H1 fun l H2=>th σ H2 fun u H3=>r x l u H3 Q
def zlN {r:V->Option Int->Option Int->Hp->VK->Prop}(hr:SlR X r) (he:PE X e te) (hl:PO X lo tl) (hu:PO X hi th):PE X (.Subscript e (.Slice lo hi none p2) pos) (tSl r te tl th):=by
 intro pins s σ H Q I h
 refine Subscript_ (thn (he pins s σ H _ I h) fun v s1 ⟨x,H1,I1,r1,q1⟩=>?_)
 refine wpAny_Slice (thn (hl pins s1 σ H1 _ I1 q1) fun vl s2 ⟨l,H2,I2,pl,q2⟩=>thn (hu pins s2 σ H2 _ I2 q2) fun vu s3 ⟨u,H3,I3,pu,q3⟩=>?_)
 rw [evalPart_none]
 refine zR ?_
 have I4:Inv X pins σ H3 { s3 with heap:=s3.heap.push { cls:=.type "slice", data:=.fields #[vl,vu,.none] } }:=I3.kept (t':=s3.toks) fun b ob q=>yv _ q
 obtain ⟨T,id,hT,ht,hg⟩:=hr pins { s3 with heap:=s3.heap.push { cls:=.type "slice", data:=.fields #[vl,vu,.none] } } σ H3 x v vl vu l u s3.heap.objs.size Q I4 r1 (Heap.IsSliceOf.new ..) pl pu q3
 show wpAny (model X.prog X.w) X.A (subscriptTail e (.Slice lo hi none p2) v (.ref s3.heap.objs.size)) (EP X pins σ Q) X.xe { s3 with heap:=s3.heap.push { cls:=.type "slice", data:=.fields #[vl,vu,.none] } }
 exact tail_any (ops:=[.ref s3.heap.objs.size,v]) ht hT hg (by with_unfolding_all rfl)
def cutV (xs:List V) (lo hi:Option Int):List V:=(xs.drop (HT.sIx xs.length 0 lo)).take (HT.sIx xs.length xs.length hi-HT.sIx xs.length 0 lo)
def zgb (xs:List V) (lo hi:Option Int):(cutV xs lo hi).length<=xs.length:=by
 unfold cutV
 rw [List.length_take,List.length_drop]
 omega
def zlO (K:PySem.W.Frag):V->Option Int->Option Int->Hp->VK->Prop:=fun x lo hi H Q=>∃a xs,x=.ref a/\SqT K H a xs /\
 ¬(HT.sIx xs.length 0 lo=0/\HT.sIx xs.length xs.length hi=xs.length)/\∀p,H p=none->Q (.ref p) (upd H p (.tup (cutV xs lo hi)))
def zlP:SlR X (zlO X.K):=by
 intro pins s σ H x v vl vu lo hi sl Q I rx hs pl pu h
 obtain ⟨a,xs,rfl,hx,hw,q⟩:=h
 cases rx
 obtain ⟨its,r,ht,hz⟩:=I.tuple hx
 have hlen:its.toArray.size=xs.length:=by rw [yP];exact r.length.symm
 refine ⟨"tuple", _,PyProof.Rows.slot_tuple_getitem.lookup,ht.typeIs,?_⟩
 refine HT.getItem_tuple_cut ht hs pl pu (by rw [hlen];exact hw) ?_ (by rw [hlen];exact hz)
 rw [hlen]
 refine ⟨.ref s.heap.objs.size,_,I.laid (t':=s.toks) (o:=.tup (cutV xs lo hi)) (fun b ob q=>yv _ q) (yf _) ?_,rfl,q _ (I.hok.fresh (yf _))⟩
 exact ⟨yS (zgb xs lo hi) hz,_,(r.drop (HT.sIx xs.length 0 lo)).take (HT.sIx xs.length xs.length hi-HT.sIx xs.length 0 lo),IsTup.new _ _⟩
def zlQ (K:PySem.W.Frag):R2:=fun x y H Q=>∃a b xs ys,x=.ref a/\y=.ref b/\SqT K H a xs/\SqT K H b ys/\xs≠[]/\xs.length+ys.length<=sizeLine /\
 (ys=[]->Q (.ref a) H)/\(ys≠[]->∀p,H p=none->Q (.ref p) (upd H p (.tup (xs++ys))))
def Vals.nil_iff {xs:List V}{us:List Value}(r:Vals xs us):us=[]↔xs=[]:=by
 cases r with
 | nil=>simp
 | cons _ _=>simp
def zlR:OpR X (binaryOp .Add) (zlQ X.K):=by
 intro pins s σ H x y v u Q I rx ry h
 obtain ⟨a,b,xs,ys,rfl,rfl,ha,hb,hx,hz,q1,q2⟩:=h
 cases rx
 cases ry
 obtain ⟨its,r1,p1,_⟩:=I.tuple ha
 obtain ⟨its2,r2,p2,_⟩:=I.tuple hb
 refine HT.cat_tup p1 p2 (fun z=>hx (r1.nil_iff.mp z)) (fun z=>⟨.ref a,H,I,rfl,q1 (r2.nil_iff.mp z)⟩) (fun z=>?_) (by rw [<-r1.length,<-r2.length];exact hz)
 refine ⟨.ref s.heap.objs.size,_,I.laid (t':=s.toks) (o:=.tup (xs++ys)) (fun b ob q=>yv _ q) (yf _) ?_,rfl,q2 (fun w=>z (r2.nil_iff.mpr w)) _ (I.hok.fresh (yf _))⟩
 exact ⟨by rw [jG];exact hz,_,r1.append r2,IsTup.new _ _⟩
end
def ixN (n:Nat) (i:Int):Option Nat:=if 0<=i then (if i<n then some i.toNat else none) else if -(n:Int)<=i then some (i+n).toNat else none
def atI {α:Type}(xs:List α) (i:Int):Option α:=(ixN xs.length i).bind fun j=>xs[j]?
def zgc {n:Nat}{i:Int}{j:Nat}(h:ixN n i=some j):seqIndex? i n=some j/\j<n /\ -(n:Int)<=i/\i<n:=by
 unfold ixN at h
 by_cases h0:0<=i
 ·rw [zH h0] at h
  by_cases h1:i<n
  ·rw [zH h1] at h
   have e:i.toNat=j:=Option.some.inj h
   exact ⟨by rw [seqIndex_of h0 h1,e],by omega,by omega,h1⟩
  ·rw [zX h1] at h;cases h
 ·rw [zX h0] at h
  by_cases h1 : -(n:Int)<=i
  ·rw [zH h1] at h
   have e:(i+n).toNat=j:=Option.some.inj h
   exact ⟨by rw [seqIndex_neg (by omega) h1,e],by omega,h1,by omega⟩
  ·rw [zX h1] at h;cases h
def atI_get {α:Type}{xs:List α}{i:Int}{v:α}(h:atI xs i=some v):∃j,seqIndex? i xs.length=some j/\xs[j]?=some v/\j<xs.length /\ -(xs.length:Int)<=i/\i<xs.length:=by
 unfold atI at h
 cases e:ixN xs.length i with
 | none=>rw [e] at h;cases h
 | some j =>
  rw [e] at h
  obtain ⟨h1,h2,h3,h4⟩:=zgc e
  exact ⟨j,h1,h,h2,h3,h4⟩
def atI_last {α:Type}(xs:List α) (v:α):atI (xs++[v]) (-1)=some v:=by
 have hl:(xs++[v]).length=xs.length+1:=by simp
 have e:ixN (xs++[v]).length (-1)=some xs.length:=by
  unfold ixN
  rw [hl,zX (by decide),zH (by omega)]
  congr 1
  omega
 unfold atI
 rw [e]
 show (xs++[v])[xs.length]?=some v
 simp
def PlainIx (b:Expr):Prop:=∀o i,subscripted b false o i=operate [o,i] (getItem o i)
def IxR (X:Cx) (r:R2):Prop :=
 ∀(value slice:Expr) (pins:List (Addr×Obj)) (s:Shared) (σ:St) (H:Hp) (x y:V) (v u:Value) (Q:VK),Inv X pins σ H s->RelV x v->RelV y u->r x y H Q ->
  subscripted slice false v u=operate [v,u] (getItem v u)->wpAny (model X.prog X.w) X.A (subscriptTail value slice v u) (EP X pins σ Q) X.xe s
def MtR (X:Cx) (id:String) (r:V->List V->Hp->VK->Prop):Prop :=
 ∀(pins:List (Addr×Obj)) (s:Shared) (σ:St) (H:Hp) (x:V) (xs:List V) (v:Value) (us:List Value) (Q:VK),Inv X pins σ H s->RelV x v->Vals xs us->r x xs H Q ->
  wpAny (model X.prog X.w) X.A (call (.builtin id) (v::us)) (EP X pins σ Q) X.xe s
section
variable {X:Cx}{a b:Expr}{ta tb:TE}{pos:Pos}
def IxR.or {r r':R2}(h:IxR X r) (h':IxR X r'):IxR X (fun x y H Q=>r x y H Q\/r' x y H Q):=by
 intro value slice pins s σ H x y v u Q I rx ry q hs
 rcases q with q|q
 ·exact h value slice pins s σ H x y v u Q I rx ry q hs
 ·exact h' value slice pins s σ H x y v u Q I rx ry q hs
def zlS {r:R2}(hr:IxR X r) (ha:PE X a ta) (hb:PE X b tb) (hs:PlainIx b):PE X (.Subscript a b pos) (tOp r ta tb):=by
 intro pins s σ H Q I h
 exact Subscript_ (binT ha hb I h fun v u s2 x y H2 I2 rx ry q=>hr a b pins s2 σ H2 x y v u Q I2 rx ry q (hs _ _))
def zgd (K:PySem.W.Frag):R2:=fun x y H Q=>∃p xs i v,x=.ref p/\y=.int i/\SqL K H p xs/\atI xs i=some v/\Q v H
def zge (K:PySem.W.Frag):R2:=fun x y H Q=>∃p xs i v,x=.ref p/\y=.int i/\SqT K H p xs/\atI xs i=some v/\Q v H
def zgf:R2:=fun x y H Q=>∃z i c,x=.str z/\y=.int i/\z.length<=sizeLine/\atI z.cps.toList i=some c/\Q (.str ⟨#[c]⟩) H
def zlT:IxR X (zgd X.K):=by
 intro value slice pins s σ H x y v u Q I rx ry h hs
 obtain ⟨p,xs,i,z,rfl,rfl,hq,he,q⟩:=h
 cases rx
 obtain ⟨t,rfl⟩:=ry
 obtain ⟨its,r,pl,hz⟩:=I.list hq
 obtain ⟨j,h1,h2,h3,h4,h5⟩:=atI_get he
 obtain ⟨w,ew,rw'⟩:=r.get h2
 have hl:=r.length
 have hn:=zcl
 have fin:EP X pins σ Q w s:=⟨z,H,I,rw',q⟩
 by_cases h0:0<=i
 ·have hj:i.toNat=j:=by
   rw [seqIndex_of h0 h5] at h1
   exact Option.some.inj h1
  exact item_listR pl.isList h0 (by omega) (by rw [hj];simpa using ew) fin hs
 ·have hj:(i+(its.toArray.size:Int)).toNat=j:=by
   rw [seqIndex_neg (by omega) h4] at h1
   rw [yP,<-hl]
   exact Option.some.inj h1
  exact subscriptTail_builtinR (x:=w) pl.isList.typeIs slot_list_getitem.lookup
   (wpAny_getItem_list_neg (Q:=fun r s'=>r=w/\EP X pins σ Q r s') pl.isList (by omega) (by rw [yP]<;>omega) (by omega) (by rw [hj];simpa using ew) ⟨rfl,fin⟩) hs
def zlU:IxR X (zge X.K):=by
 intro value slice pins s σ H x y v u Q I rx ry h hs
 obtain ⟨p,xs,i,z,rfl,rfl,hq,he,q⟩:=h
 cases rx
 obtain ⟨t,rfl⟩:=ry
 obtain ⟨its,r,pl,hz⟩:=I.tuple hq
 obtain ⟨j,h1,h2,h3,h4,h5⟩:=atI_get he
 obtain ⟨w,ew,rw'⟩:=r.get h2
 have hl:=r.length
 have hn:=zcl
 have fin:EP X pins σ Q w s:=⟨z,H,I,rw',q⟩
 exact subscriptTail_builtinR (x:=w) pl.typeIs slot_tuple_getitem.lookup
  (getItem_tuple (j:=j) (Q:=fun r s'=>r=w/\EP X pins σ Q r s') pl (by omega) (by omega) (by rw [yP,<-hl];exact h1) (by simpa using ew) ⟨rfl,fin⟩) hs
def zlV:IxR X zgf:=by
 intro value slice pins s σ H x y v u Q I rx ry h hs
 obtain ⟨z,i,c,rfl,rfl,hz,he,q⟩:=h
 obtain ⟨t,rfl⟩:=rx
 obtain ⟨t',rfl⟩:=ry
 obtain ⟨j,h1,h2,h3,h4,h5⟩:=atI_get he
 have hl:z.cps.toList.length=z.length:=by simp [Str.length]
 rw [hl] at h1 h4 h5
 have hn:=zcl
 exact tail_any (typeIs_str s z t) slot_str_getitem.lookup (getItem_str (c:=c) (by
  have e1:decide (i < -(2 ^ 63:Int))=false:=wu (by omega)
  have e2:decide (i>=2 ^ 63)=false:=wu (by omega)
  rw [e1,e2,Bool.or_false]) (by rw [h1];simpa using h2) ⟨.str ⟨#[c]⟩,H,I.tok _,⟨_,rfl⟩,q⟩) hs
def rIx (K:PySem.W.Frag):R2:=fun x y H Q=>zgd K x y H Q\/zge K x y H Q\/zgf x y H Q
def zlX:IxR X (rIx X.K):=zlT.or (zlU.or zlV)
def zlY (its:List Value) (n j:Nat) (u:Value):Obj.mapSeq (·.setIfInBounds j u) { cls:=.type "list", data:=.seq its.toArray n }={ cls:=.type "list", data:=.seq (its.set j u).toArray n }:=by
 simp [Obj.mapSeq]
def Inv.lst {pins:List (Addr×Obj)}{σ:St}{H:Hp}{s:Shared}{p:Addr}{xs:List V}(I:Inv X pins σ H s) (h:H p=some (.lst xs)) :
  ∃(its:List Value) (n:Nat),Vals xs its/\s.heap.get? p=some { cls:=.type "list", data:=.seq its.toArray n }/\xs.length<=sizeLine:=by
 obtain ⟨z,its,n,r,e⟩:=I.hok p _ h
 exact ⟨its,n,r,e,z⟩
def Inv.lstUpd {pins:List (Addr×Obj)}{σ:St}{H:Hp}{s:Shared}{p:Addr}{xs ys:List V}{its its':List Value}{n n':Nat}{f:Obj->Obj}(I:Inv X pins σ H s) (h:H p=some (.lst xs))
  (ho:s.heap.get? p=some { cls:=.type "list", data:=.seq its.toArray n }) (hf:f { cls:=.type "list", data:=.seq its.toArray n }={ cls:=.type "list", data:=.seq its'.toArray n' }) (r:Vals ys its') (hz:ys.length<=sizeLine) (t:Nat) :
  Inv X pins σ (upd H p (.lst ys)) { s with heap:=s.heap.update p f,toks:=t }:=by
 have e:(s.heap.update p f).get? p=some { cls:=.type "list", data:=.seq its'.toArray n' }:=by
  rw [Heap.get?_update_self f ho (by rw [hf]<;>rfl),hf]
 refine I.write (x:=p) (e:=p) (by rw [h];trivial) (.inl rfl) (fun b u hb q=>(zah _ _ (yJ hb)).trans q) ⟨_,e⟩ ?_
 exact ⟨hz,its',n',r,e⟩
def zlZ:V->V->V->Hp->(Hp->Prop)->Prop:=fun o i v H Q=>∃p xs k j,o=.ref p/\i=.int k/\H p=some (.lst xs)/\ixN xs.length k=some j/\Q (upd H p (.lst (xs.set j v)))
def zl0:PSet X zlZ:=by
 intro pins s σ H o i v ov iv u Q I ro ri rv h
 obtain ⟨p,xs,k,j,rfl,rfl,hp,hj,q⟩:=h
 cases ro
 obtain ⟨t,rfl⟩:=ri
 obtain ⟨its,n,r,ho,hz⟩:=I.lst hp
 obtain ⟨h1,h2,h3,h4⟩:=zgc hj
 have hl:=r.length
 have hn:=zcl
 have I':Inv X pins σ (upd H p (.lst (xs.set j v))) { s with heap:=s.heap.update p (Obj.mapSeq (·.setIfInBounds j u)) } :=
  I.lstUpd hp ho (zlY its n j u) (r.set rv j) (by rw [List.length_set];exact hz) s.toks
 by_cases h0:0<=k
 ·have hk:k.toNat=j:=by
   rw [seqIndex_of h0 h4] at h1
   exact Option.some.inj h1
  exact PySem.W.ki_setAt ho h0 (by omega) (by rw [yP,<-hl];exact h4) (by rw [hk];exact ⟨_,I',q⟩)
 ·have hk:(k+(its.toArray.size:Int)).toNat=j:=by
   rw [seqIndex_neg (by omega) h3] at h1
   rw [yP,<-hl]
   exact Option.some.inj h1
  exact PySem.W.ki_setBack ho (by omega) (by rw [yP,<-hl];exact h3) (by omega) (by rw [hk];exact ⟨_,I',q⟩)
def zl1 (lo hi:Option Int) (n:Nat):(sliceBounds lo hi none n).1=((HT.sIx n 0 lo:Nat):Int)/\(sliceBounds lo hi none n).2.1=((HT.sIx n n hi:Nat):Int)/\(sliceBounds lo hi none n).2.2=1:=by
 refine ⟨?_,?_,rfl⟩
 ·cases lo with
  | none=>simp [sliceBounds,HT.sIx]
  | some i =>
   simp only [sliceBounds,HT.sIx,Option.getD_none,show (1:Int)>0 by decide,yw]
   by_cases h:i<0
   ·simp only [h,yw]<;>omega
   ·simp only [h,ym]<;>omega
 ·cases hi with
  | none=>simp [sliceBounds,HT.sIx]
  | some i =>
   simp only [sliceBounds,HT.sIx,Option.getD_none,show (1:Int)>0 by decide,yw]
   by_cases h:i<0
   ·simp only [h,yw]<;>omega
   ·simp only [h,ym]<;>omega
def zl2 (its:List Value) (lo hi:Option Int):slicePick its.toArray lo hi none=((its.drop (HT.sIx its.length 0 lo)).take (HT.sIx its.length its.length hi-HT.sIx its.length 0 lo)).toArray:=by
 obtain ⟨h1,h2,h3⟩:=zl1 lo hi its.toArray.size
 unfold slicePick
 rw [h1,h2,h3]
 simp only [sliceRange_one,pick_run,yP]<;>rfl
def zl3 (K:PySem.W.Frag):V->Option Int->Option Int->Hp->VK->Prop:=fun x lo hi H Q=>∃a xs,x=.ref a/\SqL K H a xs/\∀p,H p=none->Q (.ref p) (upd H p (.lst (cutV xs lo hi)))
def zl4:SlR X (zl3 X.K):=by
 intro pins s σ H x v vl vu lo hi sl Q I rx hs pl pu h
 obtain ⟨a,xs,rfl,hx,q⟩:=h
 cases rx
 obtain ⟨its,r,ht,hz⟩:=I.list hx
 have hlen:=r.length
 refine ⟨"list", _,slot_list_getitem.lookup,ht.isList.typeIs,?_⟩
 refine wpAny_getItem_list_slice ht.isList hs pl pu .none (by simp) ?_ (by rw [yP]<;>omega)
 rw [zl2,<-hlen]
 refine ⟨.ref s.heap.objs.size,_,I.laid (t':=s.toks) (o:=.lst (cutV xs lo hi)) (fun b ob q=>yv _ q) (yf _) ?_,rfl,q _ (I.hok.fresh (yf _))⟩
 exact ⟨yS (zgb xs lo hi) hz,_,0,(r.drop (HT.sIx xs.length 0 lo)).take (HT.sIx xs.length xs.length hi-HT.sIx xs.length 0 lo),jv _ rfl⟩
def CallR.or {f:Value}{r r':List V->Hp->VK->Prop}(h:CallR X f r) (h':CallR X f r'):CallR X f (fun xs H Q=>r xs H Q\/r' xs H Q):=by
 intro pins s σ H xs us Q I rs q
 rcases q with q|q
 ·exact h pins s σ H xs us Q I rs q
 ·exact h' pins s σ H xs us Q I rs q
def zl5:CallR X (.type "list") (fun xs H Q=>∃p ys,xs=[.ref p]/\(SqL X.K H p ys\/SqT X.K H p ys)/\∀l,H l=none->Q (.ref l) (upd H l (.lst ys))):=by
 intro pins s σ H xs us Q I r h
 obtain ⟨p,ys,rfl,hq,q⟩:=h
 obtain ⟨u,rfl,rx⟩:=w6 r
 cases rx
 have fin:∀(its:List Value),Vals ys its->ys.length<=sizeLine->∀(h':Heap) (c':Nat),(∀b o',s.heap.get? b=some o'->h'.get? b=some o') ->
   h'.get? s.heap.objs.size=some { cls:=.type "list", dict:=none,data:=.seq its.toArray c',slots:=#[] }->EP X pins σ Q (.ref s.heap.objs.size) { s with heap:=h' }:=fun its r' hz h' c' kp e =>
  ⟨.ref s.heap.objs.size,_,I.laid (t':=s.toks) kp (yf _) (show ObjOk X.prog X.w _ h' _ (.lst ys) from ⟨hz,its,c',r',e⟩),rfl,q _ (I.hok.fresh (yf _))⟩
 rcases hq with hq|hq
 ·obtain ⟨its,r',pl,hz⟩:=I.list hq
  have hlen:=r'.length
  obtain ⟨o,ho,hc,n,hd⟩:=pl.isList
  exact call_list_seq p (.inl rfl) ho hc hd (fun h' c' kp e=>fin its r' hz h' c' kp e) (by simp only [yP]<;>omega)
 ·obtain ⟨its,r',pl,hz⟩:=I.tuple hq
  have hlen:=r'.length
  obtain ⟨o,ho,hc,n,hd⟩:=pl
  exact call_list_seq p (.inr rfl) ho hc hd (fun h' c' kp e=>fin its r' hz h' c' kp e) (by simp only [yP]<;>omega)
def zl6:CallR X (.type "tuple") (fun xs H Q=>∃p ys,xs=[.ref p]/\((SqL X.K H p ys/\∀l,H l=none->Q (.ref l) (upd H l (.tup ys)))\/(SqT X.K H p ys/\Q (.ref p) H))):=by
 intro pins s σ H xs us Q I r h
 obtain ⟨p,ys,rfl,h⟩:=h
 obtain ⟨u,rfl,rx⟩:=w6 r
 cases rx
 rcases h with ⟨hq,q⟩|⟨hq,q⟩
 ·obtain ⟨its,r',pl,hz⟩:=I.list hq
  have hlen:=r'.length
  refine call_tuple_list pl.isList (fun h' kp=>?_) (by simp only [yP]<;>omega)
  have I1:Inv X pins σ H { s with heap:=h' }:=I.kept (t':=s.toks) kp
  have I2:Inv X pins σ (upd H h'.objs.size (.tup ys)) { s with heap:=h'.push { cls:=.type "tuple", data:=.seq its.toArray } } :=
   I1.laid (t':=s.toks) (fun b o e=>yv _ e) (yf _) (show ObjOk X.prog X.w _ _ _ (.tup ys) from ⟨hz,its,r',IsTup.new _ _⟩)
  exact ⟨.ref h'.objs.size,_,I2,rfl,q _ (I1.hok.fresh (yf _))⟩
 ·obtain ⟨its,r',pl,hz⟩:=I.tuple hq
  exact call_tuple_same pl ⟨.ref p,H,I,rfl,q⟩
def tyV (K:PySem.W.Frag) (T:String) (x:V) (H:Hp):Prop:=match x with
 | .str _=>T = "str"
 | .int _=>T = "int"
 | .ref p=>(T = "list" /\ ∃xs,SqL K H p xs)\/(T = "tuple" /\ ∃o,K.lookup p=some o/\o.cls=.type "tuple" /\ o.dict=none) \/
   (T = "dict" /\ ((∃kvs,H p=some (.dK kvs))\/∃kvs,H p=some (.dT kvs)))\/(T = "set" /\ ∃S n,H p=some (.set S n))
 | _=>False
def zgg {pins:List (Addr×Obj)}{σ:St}{H:Hp}{s:Shared}{T:String}{x:V}{v:Value}(I:Inv X pins σ H s) (r:RelV x v) (ty:tyV X.K T x H) :
  s.TypeIs v T/\∀a,v=.ref a->∃ob,s.heap.get? a=some ob/\ob.dict=none:=by
 cases x with
 | str z =>
  obtain ⟨t,rfl⟩:=r
  cases (show T = "str" from ty)
  exact ⟨typeIs_str s z t,fun _ e=>nomatch e⟩
 | int i =>
  obtain ⟨t,rfl⟩:=r
  cases (show T = "int" from ty)
  exact ⟨typeIs_int s i t,fun _ e=>nomatch e⟩
 | ref p =>
  cases r
  rcases ty with ⟨rfl,xs,hq⟩|⟨rfl,o,hk,hc,hd⟩|⟨rfl,hk⟩|⟨rfl,S,n,hk⟩
  ·obtain ⟨its,_,pl,_⟩:=I.list hq
   refine ⟨pl.isList.typeIs,fun a e=>?_⟩
   cases e
   obtain ⟨o,n,e,c,hd,_⟩:=pl
   exact ⟨o,e,hd⟩
  ·refine ⟨⟨o,I.kIn p o hk,hc⟩,fun a e=>?_⟩
   cases e
   exact ⟨o,I.kIn _ o hk,hd⟩
  ·have z:∃o,s.heap.get? p=some o/\o.ExactDict:=by
    rcases hk with ⟨kvs,hk⟩|⟨kvs,hk⟩
    ·obtain ⟨_,_,_,_,o,_,_,e,ex,_⟩:=I.hok p _ hk
     exact ⟨o,e,ex⟩
    ·obtain ⟨_,_,_,_,o,_,_,e,ex,_⟩:=I.hok p _ hk
     exact ⟨o,e,ex⟩
   obtain ⟨o,e,ex⟩:=z
   refine ⟨⟨o,e,ex.1⟩,fun a e2=>?_⟩
   cases e2
   exact ⟨o,e,ex.2.1⟩
  ·obtain ⟨o,_,_,_,e,ex,_⟩:=I.hok p _ hk
   refine ⟨⟨o,e,ex.1⟩,fun a e2=>?_⟩
   cases e2
   exact ⟨o,e,ex.2.1⟩
 | _=>exact ty.elim
def zl7 (K:PySem.W.Frag) (T:String) (r:V->List V->Hp->VK->Prop) (to:TE):TE:=fun σ H Q=>to σ H fun x H1=>tyV K T x H1/\r x [] H1 Q
def tBM (K:PySem.W.Frag) (T:String) (r:V->List V->Hp->VK->Prop) (to:TE) (t:TA):TE:=fun σ H Q=>to σ H fun x H1=>tyV K T x H1/\t σ H1 fun xs H2=>r x xs H2 Q
variable {o e:Expr}{es:List Expr}{to:TE}{t:TA}{name:Str}{apos cpos:Pos}{T id:String}{r:V->List V->Hp->VK->Prop}
def zl9 (pa:PlainAttrs T) (slot:Slot T name id) (hty:typeOf (.builtin id)=pure (.type "method_descriptor")) (hm:MtR X id r) (ho:PE X o to)
  (hbase:attributeBase o name X.env (eval o X.env)=eval o X.env:=by rfl) (hline:(apos.endLine==cpos.line)=true:=by rfl):PE X (.Call (.Attribute o name apos) [] [] cpos) (zl7 X.K T r to):=by
 intro pins s σ H Q I h
 refine wpAny_Call_method0_late hbase hline (thn (ho pins s σ H _ I h) fun v s1 ⟨x,H1,I1,r1,ty,q1⟩=>?_)
 obtain ⟨h1,h2⟩:=zgg I1 r1 ty
 exact ⟨T,id,pa,slot,hty,h1,h2,Calls.callWith_builtin rfl (PySem.evalArgs_none (hm pins s1 σ H1 x [] v [] Q I1 r1 .nil q1))⟩
def zdd (pa:PlainAttrs T) (slot:Slot T name id) (hty:typeOf (.builtin id)=pure (.type "method_descriptor")) (hm:MtR X id r) (ho:PE X o to) (ha:PA X (e::es) t)
  (hbase:attributeBase o name X.env (eval o X.env)=eval o X.env:=by rfl)
  (hfew:((backTo cpos (starEach (e::es) X.env)).all (fun x=>!x.1)&&(backToKw cpos (keywordEach [] X.env)).all (fun x=>x.1.isSome)
   && decide ((e::es).length+([]:List Keyword).length+(if ([]:List Keyword).isEmpty then 0 else 1)<30))=true:=by rfl)
  (hline:(apos.endLine==cpos.line)=true:=by rfl) (hs:starEach (e::es) X.env=(false,eval e X.env)::starEach es X.env:=by rfl) (hplain:(backTo cpos (starEach es X.env)).any (·.1)=false:=by rfl) :
  PE X (.Call (.Attribute o name apos) (e::es) [] cpos) (tBM X.K T r to t):=by
 intro pins s σ H Q I h
 refine wpAny_Call_method_late hbase hfew hline rfl (thn (ho pins s σ H _ I h) fun v s1 ⟨x,H1,I1,r1,ty,q1⟩=>?_)
 obtain ⟨h1,h2⟩:=zgg I1 r1 ty
 refine ⟨T,id,pa,slot,hty,h1,h2,?_⟩
 have hA:=ha cpos pins s1 σ H1 _ I1 q1
 rw [hs] at hA ⊢
 refine Calls.callWith_builtin (by show (false||(backTo cpos (starEach es X.env)).any (·.1))=false;rw [hplain]<;>rfl) (Calls.evalArgs_plain ?_)
 exact thn hA fun us s2 ⟨vs,H2,I2,r2,q2⟩=>hm pins s2 σ H2 x vs v us Q I2 r1 r2 q2
end
def MtM (X:Cx) (id:String) (r:V->List V->Hp->VK->Prop):Prop :=
 ∀(pins:List (Addr×Obj)) (s:Shared) (σ:St) (H:Hp) (x:V) (xs:List V) (v:Value) (us:List Value) (Q:VK),Inv X pins σ H s->RelV x v->Vals xs us->r x xs H Q ->
  wpAny (model X.prog X.w) X.A (call (.builtin id) (v::us)) (EP X pins σ Q) X.xe s
def Vals.one:∀{x:V}{us:List Value},Vals [x] us->∃u,us=[u]/\RelV x u
 | _,_,.cons r .nil=>⟨_,rfl,r⟩
def Vals.zero:∀{us:List Value},Vals [] us->us=[]
 | _,.nil=>rfl
def Vals.dropLast {xs:List V}{us:List Value}(h:Vals xs us):Vals xs.dropLast us.dropLast:=by
 induction h with
 | nil=>exact .nil
 | cons r t ih =>
  cases t with
  | nil=>exact .nil
  | cons q t'=>exact .cons r ih
def Vals.eraseIdx:∀{xs:List V}{us:List Value}(i:Nat),Vals xs us->Vals (xs.eraseIdx i) (us.eraseIdx i)
 | _,_,_,.nil=>.nil
 | _,_,0,.cons _ t=>t
 | _,_,i+1,.cons r t=>.cons r (Vals.eraseIdx i t)
def zma {α:Type}(l:List α):l.eraseIdx (l.length-1)=l.dropLast:=by
 induction l with
 | nil=>rfl
 | cons a r ih =>
  cases r with
  | nil=>rfl
  | cons b r =>
   have e:(a::b::r).length-1=((b::r).length-1)+1:=by
    have h1:(a::b::r).length=r.length+2:=rfl
    have h2:(b::r).length=r.length+1:=rfl
    omega
   rw [e,List.eraseIdx_cons_succ,ih]
   all_goals rfl
def zgh {α:Type}:∀(l:List α) (i:Nat),(l.eraseIdx i).length<=l.length
 | [],_=>yf _
 | _::_,0=>Nat.le_succ _
 | _::r,i+1=>Nat.succ_le_succ (zgh r i)
section
variable {X:Cx}{pins:List (Addr×Obj)}{σ:St}{H:Hp}{s:Shared}{l b:Addr}{xs ys zs:List V}
def Inv.lset {its its':List Value}{n:Nat}{f:Array Value->Array Value}{t':Nat}(I:Inv X pins σ H s) (hH:H l=some (.lst xs))
  (e:s.heap.get? l=some { cls:=.type "list", data:=.seq its.toArray n }) (hf:f its.toArray=its'.toArray) (hv:Vals ys its') (hz:ys.length<=sizeLine) :
  Inv X pins σ (upd H l (.lst ys)) { s with heap:=s.heap.update l (Obj.mapSeq f),toks:=t' }:=by
 have q:=PySem.IsL.update e f
 rw [hf] at q
 refine I.write (x:=l) (e:=l) (by rw [hH];exact trivial) (.inl rfl) (fun b' u hb hu=>(zah s.heap (Obj.mapSeq f) (yJ hb)).trans hu) ⟨_,q⟩ ?_
 exact ⟨hz,its',_,hv,q⟩
def Inv.lnew {its:List Value}{t':Nat}(I:Inv X pins σ H s) (hv:Vals ys its) (hz:ys.length<=sizeLine) :
  Inv X pins σ (upd H s.heap.objs.size (.lst ys)) { s with heap:=s.heap.push { cls:=.type "list", data:=.seq its.toArray },toks:=t' } :=
 I.laid (fun _ _ q=>yv _ q) (yf _) ⟨hz,its,0,hv,jv _ rfl⟩
def Inv.fresh (I:Inv X pins σ H s):H s.heap.objs.size=none:=I.hok.fresh (yf _)
def Inv.lstM (I:Inv X pins σ H s) (hH:H l=some (.lst xs)):xs.length<=sizeLine/\∃(its:List Value) (n:Nat),Vals xs its/\xs.length=its.length/\s.heap.get? l=some { cls:=.type "list", data:=.seq its.toArray n }:=by
 obtain ⟨z,its,n,r,e⟩:=I.hok l _ hH
 exact ⟨z,its,n,r,r.length,e⟩
def notLongL {n:Nat}(h:n<=sizeLine):Builtin.List.listTooLong n=false:=by
 unfold Builtin.List.listTooLong
 exact wu (by omega)
end
section
variable {X:Cx}
def zmb:V->List V->Hp->VK->Prop:=fun x vs H Q=>∃l xs y,x=.ref l/\vs=[y]/\H l=some (.lst xs)/\xs.length<sizeLine/\Q .non (upd H l (.lst (xs++[y])))
def zmc:MtM X "list.append" zmb:=by
 intro pins s σ H x vs v us Q I rx rv h
 obtain ⟨l,xs,y,rfl,rfl,hH,hz,q⟩:=h
 cases rx
 obtain ⟨u,rfl,ru⟩:=rv.one
 obtain ⟨z,its,n,r,hl,e⟩:=I.lstM hH
 refine call_meets F.slot_list_append ⟨_,e,rfl⟩ F.entry_list_append (F.args_list_append_2 _ _) (PySem.list_append l its.toArray n u (by rw [yP];omega)) ⟨e,?_⟩
 refine ⟨.non,_,I.lset (its':=its++[u]) hH e (by simp) (r.append (.cons ru .nil)) ?_,rfl,q⟩
 rw [jG,zbp]
 omega
def zmd:V->List V->Hp->VK->Prop:=fun x vs H Q=>∃l b xs zs,x=.ref l/\vs=[.ref b]/\H l=some (.lst xs)/\H b=some (.lst zs)/\xs.length+zs.length<=sizeLine/\Q .non (upd H l (.lst (xs++zs)))
def zme:MtM X "list.extend" zmd:=by
 intro pins s σ H x vs v us Q I rx rv h
 obtain ⟨l,b,xs,zs,rfl,rfl,hH,hB,hz,q⟩:=h
 cases rx
 obtain ⟨u,rfl,ru⟩:=rv.one
 cases ru
 obtain ⟨z,its,n,r,hl,e⟩:=I.lstM hH
 obtain ⟨z2,its2,n2,r2,hl2,e2⟩:=I.lstM hB
 have hsz:its.toArray.size+its2.toArray.size<=sizeLine:=by rw [yP,yP];omega
 have hlong:¬(!its.toArray.isEmpty&&Builtin.List.listTooLong (its.toArray.size+its2.toArray.size))=true:=by
  rw [notLongL hsz,Bool.and_false]
  exact Bool.false_ne_true
 refine call_meets F.slot_list_extend ⟨_,e,rfl⟩ F.entry_list_extend (F.args_list_extend_2 _ _)
  (AutoSeq1.list_extend_list_list_0 l its.toArray n b its2.toArray n2 hlong (by rw [yP];omega) (by omega)) ⟨e,e2,?_⟩
 refine ⟨.non,_,I.lset (its':=its++its2) hH e (by simp) (r.append r2) ?_,rfl,q⟩
 rw [jG]
 omega
def zmf:V->List V->Hp->VK->Prop:=fun x vs H Q=>∃l xs y,x=.ref l/\vs=[]/\H l=some (.lst xs)/\xs[xs.length-1]?=some y/\Q y (upd H l (.lst xs.dropLast))
def zmg:MtM X "list.pop" zmf:=by
 intro pins s σ H x vs v us Q I rx rv h
 obtain ⟨l,xs,y,rfl,rfl,hH,hy,q⟩:=h
 cases rx
 have hus:=rv.zero
 subst hus
 obtain ⟨z,its,n,r,hl,e⟩:=I.lstM hH
 obtain ⟨u,hu,ru⟩:=r.get hy
 have hy':its.toArray[its.toArray.size-1]?=some u:=by
  show its.toArray[its.length-1]?=some u
  rw [<-Array.getElem?_toList,<-hl]
  exact hu
 refine call_meets F.slot_list_pop ⟨_,e,rfl⟩ F.entry_list_pop (F.args_list_pop_1 _) (MeetsSeq.list_pop_last l its.toArray n u hy' (by rw [yP];omega)) ⟨e,?_⟩
 refine ⟨y,_,I.lset (its':=its.dropLast) hH e ?_ r.dropLast ?_,ru,q⟩
 ·show its.toArray.eraseIdxIfInBounds (its.toArray.size-1)=its.dropLast.toArray
  rw [yP,List.eraseIdxIfInBounds_toArray,zma]
 ·rw [List.length_dropLast]
  omega
def zmh:V->List V->Hp->VK->Prop:=fun x vs H Q=>∃l xs i k y,x=.ref l/\vs=[.int i]/\H l=some (.lst xs) /\ -(2 ^ 63)<=i/\i<2 ^ 63/\seqIndex? i xs.length=some k/\xs[k]?=some y/\Q y (upd H l (.lst (xs.eraseIdx k)))
def zmi:MtM X "list.pop" zmh:=by
 intro pins s σ H x vs v us Q I rx rv h
 obtain ⟨l,xs,i,k,y,rfl,rfl,hH,h1,h2,hk,hy,q⟩:=h
 cases rx
 obtain ⟨u,rfl,ru⟩:=rv.one
 obtain ⟨t,rfl⟩:=ru
 obtain ⟨z,its,n,r,hl,e⟩:=I.lstM hH
 obtain ⟨w,hw,rw'⟩:=r.get hy
 refine call_meets F.slot_list_pop ⟨_,e,rfl⟩ F.entry_list_pop (F.args_list_pop_2 _ _)
  (MeetsSeq.list_pop_at l its.toArray n i t k w (fitsIndex_both h1 h2) (by rw [yP,<-hl];exact hk) (by rw [<-Array.getElem?_toList];exact hw) (by rw [yP];omega)) ⟨e,?_⟩
 refine ⟨y,_,I.lset (its':=its.eraseIdx k) hH e ?_ (r.eraseIdx k) ?_,rw',q⟩
 ·show its.toArray.eraseIdxIfInBounds k=(its.eraseIdx k).toArray
  rw [List.eraseIdxIfInBounds_toArray]
 ·have:=zgh xs k
  omega
def zmj:R2:=fun x y H Q=>∃l b xs zs,x=.ref l/\y=.ref b/\H l=some (.lst xs)/\H b=some (.lst zs)/\xs.length+zs.length<=sizeLine/\∀p,H p=none->Q (.ref p) (upd H p (.lst (xs++zs)))
def zmk:OpR X (binaryOp .Add) zmj:=by
 intro pins s σ H x y v u Q I rx ry h
 obtain ⟨l,b,xs,zs,rfl,rfl,hH,hB,hz,q⟩:=h
 cases rx
 cases ry
 obtain ⟨z,its,n,r,hl,e⟩:=I.lstM hH
 obtain ⟨z2,its2,n2,r2,hl2,e2⟩:=I.lstM hB
 refine PySem.P.add_list e e2 ?_ (by rw [yP,yP];omega)
 have ea:its.toArray++its2.toArray=(its++its2).toArray:=by simp
 rw [ea]
 exact ⟨.ref _,_,I.lnew (t':=s.toks) (r.append r2) (by rw [jG];omega),rfl,q _ I.fresh⟩
end
section
variable {prog:Program}{w:World}{A:Around}{E:Value->Shared->Prop}{s:Shared}
end
section
variable {X:Cx}
end
end L2
namespace Att
open PySem PySem.W PySem.Calls PyProof.Rows
def zml {P:Params}{h:Heap}:∀(ns:List Int) (vs:List Value),WellAll P h vs (ns.map WData.int)->IntsAre vs ns:=by
 intro ns
 induction ns with
 | nil =>
  intro vs w
  rw [List.map_nil] at w
  cases w
  exact .nil
 | cons n ns ih =>
  intro vs w
  rw [jH] at w
  cases w with
  | cons a b =>
   cases a
   exact .cons _ _ (ih _ b)
def zmm {l:OpenLaw}{n:Nat}(hn:l.most=some n) {P:Params}{h:Heap}{args:List WData}{vals:List Value}
  (hpre:l.row.toRowW.claim.pre args=true) (hwl:WellAll P h vals args) :
  ∃a vs ns,vals=[Value.ref a]/\args=[WData.list (ns.map WData.int)]/\h.get? a=some { cls:=.type "list", data:=.seq vs.toArray }/\IntsAre vs ns/\ns.length<=n:=by
 have hsh:WShape.hasAll [] args [.list .int]=true:=(pre_splitW hpre).1
 have hc:l.pre.holds [] { args:=args }=true:=(pre_splitW hpre).2
 obtain ⟨d,r,rfl,h1,h2⟩:=hasAllW_cons hsh
 obtain rfl:=hasAllW_nil h2
 obtain ⟨xs,rfl,h3⟩:=hasW_list h1
 obtain ⟨ns,rfl⟩:=items_int h3
 have hlen:ns.length<=n:=by
  unfold OpenLaw.pre at hc
  have h4:(WTm.not (.lt (.lit (.int (n:Int))) (.len (.arg 0)))).holds [] { args:=[.list (ns.map .int)] }=true:=by
   have h4:=(holds_andW hc).1
   rw [hn] at h4
   exact h4
  have h5:=condW_of h4 (w_not (w_lt w_lit (w_len_list (w_arg rfl))))
  rw [jq] at h5
  refine Nat.le_of_not_lt fun q=>?_
  have q':(n:Int)<((ns.length:Nat):Int):=by omega
  first
   | (rw [zbN q'] at h5;exact absurd h5 (by decide))
   | (simp at h5;omega)
 cases hwl with
 | cons w1 w2 =>
  cases w2
  cases w1 with
  | list ho hall=>exact ⟨_,_,ns,rfl,rfl,ho,zml ns _ hall,hlen⟩
def zmn (l:OpenLaw) (args:List WData):l.row.toRowW.claim.post args (.bool true) args=true :=
 postW_of (r:=l.row.toRowW) (X:=(true==true))
  (show WShape.has [] (.bool true) .bool=true by first|rfl|decide|simp [WShape.has,WShape.arms,WShape.armsAll])
  (show (WTm.eq .res (.lit (.bool true))).value [] { args:=args,res:=some (.bool true),after:=args }=some (.bool (true==true)) from w_eq_bool (w_res rfl) w_lit) rfl
def attach_call {l:OpenLaw}{n:Nat}{q:Program}{loose:List Str}{XP:(Str->Option Value)->Heap->Prop}{YP:World->Heap->Prop}{d:DefRec}
  (hn:l.most=some n) (hdf:d.params.defaults=[])
  (call:∀(w:World) (s₀ ak:Shared) (mg mb:Str->Option Value) (fa:Addr) (o:Obj) (pm cd doc:Value) (a:Addr) (vs:List Value) (ns:List Int),
   Ground q loose [] XP w s₀ mg mb ak.heap->YP w ak.heap ->
   ak.heap.get? fa=some o->o.data=.func (docDef d.name d.params d.body d.scope pm cd doc)->ak.heap.CodeRec cd d.name->mg d.name=some (.ref fa) ->
   ak.heap.get? a=some { cls:=.type "list", data:=.seq vs.toArray }->IntsAre vs ns->ns.length<=n->ak.gens=#[] ->
   codeAny (model l.prog w) callerA (.call (.ref fa) ⟨[.ref a],[]⟩) (fun r s'=>r=.ok (.ret (.bool true))/\OldK ak.heap s'.heap/\s'.os=ak.os/\AllBare s'.gens) ak) :
  WalkO q loose XP YP l.row.toRowW d [] (fun f vs=>PySem.call f vs):=by
 intro w s₀ ak mg mb G Y fa o pm cd doc dV kV ho hd hcd hD hmg hg args vals as hpre hlay hrd hwl hlo
 obtain rfl:dV=.none:=Dflts.none hD hdf
 obtain rfl:kV=.none:=Dflts.noKw hD
 obtain ⟨a,vs,ns,rfl,rfl,hobj,hints,hlen⟩:=zmm hn hpre hwl
 refine enter_call (codeAny_mono (call w s₀ ak mg mb fa o pm cd doc a vs ns G Y ho (fd_plain hd) hcd hmg hobj hints hlen hg) fun r s' hq=>?_)
 obtain ⟨rfl,h2,h3,h4⟩:=hq
 exact ⟨.inl ⟨.bool true,.bool true,[],rfl,fun _=>rfl,.bool true,zmn l _,fun _=>⟨List.Pairwise.nil,fun _ hm=>(nomatch hm)⟩⟩,h2,h3,h4⟩
section
variable {prog:Program}{w:World}{A:Around}{E:Value->Shared->Prop}{s:Shared}{K:Frag}
end
end Att
namespace L2
open PySem PySem.Spec PyProof.Rows
def zgi:∀{vs:List Value}{ns:List Int},IntsAre vs ns->Vals (ns.map V.int) vs
 | _,_,.nil=>.nil
 | _,_,.cons n t h=>.cons ⟨t,rfl⟩ (zgi h)
def Only (H:Hp):Prop:=∀b,H b=none\/∃o xs,H b=some (.frz o (.lst xs))
def zmo {P:Program}{w:World}{K:PySem.W.Frag}{mg mb:Str->Option Value}{CX:CXT}{k:Nat}{fa a:Addr}{fd:FuncData}{x:Str}{sp:Sp}{ak:Shared}{vs:List Value}{ns:List Int}
  (KX:K.In ak.heap) (hns:ak.heap.Ns mainGlobals mg) (hb:ak.heap.Ns builtinsNs mb) (hbb:∀x:Str,x ≠ "__name__" -> mb x=bootBuiltins x) (hlim:ak.heap.NoLimit) (hg:ak.gens=#[])
  (ha:ak.heap.get? a=some { cls:=.type "list", data:=.seq vs.toArray }) (hi:IntsAre vs ns) (hl:ns.length<=sizeLine) (hr:Room k callerA)
  (F:∀base:Heap,K.In base->base.Ns mainGlobals mg->FnOk P w K mg base CX k fa fd [x] sp) (hbind:∀(s:Shared) (u:Value),BindsTo s fd ⟨[u],[]⟩ [(x,u)])
  (hsp:∀H:Hp,Only H->SqL K H a (ns.map V.int)->sp [.ref a] H (fun v _=>v=.bl true) fun _ _ _=>False)
  (hCX:∀H e s',CX [] H ak (fun _ _ _=>False) e s'->False) :
  codeAny (model P w) callerA (.call (.ref fa) ⟨[.ref a],[]⟩) (fun r s'=>r=.ok (.ret (.bool true))/\OldK ak.heap s'.heap/\s'.os=ak.os/\AllBare s'.gens) ak:=by
 have rv:=zgi hi
 have lenV:=hi.length
 have core:∀H:Hp,Only H->SqL K H a (ns.map V.int)->HOk P w H ak.heap->(∀b,H b≠none->b=a)->(H a≠none->K.lookup a=none) ->
   codeAny (model P w) callerA (.call (.ref fa) ⟨[.ref a],[]⟩) (fun r s'=>r=.ok (.ret (.bool true))/\OldK ak.heap s'.heap/\s'.os=ak.os/\AllBare s'.gens) ak:=by
  intro H hO hS hok hA hK
  have base_of:∀{b:Addr} {o:Obj},ak.heap.get? b=some o->H b=none->(hidT ak.heap H).get? b=some o:=fun e n=>zke e n
  have noA:∀{b:Addr} {o:Obj} {es:Array DictEntry} {ep:Nat},ak.heap.get? b=some o->o.data=.dict es ep->H b=none:=fun {b o es ep} e d=>by
   cases q:H b with
   | none=>rfl
   | some u =>
    have e':b=a:=hA b (by rw [q];simp)
    subst e'
    rw [ha] at e;cases e
    have d':Data.seq vs.toArray _=Data.dict es ep:=d
    cases d'
  have nsK:∀{b:Addr} {m:Str->Option Value},ak.heap.Ns b m->(hidT ak.heap H).Ns b m:=fun {b m} ⟨o,es,ep,e,d,r⟩=>⟨o,es,ep,base_of e (noA e d),d,r⟩
  have hKb:K.In (hidT ak.heap H):=fun b o e=>base_of (KX b o e) (by
   cases q:H b with
   | none=>rfl
   | some u =>
    have e':b=a:=hA b (by rw [q];simp)
    subst e'
    rw [hK (by rw [q];simp)] at e;cases e)
  have hM:Mod K mg (hidT ak.heap H):=⟨hKb,nsK hns,⟨mb,nsK hb,hbb⟩,let ⟨mc,h1,h2⟩:=hlim;⟨mc,nsK h1,h2⟩⟩
  have e0:Env0 P w K mg (hidT ak.heap H) callerA [] ak H:=⟨rfl,hM,fun b o e=>zkf e,Nat.le_of_eq (zkd _ _),trivial,fun b hb=>absurd (show b∈([]:List Addr) from hb) (by simp),hok,.of_eq hg⟩
  refine codeAny_mono ((F _ hKb (nsK hns)).run callerA [] ak H ⟨[.ref a],[]⟩ [.ref a] [.ref a] _ _ hr e0 (hbind ak (.ref a)) (.cons rfl .nil) (hsp H hO hS)) fun r s' h=>?_
  cases r with
  | error e=>exact (hCX H e s' h).elim
  | ok fl =>
   cases fl with
   | next=>exact h.elim
   | brk=>exact h.elim
   | cont=>exact h.elim
   | ret u =>
    obtain ⟨v,H',os,bare,un,hok',r',q⟩:=h
    have q':v=.bl true:=q
    subst q'
    obtain rfl:u=Value.bool true:=r'
    refine ⟨rfl,OldK.of_keep fun b o e=>?_,os,bare⟩
    cases q:H b with
    | none=>exact un.keep b o e q (by intro z;exact absurd (show b∈([]:List Addr) from z) (by simp)) (by simp)
    | some u =>
     rcases hO b with z|⟨ob,xs,z⟩
     ·rw [q] at z;cases z
     ·have z2:=un.frzs b ob _ z
      obtain ⟨e1,_⟩:=hok b _ z
      obtain ⟨e2,_⟩:=hok' b _ z2
      rw [e] at e1;cases e1
      exact e2
 cases hk:K.lookup a with
 | some o =>
  have e:=KX a o hk
  rw [ha] at e
  cases e
  refine core (fun _=>none) (fun _=>.inl rfl) (.inr ⟨_,vs.toArray,_,hk,rfl,rfl,rfl,by rw [yP,lenV];exact hl,by simpa using rv⟩) (fun b u z=>by have z':(none:Option HO)=some u:=z;cases z') (fun b z=>absurd rfl z) fun z=>absurd rfl z
 | none =>
  refine core (fun b=>if b=a then some (.frz { cls:=.type "list", data:=.seq vs.toArray } (.lst (ns.map V.int))) else none) (fun b=>?_) (.inl (.inr ⟨{ cls:=.type "list", data:=.seq vs.toArray },zH rfl⟩)) (fun b u z=>?_) (fun b z=>?_) fun _=>hk
  ·by_cases hb:b=a
   ·exact .inr ⟨_,_,zH hb⟩
   ·exact .inl (zX hb)
  ·by_cases hb:b=a
   ·have z':=(zH hb).symm.trans z
    cases z'
    subst hb
    exact ⟨ha,by rw [jq];exact hl,vs,_,rv,ha⟩
   ·have z':=(zX hb).symm.trans z
    cases z'
  ·by_cases hb:b=a
   ·exact hb
   ·exact absurd (zX hb) z
abbrev KOf {K:PySem.W.Frag}{h:Heap}(_:K.In h):PySem.W.Frag:=K
def zmp {l:PySem.W.OpenLaw}{n k:Nat}{q:Program}{loose:List Str}{XP:(Str->Option Value)->Heap->Prop}{YP:World->Heap->Prop}{d:DefRec}{K:Params->PySem.W.Frag}{CX:World->CXT}{sp:World->Sp}{x:Str}
  (hn:l.most=some n) (hn2:n<=sizeLine) (hdf:d.params.defaults=[]) (hr:Room k callerA)
  (hY:∀(w:World) (h:Heap),YP w h->(K w.params).In h)
  (F:∀(w:World) (mg:Str->Option Value) (fa:Addr) (h:Heap),(K w.params).In h->h.Ns mainGlobals mg->mg d.name=some (.ref fa) ->
   ∃fd:FuncData,(∀(s:Shared) (u:Value),BindsTo s fd ⟨[u],[]⟩ [(x,u)]) /\
    ∀base:Heap,(K w.params).In base->base.Ns mainGlobals mg->FnOk l.prog w (K w.params) mg base (CX w) k fa fd [x] (sp w))
  (hsp:∀(w:World) (H:Hp) (a:Addr) (ns:List Int),ns.length<=n->Only H->SqL (K w.params) H a (ns.map V.int)->sp w [.ref a] H (fun v _=>v=.bl true) fun _ _ _=>False)
  (hCX:∀(w:World) (H:Hp) (s:Shared) (e:Value) (s':Shared),CX w [] H s (fun _ _ _=>False) e s'->False) :
  PySem.W.WalkO q loose XP YP l.row.toRowW d [] (fun f vs=>PySem.call f vs):=by
 refine Att.attach_call hn hdf fun w s₀ ak mg mb fa o pm cd doc a vs ns G Y ho hd hcd hmg hobj hints hlen hg=>?_
 have KX:=hY w _ Y
 obtain ⟨fd,hb,hF⟩:=F w mg fa _ KX G.T.g hmg
 exact zmo KX G.T.g G.T.b G.T.builtins G.T.nolimit hg hobj hints (yS hlen hn2) hr hF hb (fun H hO hS=>hsp w H a ns hlen hO hS) fun H e s'=>hCX w H ak e s'
def zbq (s:Stmt):Arguments:=match s with
 | .FunctionDef _ a _ _ _ _ _ _ _ _=>a
 | _=>{ posonlyargs:=[],args:=[],vararg:=none,kwonlyargs:=[],kw_defaults:=[],kwarg:=none,defaults:=[] }
def wf (s:Stmt):List Stmt:=match s with
 | .FunctionDef _ _ b _ _ _ _ _ _ _=>b
 | _=>[]
def zT (s:Stmt):Scope:=match s with
 | .FunctionDef _ _ _ _ _ _ sc _ _ _=>sc
 | _=>{ kind:=.function,names:=[],isGenerator:=false,isCoroutine:=false }
abbrev CX0:CXT:=fun _ _ _ _ _ _=>False
structure Fun (K:PySem.W.Frag) (x qual:Str) (st:Stmt) (f:Addr) (fd:FuncData):Prop where
 ex:∃(oc:Value) (od:Option Addr) (kV doc pm:Value) (an:Option Addr) (cdv ct:Value) (osl:Array (Option Value)),
  fd=PySem.W.fnOf x qual (zbq st) (wf st) (zT st) .none kV doc pm an cdv ct/\K.lookup f=some ⟨oc,od,.func fd,osl⟩/\PySem.W.codeIn K cdv qual=true
 kp:PySem.W.keepIn K (.ref f)=true
section
variable {P:Program}{w:World}{K:PySem.W.Frag}{mg:Str->Option Value}{base:Heap}
def Fun.ok {x qual:Str}{st:Stmt}{f:Addr}{fd:FuncData}{N ps:List Str}{k:Nat}{sp:Sp}(F:Fun K x qual st f fd) (S:FnScope N ps (zT st)) (len:∀vs H Q E,sp vs H Q E->vs.length=ps.length)
  (hbody:∀(cdv:Value) (A:Around) (outer:List Env) (s:Shared) (H:Hp) (vs:List V) (Q:VK) (E:XK),Room k (A.deeper (envOfC qual (zT st) s.heap.objs.size f cdv))->sp vs H Q E ->
   ∃t,PSs (cxOf CX0 P w K mg base N qual (zT st) f cdv A outer s H E).nox (wf st) t/\t { nx:=fun _ H'=>Q .non H',rt:=Q } (start N vs) H):FnOk P w K mg base CX0 (k+1) f fd ps sp:=by
 obtain ⟨oc,od,kV,doc,pm,an,cdv,ct,osl,rfl,lk,hcd⟩:=F.ex
 refine zf7 lk hcd S len fun A outer s H vs Q E hr hsp=>?_
 obtain ⟨t,h,q⟩:=hbody cdv A outer s H vs Q E hr hsp
 exact ⟨t,h.nox,q⟩
def Fun.binds {x qual:Str}{st:Stmt}{f:Addr}{fd:FuncData}{ps:List Str}(F:Fun K x qual st f fd)
  (h:∀(kV doc pm:Value) (an:Option Addr) (cdv ct:Value) (us:List Value),us.length=ps.length->bindArgs (PySem.W.fnOf x qual (zbq st) (wf st) (zT st) .none kV doc pm an cdv ct) ⟨us,[]⟩=pure (ps.zip us)):Binds K fd ps []:=by
 obtain ⟨oc,od,kV,doc,pm,an,cdv,ct,osl,rfl,lk,hcd⟩:=F.ex
 exact .all (h kV doc pm an cdv ct)
def zgk {x qual:Str}{st:Stmt}{f:Addr}{oc:Value}{od an:Option Addr}{osl:Array (Option Value)}{kV doc pm cdv ct:Value}(l:K.lookup f=some ⟨oc,od,.func (PySem.W.fnOf x qual (zbq st) (wf st) (zT st) .none kV doc pm an cdv ct),osl⟩)
  (c:PySem.W.codeIn K cdv qual=true) (k:PySem.W.keepIn K (.ref f)=true):Fun K x qual st f (PySem.W.fnOf x qual (zbq st) (wf st) (zT st) .none kV doc pm an cdv ct):=⟨⟨oc,od,kV,doc,pm,an,cdv,ct,osl,rfl,l,c⟩,k⟩
end
section
variable {X:Cx}
def pv (i:Nat) {x:Str} {pos:Pos} (hN:X.N[i]?=some x:=by rfl) (hv:Vis X.env.scope x:=by first|exact Or.inl rfl|exact Or.inr (Or.inl rfl)|exact Or.inr (Or.inr rfl)) (hd:(x==("__debug__" : Str))=false:=by decide)
  (hcd:(x==("__classdict__" : Str))=false:=by decide):PE X (.Name x pos) (zda i):=zfS hN hv hd hcd
end
def Same (H H':Hp):Prop:=∀b o,H b=some o->H' b=some o
def Same.free {H H':Hp}(e:Same H H') {l:Addr}(h:H' l=Option.none):H l=Option.none:=by
 cases q:H l with
 | none=>rfl
 | some o =>
  rw [e l o q] at h
  cases h
end L2
set_option maxHeartbeats 4000000
namespace L2
open PySem PySem.Spec PyProof.Rows
def ar1 {l z D b:Nat}(h1:l<z) (h2:z=D) (h3:D<=b) (h4:b=l):False:=by omega
def ar2 {b D C:Nat}(h1:b<D) (h2:C=D+1) (h3:b=C):False:=by omega
def ar3 {b e d:Nat}(h1:b<e) (h2:e<=d) (h3:d<=b):False:=by omega
def ar4 {b D p:Nat}(h1:b<D) (h2:p=D) (h3:p=b):False:=by omega
def zed (env:Env):∀(l:List (Str×NameKind)) (acc:List (Str×Addr)),(∀p∈l,p.2=.free->∃c,env.cells.lookup p.1=some c) ->
  ∃cl,(forIn l acc (fun (x:Str×NameKind) (cs:List (Str×Addr))=>if (x.snd==NameKind.free)=true then do
            let a <-cellOf env x.fst
            pure (ForInStep.yield ((x.fst,a)::cs))
      else pure (ForInStep.yield cs)):Sem (List (Str×Addr)))=pure cl /\
   (∀y c,(y,c)∈cl->(y,c)∈acc\/(env.cells.lookup y=some c/\(y,NameKind.free)∈l))/\(∀p∈acc,p∈cl)/\(∀y,(y,NameKind.free)∈l->∃c,(y,c)∈cl)
 | [],acc,_=>⟨acc,rfl,fun _ _ h=>.inl h,fun _ h=>h,fun _ h=>nomatch h⟩
 | (n,k)::r,acc,hall=>by
  by_cases hk:k=.free
  ·subst hk
   obtain ⟨c,hc⟩:=hall (n,.free) yY rfl
   obtain ⟨cl,e,h1,h2,h3⟩:=zed env r ((n,c)::acc) fun p hp=>hall p (jc _ hp)
   refine ⟨cl,?_,fun y d hy=>?_,fun p hp=>h2 p (jc _ hp),fun y hy=>?_⟩
   ·rw [List.forIn_cons]
    simp only [beq_self_eq_true,yw]
    have:cellOf env n=pure c:=by unfold cellOf;rw [hc]
    rw [this]
    exact e
   ·rcases h1 y d hy with q|q
    ·rcases yQ.mp q with q|q
     ·cases q
      exact .inr ⟨hc,yY⟩
     ·exact .inl q
    ·exact .inr ⟨q.1,jc _ q.2⟩
   ·rcases yQ.mp hy with q|q
    ·cases q
     exact ⟨c,h2 _ yY⟩
    ·exact h3 y q
  ·obtain ⟨cl,e,h1,h2,h3⟩:=zed env r acc fun p hp=>hall p (jc _ hp)
   refine ⟨cl,?_,fun y d hy=>?_,h2,fun y hy=>?_⟩
   ·rw [List.forIn_cons]
    have:(k==NameKind.free)=false:=by simpa using hk
    simp only [this,Bool.false_eq_true,ym]
    exact e
   ·rcases h1 y d hy with q|q
    ·exact .inl q
    ·exact .inr ⟨q.1,jc _ q.2⟩
   ·rcases yQ.mp hy with q|q
    ·cases q
     exact absurd rfl hk
    ·exact h3 y q
def zgo {β:Type}{y:Str}:∀{l:List (Str×β)}{c:β},(y,c)∈l->∃d,l.lookup y=some d
 | (n,b)::r,c,h=>by
  rw [wZ]
  cases e:y==n with
  | true=>exact ⟨b,rfl⟩
  | false =>
   rcases yQ.mp h with q|q
   ·cases q
    simp at e
   ·exact zgo q
def zgp (env:Env) (scope:Scope) (hall:∀p∈scope.names,p.2=.free->∃c,env.cells.lookup p.1=some c) :
  ∃cl,closureFor scope env=pure cl/\(∀y c,cl.lookup y=some c->env.cells.lookup y=some c)/\(∀y,(y,NameKind.free)∈scope.names->∃c,cl.lookup y=some c):=by
 obtain ⟨cl,e,h1,_,h3⟩:=zed env scope.names [] hall
 refine ⟨cl,?_,fun y c hy=>?_,fun y hy=>?_⟩
 ·simp only [closureFor]
  rw [e]
  rfl
 ·rcases h1 y c (PySem.mem_of_lookup hy) with z|z
  ·cases z
  ·exact z.1
 ·obtain ⟨c,hc⟩:=h3 y hy
  exact zgo hc
structure CompSc (sc scope:Scope) (x:Str):Prop where
 kind:scope.kind=.function
 ncell:∀y∈scope.names,y.2 ≠ .cell
 names:∀y∈scope.names,y.2=.local->scope.names.lookup y.1=some .local/\(y.1=x\/y.1 = ".0")
 hx:scope.names.lookup x=some .local
 free:∀y∈scope.names,y.2=.free->sc.names.lookup y.1=some .cell
def cxH (X:Cx) (M:List Str) (scope:Scope) (cl:List (Str×Addr)) (x:Str) (C:Addr) (af:Shared) (ai:Hp) (fp:List Addr) (E:Value->Shared->Prop):Cx :=
 { X with N:=x::M,s₀:=af,H₀:=ai,env:=compEnvC scope cl C X.env,outer:=X.stack,ex:=fp,fn:=fun _=>false,pn:=[],xe:=E }
def Hid (scope:Scope) (M N:List Str):Prop:=M.length=N.length/\∀p∈M.zip N,p.1=p.2\/p.1∉scope.names.map Prod.fst
def Hid.refl {scope:Scope}{N:List Str}:Hid scope N N:=⟨rfl,fun p hp=>.inl (by
 obtain ⟨i,hi,e⟩:=wX hp
 rw [List.getElem_zip] at e
 rw [<-e])⟩
def Hid.get {scope:Scope}{M N:List Str}(h:Hid scope M N) {i:Nat}{y:Str}(e:M[i]?=some y):N[i]?=some y\/y∉scope.names.map Prod.fst:=by
 obtain ⟨hi,ei⟩:=yI.mp e
 have hj:i<N.length:=h.1▸hi
 have hm:(M[i],N[i])∈M.zip N:=j3 (i:=i) (by rw [List.getElem?_zip_eq_some];exact ⟨zU hi,zU hj⟩)
 rcases h.2 _ hm with q|q
 ·exact .inl (by rw [zU hj,<-ei];exact congrArg some q.symm)
 ·exact .inr (by rw [<-ei];exact q)
def cxC (X:Cx) (scope:Scope) (cl:List (Str×Addr)) (x:Str) (C:Addr) (af:Shared) (ai:Hp) (fp:List Addr) (E:Value->Shared->Prop):Cx :=
 { X with N:=x::X.N,s₀:=af,H₀:=ai,env:=compEnvC scope cl C X.env,outer:=X.stack,ex:=fp,fn:=fun _=>false,pn:=[],xe:=E }
section
variable {X:Cx}{scope:Scope}{cl:List (Str×Addr)}{x:Str}
def za3 {env:Env}{y:Str}{k:NameKind}(h:(relabel scope env).names.lookup y=some k):∃k0,(y,k0)∈scope.names/\((k0=.free/\env.kindOf y=some .cell/\k=.cell)\/(k=k0/\¬(k0=.free/\env.scope.kind=.function/\env.kindOf y=some .cell))):=by
 have hm:=PySem.mem_of_lookup h
 obtain ⟨⟨n,k0⟩,hn,e⟩:=j4.mp hm
 by_cases hc:(k0==NameKind.free&&env.scope.kind == .function&&env.kindOf n==some .cell)=true
 ·have e':(n,NameKind.cell)=(y,k):=by rw [<-e];simp only [hc,yw]
  cases e'
  simp only [we,beq_iff_eq] at hc
  exact ⟨_,hn,.inl ⟨hc.1.1,hc.2,rfl⟩⟩
 ·have e':(n,k0)=(y,k):=by rw [<-e];simp only [hc,ym];rfl
  cases e'
  refine ⟨_,hn,.inr ⟨rfl,fun ⟨a,b,c⟩=>hc ?_⟩⟩
  simp [a,b,c]
def zgq (S:CompSc X.env.scope scope x) {y:Str} (h:(relabel scope X.env).names.lookup y=some .local):y=x\/y = ".0" := by
 obtain ⟨k0,hm,⟨_,_,e⟩|⟨e,_⟩⟩:=za3 h
 ·cases e
 ·subst e
  exact (S.names _ hm rfl).2
def zee (S:CompSc X.env.scope scope x) (hk:X.env.scope.kind=.function) {y:Str}(h:(relabel scope X.env).names.lookup y=some .cell\/(relabel scope X.env).names.lookup y=some .free):(y,NameKind.free)∈scope.names:=by
 rcases h with h|h
 ·obtain ⟨k0,hm,⟨e,_,_⟩|⟨e,_⟩⟩:=za3 h
  ·subst e;exact hm
  ·subst e;exact absurd rfl (S.ncell _ hm)
 ·obtain ⟨k0,hm,⟨_,_,e⟩|⟨e,n⟩⟩:=za3 h
  ·cases e
  ·subst e
   exact hm
end
def zmq {P:Program}{wd:World}{B:Around}{Z:Result->Shared->Prop}{u0:Shared}{el tg iter:Expr}{sc:Scope}{ps:Pos}{iv ac:Value}{ev:Env}(J0:Nat->Shared->Prop)
  (turn:∀k u,J0 k u->wpAny (model P wd) B (pyNext iv) (fun r u1=>match r with|none=>Z (.ok .next) u1|some v=>wpAny (model P wd) B (letOwnedTupleGo tg iv v) (fun _ u2 =>
   wpAny (model P wd) B (assign tg ev v) (fun _ u3=>wpAny (model P wd) B (eval el ev) (fun y u4=>wpAny (model P wd) B (call (.builtin "list.append") [ac,y]) (fun _ u5=>∃m,m<k/\J0 m u5)
    (notedBy (model P wd) B ev fun e u=>Z (.error e) u) u4) (notedBy (model P wd) B ev fun e u=>Z (.error e) u) u3) (notedBy (model P wd) B ev fun e u=>Z (.error e) u) u2) (notedBy (model P wd) B ev fun e u=>Z (.error e) u) u1)
   (notedBy (model P wd) B ev fun e u=>Z (.error e) u) u)
  (k0:Nat) (start0:J0 k0 u0):codeAny (model P wd) B (.compLoop (.ListComp el [⟨tg,iter,[],0⟩] sc ps) 0 iv ac ev) Z u0:=by
 refine codeAny_loop rfl J0 (fun k u hJ=>wpAny_noted (E:=fun e u=>Z (.error e) u) (env:=ev) (m:=compTurn (.ListComp el [⟨tg,iter,[],0⟩] sc ps) 0 iv ac ev) ?_) k0 start0
 rw [compTurn_list1]
 have one:=turn k u hJ
 refine zv (wpAny_standAt (zv (jQ one (fun r u1 q1=>?_) fun _ _ z=>z)))
 cases r with
 | none=>exact zR q1
 | some v =>
  refine zv (jQ q1 (fun _ u2 q2=>zv (jQ q2 (fun _ u3 q3=>?_) fun _ _ z=>z)) fun _ _ z=>z)
  exact zv (zv (jQ q3 (fun y u4 q4=>zv (jQ q4 (fun _ u5 q5=>zR (zR ⟨rfl,q5⟩)) fun _ _ z=>z)) fun _ _ z=>z))
def CompW (J:It) (te:TE) (σ:St) (Q:VK) (H1:Hp):Prop:=∃W:Nat->Nat->List V->Hp->Prop,(∃m,W 0 m [] H1)/\∀i m ys H,W i m ys H ->
 (J.stop i H/\ys.length<=sizeLine/\∀l,H l=none->Q (.ref l) (upd H l (.lst ys))) \/
 (J.go i H/\ys.length<=sizeLine/\∀z H',J.yld i H z H'->te (some z::σ) H' fun y H2=>∃m',m'<m/\W (i+1) m' (ys++[y]) H2)
def zef (wi:TI) (te:TE):TE:=fun σ H Q=>wi σ H fun J H1=>CompW J te σ Q H1
end L2
namespace L2
open PySem PySem.Spec PyProof.Rows PySem.W
structure CompSN (sc scope:Scope) (xs:List Str):Prop where
 kind:scope.kind=.function
 ncell:∀y∈scope.names,y.2 ≠ .cell
 names:∀y∈scope.names,y.2=.local->scope.names.lookup y.1=some .local/\(y.1∈xs\/y.1 = ".0")
 free:∀y∈scope.names,y.2=.free->sc.names.lookup y.1=some .cell
def cxN (X:Cx) (scope:Scope) (cl:List (Str×Addr)) (xs:List Str) (C:Addr) (af:Shared) (ai:Hp) (fp:List Addr) (E:Value->Shared->Prop):Cx :=
 { X with N:=xs++X.N,s₀:=af,H₀:=ai,env:=compEnvC scope cl C X.env,outer:=X.stack,ex:=fp,fn:=fun _=>false,pn:=[],xe:=E }
def cxNH (X:Cx) (M:List Str) (scope:Scope) (cl:List (Str×Addr)) (xs:List Str) (C:Addr) (af:Shared) (ai:Hp) (fp:List Addr) (E:Value->Shared->Prop):Cx :=
 { X with N:=xs++M,s₀:=af,H₀:=ai,env:=compEnvC scope cl C X.env,outer:=X.stack,ex:=fp,fn:=fun _=>false,pn:=[],xe:=E }
section
variable {X:Cx}{scope:Scope}{xs:List Str}
def zgr (S:CompSN X.env.scope scope xs) {y:Str} (h:(relabel scope X.env).names.lookup y=some .local):y∈xs\/y = ".0" := by
 obtain ⟨k0,hm,⟨_,_,e⟩|⟨e,_⟩⟩:=za3 h
 ·cases e
 ·subst e
  exact (S.names _ hm rfl).2
def zeg (S:CompSN X.env.scope scope xs) (hk:X.env.scope.kind=.function) {y:Str}(h:(relabel scope X.env).names.lookup y=some .cell\/(relabel scope X.env).names.lookup y=some .free):(y,NameKind.free)∈scope.names:=by
 rcases h with h|h
 ·obtain ⟨k0,hm,⟨e,_,_⟩|⟨e,_⟩⟩:=za3 h
  ·subst e;exact hm
  ·subst e;exact absurd rfl (S.ncell _ hm)
 ·obtain ⟨k0,hm,⟨_,_,e⟩|⟨e,n⟩⟩:=za3 h
  ·cases e
  ·subst e
   exact hm
end
def PTs (X:Cx) (ifs:List Expr) (t:TT):Prop:=∀(pins:List (Addr×Obj)) (s:Shared) (σ:St) (H:Hp) (Q:Bool->Hp->Prop),Inv X pins σ H s->t σ H Q ->
 wpAny (model X.prog X.w) X.A (forIn ifs true fun c r=>if r=true then do let ok <-isTrue c X.env (eval c X.env);pure (ForInStep.yield ok) else pure (ForInStep.yield r)) (TP X pins σ Q) X.xe s
def zbP:TT:=fun _ H Q=>Q true H
def zgs {X:Cx}:PTs X [] zbP:=fun pins s σ H Q I h=>wpAny_tests_nil ⟨H,I,h⟩
def zmr {X:Cx}{c:Expr}{t:TT}(h:PT X c t):PTs X [c] t:=fun pins s σ H Q I q=>wpAny_tests_one (h pins s σ H Q I q)
def PTs.nox {X:Cx}{ifs:List Expr}{t:TT}(h:PTs X.nox ifs t):PTs X ifs t:=fun pins s σ H Q I hw =>
 jQ (h pins s σ H Q (I.wish _) hw) (fun b s' ⟨H',I',q⟩=>⟨H',I'.unwish,q⟩) fun _ _ z=>z.elim
def zms {P:Program}{wd:World}{B:Around}{Z:Result->Shared->Prop}{u0:Shared}{el tg iter:Expr}{ifs:List Expr}{sc:Scope}{ps:Pos}{iv ac:Value}{ev:Env}(J0:Nat->Shared->Prop)
  (turn:∀k u,J0 k u->wpAny (model P wd) B (pyNext iv) (fun r u1=>match r with|none=>Z (.ok .next) u1|some v=>wpAny (model P wd) B (letOwnedTupleGo tg iv v) (fun _ u2 =>
   wpAny (model P wd) B (assign tg ev v) (fun _ u3=>wpAny (model P wd) B (forIn ifs true fun c r=>if r=true then do let ok <-isTrue c ev (eval c ev);pure (ForInStep.yield ok) else pure (ForInStep.yield r)) (fun ok u4 =>
    if ok=true then wpAny (model P wd) B (eval el ev) (fun y u5=>wpAny (model P wd) B (call (.builtin "list.append") [ac,y]) (fun _ u6=>∃m,m<k/\J0 m u6)
    (notedBy (model P wd) B ev fun e u=>Z (.error e) u) u5) (notedBy (model P wd) B ev fun e u=>Z (.error e) u) u4 else ∃m,m<k/\J0 m u4) (notedBy (model P wd) B ev fun e u=>Z (.error e) u) u3) (notedBy (model P wd) B ev fun e u=>Z (.error e) u) u2) (notedBy (model P wd) B ev fun e u=>Z (.error e) u) u1)
   (notedBy (model P wd) B ev fun e u=>Z (.error e) u) u)
  (k0:Nat) (start0:J0 k0 u0):codeAny (model P wd) B (.compLoop (.ListComp el [⟨tg,iter,ifs,0⟩] sc ps) 0 iv ac ev) Z u0:=by
 refine codeAny_loop rfl J0 (fun k u hJ=>wpAny_noted (E:=fun e u=>Z (.error e) u) (env:=ev) (m:=compTurn (.ListComp el [⟨tg,iter,ifs,0⟩] sc ps) 0 iv ac ev) ?_) k0 start0
 rw [compTurn_list]
 have one:=turn k u hJ
 refine zv (wpAny_standAt (zv (jQ one (fun r u1 q1=>?_) fun _ _ z=>z)))
 cases r with
 | none=>exact zR q1
 | some v =>
  refine zv (jQ q1 (fun _ u2 q2=>zv (jQ q2 (fun _ u3 q3=>zv (jQ q3 (fun ok u4 q4=>?_) fun _ _ z=>z)) fun _ _ z=>z)) fun _ _ z=>z)
  cases ok with
  | true=>exact zv (zv (jQ q4 (fun y u4 q4=>zv (jQ q4 (fun _ u5 q5=>zR (zR ⟨rfl,q5⟩)) fun _ _ z=>z)) fun _ _ z=>z))
  | false=>exact zv (zR (zR ⟨rfl,q4⟩))
def CompWN (J:It) (gt:TG) (tt:TT) (te:TE) (n:Nat) (σ:St) (Q:VK) (H1:Hp):Prop:=∃W:Nat->Nat->List V->Hp->Prop,(∃m,W 0 m [] H1)/\∀i m ys H,W i m ys H ->
 (J.stop i H/\ys.length<=sizeLine/\∀l,H l=none->Q (.ref l) (upd H l (.lst ys))) \/
 (J.go i H/\ys.length<=sizeLine/\∀z H',J.yld i H z H'->gt z (List.replicate n none++σ) H' fun aw H1=>∃own:St,aw=own++σ/\own.length=n/\tt aw H1 fun b H2 =>
  if b=true then te aw H2 fun y H3=>∃m',m'<m/\W (i+1) m' (ys++[y]) H3 else ∃m',m'<m/\W (i+1) m' ys H2)
def zeh (wi:TI) (gt:TG) (tt:TT) (te:TE) (n:Nat):TE:=fun σ H Q=>wi σ H fun J H1=>CompWN J gt tt te n σ Q H1
def zgt {X:Cx} {elt iter tg:Expr} {ifs:List Expr} {xs:List Str} {pos:Pos} {scope:Scope} {wi:TI} {gt:TG} {tt:TT} {te:TE} {M:List Str} (hc:X.calm=true) (S:CompSN X.env.scope scope xs) (eN:Hid scope M X.N) (hN0:((".0" : Str)::(xs++M)).Nodup)
  (hi:PI X tg iter wi) (hgt:∀cl C af ai fp E,PG (cxNH X M scope cl xs C af ai fp E) tg gt) (hif:∀cl C af ai fp,PTs (cxNH X M scope cl xs C af ai fp (fun _ _=>False)) ifs tt) (he:∀cl C af ai fp,PE (cxNH X M scope cl xs C af ai fp (fun _ _=>False)) elt te)
  (hs:∀v,foldedSetIterable iter X.env v=pure v:=by intro _;rfl):PE X (.ListComp elt [⟨tg,iter,ifs,0⟩] scope pos) (zeh wi gt tt te xs.length):=by
 intro pins s σ H Q I h
 have hN:(xs++M).Nodup:=(wt.mp hN0).2
 have h0N:(".0" : Str)∉M:=fun z=>(wt.mp hN0).1 (jj _ z)
 obtain ⟨cl,hclos,hcl1,hcl2⟩:=zgp X.env scope fun p hp hf=>I.ok.has p.1 (.inl (S.free p hp hf))
 have hkd:X.env.scope.kind=.function:=I.ok.kind
 rw [eval_ListComp]
 refine wpAny_comprehension_free (use:=none) rfl hs hclos S.kind (fun y hy hl=>(S.names y hy hl).1) ?_
 refine thn (hi pins s σ H _ I h) fun v s1 h1=>thn h1 fun itv af h2=>?_
 obtain ⟨it,fp,tn,J,H2,e,I2,T,st2,f2,W,⟨m0,w0⟩,turn⟩:=h2
 subst e
 refine wD (wpAny_newFunctionEnv S.ncell (by intro y hy;simp at hy) (fun aA aB az=>?_) S.kind)
 dsimp only at aB az ⊢
 generalize hH2:af.heap.push { cls:=.type "list", dict:=none,data:=.seq ([]:List Value).toArray }=G2 at aB az ⊢
 have hC:G2.objs.size=af.heap.objs.size+1:=by rw [<-hH2,Heap.size_push]
 have hDC:af.heap.objs.size≠G2.objs.size:=by rw [hC];exact jr (za1 _)
 have hCle:af.heap.objs.size<=G2.objs.size:=by rw [hC];exact Nat.le_succ _
 have old:∀b o,af.heap.get? b=some o->aA.get? b=some o:=fun b o e=>by
  have hb:b≠G2.objs.size:=by rw [hC];exact jr (Nat.lt_succ_of_lt (yF e))
  exact az.extBut b o hb (yv _ (hH2▸yv _ e))
 have hacc:aA.get? af.heap.objs.size=some { cls:=.type "list", data:=.seq (#[]:Array Value) 0 }:=az.extBut _ _ hDC (yv _ (hH2▸jv _ rfl))
 generalize hD:af.heap.objs.size=D at *
 generalize hCC:G2.objs.size=C at *
 have ltS:∀{b:Nat} {o:Obj},af.heap.get? b=some o->b<D:=fun e=>by rw [<-hD];exact yF e
 have nofr:∀b,D<=b->b∉frs X.stack:=fun b hb z=>by
  rcases yQ.mp (I2.stkSub b z) with q|q
  ·exact ar1 I2.lt hD hb q
  ·exact I2.nofs (by rw [hD];exact hb) q
 let E':Value->Shared->Prop:=notedBy (model X.prog X.w) X.A (compEnvC scope cl C X.env) fun e s'=>compPost (model X.prog X.w) X.A X.xe none (EP X pins σ Q) (.ref D) C (.error e) s'
 let Y:Cx:=cxNH X M scope cl xs C af H2 fp E'
 have fpX:∀b∈fp,FpOk X pins H2 b:=f2
 have okY:Y.Ok:=by
  refine ⟨I2.ok.mod,S.kind,I2.ok.glob,I2.ok.blt,(by show af.heap.objs.size<=C;omega),fun y z c h1 h2=>?_,fun y hy=>?_,fun y c hf=>?_,I2.ok.hd,I2.ok.frames,.inl rfl,fun b hb=>?_,I2.bs,yS I2.ok.bsz I2.sz,fun b o hb hx=>?_,fun b hb hx=>?_,I2.stack,I2.stkFree⟩
  ·exact I2.ok.inj y z c (hcl1 y c h1) (hcl1 z c h2)
  ·exact hcl2 y (zeg S hkd hy)
  ·cases hf
  ·refine ⟨fun z=>?_,fun y c hy=>(fpX b hb).2.2.2.2.1 y c (hcl1 y c hy)⟩
   obtain ⟨o,ho,_⟩:=T.obj 0 _ st2 b hb
   exact ar2 (ltS ho) hC z
  ·rcases (fpX b hx).2.2.2.1 with z|z
   ·exact I2.ok.noex b o hb z
   ·exact ar3 (yF hb) I2.ok.bsz z
  ·rcases yQ.mp (I2.stkSub b hx) with q|q
   ·exact (fpX b hb).2.1 q
   ·exact (fpX b hb).2.2.1 q
 have hpinD:∀{s':Shared} {H':Hp} {o:Obj},s'.heap.get? D=some o->H' D=none->(∀v,o.data ≠ .cell v)->∀p∈[(D,o)],s'.heap.get? p.1=some p.2/\H' p.1=none/\p.1≠Y.env.locals/\p.1∉Y.fs/\∀v,p.2.data ≠ .cell v:=fun {s' H' o} e1 e2 e3 p hp=>by
  have ep:p=(D,o):=by simpa using hp
  subst ep
  exact ⟨e1,e2,hDC,nofr D (yf _),e3⟩
 have I0:Inv Y [(D,{ cls:=.type "list", data:=.seq (#[]:Array Value) 0 })] (List.replicate xs.length none++σ) H2 { af with heap:=aA,toks:=af.toks+([]:List (Str×Value)).length }:=by
  have fresh:∀b,D<=b->H2 b=none:=fun b hb=>I2.hok.fresh (by rw [hD];exact hb)
  refine ⟨okY,rfl,I2.bare,Un.kept old,⟨_,aB,fun i y v e1 e2 e3=>?_⟩,fun y c hy=>?_,fresh C (by omega),fun y c hy=>I2.freeC y c (hcl1 y c hy),fun p hp=>hpinD hacc (fresh D (yf _)) (fun v z=>by cases z) p hp,I2.hok.kept old,?_⟩
  ·by_cases hlt:i<xs.length
   ·rw [zaG (by simpa using hlt),List.getElem?_replicate] at e2
    simp [hlt] at e2
   ·obtain ⟨j,rfl⟩:∃j,i=xs.length+j:=⟨i-xs.length,by omega⟩
    have e0':M[j]?=some y:=by
     have:(xs++M)[xs.length+j]?=some y:=e1
     rw [zaW (by omega)] at this
     simpa using this
    have e1':X.N[j]?=some y:=by
     rcases eN.get e0' with q|q
     ·exact q
     ·refine absurd ?_ q
      rcases e3 with e3|e3|e3<;>(obtain ⟨k0,hm,_⟩:=za3 e3;exact j4.mpr ⟨_,hm,rfl⟩)
    have e2':σ[j]?=some (some v):=by
     rw [zaW (by simp)] at e2
     simpa using e2
    have hyx:¬(y∈xs\/y = ".0"):=fun z=>by
     have hm:=j3 e0'
     rcases z with z|z
     ·exact (List.nodup_append.mp hN).2.2 y z y hm rfl
     ·rw [z] at hm
      exact h0N hm
    have hfr:(y,NameKind.free)∈scope.names:=by
     rcases e3 with e3|e3|e3
     ·exact absurd (zgr S e3) hyx
     ·exact zeg S hkd (.inl e3)
     ·exact zeg S hkd (.inr e3)
    have hkc:X.env.scope.names.lookup y=some .cell:=S.free _ hfr rfl
    obtain ⟨m,hn,hl⟩:=I2.loc
    obtain ⟨u,r,l⟩:=hl j y v e1' e2' (.inr (.inl hkc))
    refine ⟨u,r,?_⟩
    rcases l with ⟨hk,_⟩|⟨_,c,hcc,hcell⟩
    ·have:X.env.kindOf y=some .cell:=hkc
     rw [this] at hk;cases hk
    ·obtain ⟨c',hc'⟩:=hcl2 y hfr
     have:=hcl1 y c' hc'
     rw [hcc] at this
     cases this
     refine .inr ⟨?_,c,hc',?_⟩
     ·rcases e3 with e3|e3|e3
      ·exact absurd (zgr S e3) hyx
      ·exact .inl e3
      ·exact .inr e3
     ·obtain ⟨o,ho,hd⟩:=hcell
      exact ⟨o,old c o ho,hd⟩
  ·obtain ⟨v,o,ho,hd⟩:=I2.cell y c (hcl1 y c hy)
   exact ⟨v,o,old c o ho,hd⟩
  ·show (List.replicate xs.length none++σ).length=(xs++M).length
   simp [I2.len,eN.1]
 have fpY:∀{pl:List (Addr×Obj)} {H':Hp},(∀p∈pl,p.1=D)->(∀b∈fp,H' b=none)->∀b∈fp,FpOk Y pl H' b:=fun {pl H'} hpl hn b hb=>by
  obtain ⟨o,ho,_⟩:=T.obj 0 _ st2 b hb
  refine ⟨hn b hb,fun z=>?_,?_,.inl hb,(okY.exf b hb).2,fun p hp z=>?_⟩
  ·exact ar2 (ltS ho) hC z
  ·exact okY.exfs b hb
  ·have hp':p∈pl:=by simpa [Y,cxNH] using hp
   exact ar4 (ltS ho) (hpl p hp') z
 have loop:codeAny (model X.prog X.w) X.A (.compLoop (.ListComp elt [⟨tg,iter,ifs,0⟩] scope pos) 0 (.ref it) (.ref D) (compEnvC scope cl C X.env))
   (compPost (model X.prog X.w) X.A X.xe none (EP X pins σ Q) (.ref D) C) { af with heap:=aA,toks:=af.toks+([]:List (Str×Value)).length }:=by
  refine zms (fun n s'=>∃i ys H' its k,Inv Y [(D,{ cls:=.type "list", data:=.seq (its:List Value).toArray k })] (List.replicate xs.length none++σ) H' s'/\Vals ys its/\tn i s'.heap/\(∀b∈fp,H' b=none)/\W i n ys H') ?_ m0
   ⟨0,[],H2,[],0,I0,.nil,T.keep 0 _ _ st2 (fun b hb o e=>old b o e),fun b hb=>(fpX b hb).1,w0⟩
  rintro n s3 ⟨i,ys,H3,its,k,I3,rv,st3,fr3,w3⟩
  have pinl:∀{o:Obj},∀p∈[(D,o)],p.1=D:=fun {o} p hp=>by
   have ep:p=(D,o):=by simpa using hp
   rw [ep]
  obtain ⟨gD,nD,_,_,_⟩:=I3.pin (D,_) (jj _ yY)
  rcases turn i n ys H3 w3 with ⟨stop,hz,q⟩|⟨go,hz,step⟩
  ·refine thn (T.done Y rfl rfl rfl hc i _ s3 _ H3 E' I3 (fpY pinl fr3) st3 stop) fun r s4 ⟨hr,I4⟩=>?_
   subst hr
   obtain ⟨gD4,nD4,_,_,_⟩:=I4.pin (D,_) (jj _ yY)
   obtain ⟨m4,hn4,_⟩:=id I4.loc
   refine ⟨m4,hn4,fun h' hsb=>?_⟩
   refine ⟨.ref D,upd H3 D (.lst ys),?_,rfl,q D nD4⟩
   have neC:∀{b:Addr} {u:HO},H3 b=some u->b≠C:=fun e z=>by
    have:H3 C=none:=I4.free
    rw [z,this] at e;cases e
   refine I2.call' (s':={ s4 with heap:=h' }) (ch:=fp) (H':=upd H3 D (.lst ys)) I4.os ?_ ?_ I4.bare fun b hb=>⟨(fpX b hb).2.2.2.1,(fpX b hb).2.1,(fpX b hb).2.2.2.2.1,(fpX b hb).2.2.2.2.2⟩
   ·have B:=I4.base
    have ltC:∀{b:Nat} {o:Obj},af.heap.get? b=some o->b≠C:=fun e z=>ar2 (ltS e) hC z
    have neD:∀{b:Addr} {u:HO},H3 b=some u->b≠D:=fun e z=>by rw [z,nD4] at e;cases e
    refine ⟨fun b o e nn hb hx=>(hsb.2 b (ltC e)).trans (B.keep b o e nn hb hx),fun b o e nn hb hx=>?_,fun b o e nn hx=>?_,fun b o e hx=>?_,fun b xs e=>?_,fun b o u e=>?_,fun b ps e=>?_⟩
    ·obtain ⟨sl,z⟩:=B.slot b o e nn hb hx
     exact ⟨sl,(hsb.2 b (ltC e)).trans z⟩
    ·have hbD:b≠D:=jr (ltS e)
     rw [yj hbD]
     exact B.free b o e nn hx
    ·obtain ⟨o',z⟩:=B.there b o e hx
     exact ⟨o',(hsb.2 b (ltC e)).trans z⟩
    ·have z:=B.tups b xs e
     rw [yj (neD z)];exact z
    ·have z:=B.frzs b o u e
     rw [yj (neD z)];exact z
    ·obtain ⟨more,z⟩:=B.tbls b ps e
     exact ⟨more,by rw [yj (neD z)];exact z⟩
   ·intro a o e
    by_cases ha:a=D
    ·subst ha
     rw [jA] at e
     cases e
     exact ⟨hz,its,k,rv,(hsb.2 _ hDC).trans gD4⟩
    ·rw [yj ha] at e
     have keepNe:∀b u,H3 b=some u->(upd H3 D (.lst ys)) b=some u:=fun b u z=>by
      have hb:b≠D:=fun w=>by rw [w,nD4] at z;cases z
      rw [yj hb];exact z
     refine (I4.hok a o e).stay (fun b u hb z=>(hsb.2 b ?_).trans z) (fun b z=>keepNe b _ z) fun b xs z=>keepNe b _ z
     rcases hb with hb|hb
     ·rw [hb];exact neC e
     ·exact neC hb
  ·refine thn (T.item Y rfl rfl rfl hc i _ s3 _ H3 E' I3 (fpY pinl fr3) st3 go) fun r s4 ⟨u,hr,h4⟩=>?_
   subst hr
   refine thn h4 fun _ s5 ⟨z,H5,I5,r5,y5,st5,fr5⟩=>?_
   have I5':=I5.pinned (fpY pinl fr5) (T.obj _ _ st5)
   have pgx:PG Y tg gt:=hgt cl C af H2 fp E'
   have peY:PE Y elt te:=PE.nox (X:=Y) (he cl C af H2 fp)
   have ptY:PTs Y ifs tt:=PTs.nox (X:=Y) (hif cl C af H2 fp)
   refine thn (pgx _ s5 (List.replicate xs.length none++σ) H5 z u _ I5' r5 (step z _ y5)) fun _ s6 ⟨aG,H6,I6,own,e1,e2,q6⟩=>?_
   subst e1
   have wk:∀(j:Nat) v,(List.replicate xs.length none++σ)[j]?=some (some v)->(own++σ)[j]?=some (some v):=fun j v e=>by
    by_cases hlt:j<xs.length
    ·rw [zaG (by simpa using hlt),List.getElem?_replicate] at e
     simp [hlt] at e
    ·rw [zaW (by simp;omega)] at e
     rw [zaW (by omega),e2]
     simpa using e
   have wl:(List.replicate xs.length none++σ).length=(own++σ).length:=by simp [e2]
   refine thn (ptY _ s6 _ _ _ I6 q6) fun b s7 ⟨H7,I7,q7⟩=>?_
   cases b with
   | true =>
    refine thn (peY _ s7 _ _ _ I7 q7) fun uy s7 ⟨y,H7,I7,ry,m',hm,w7⟩=>?_
    obtain ⟨gD7,nD7,_,_,_⟩:=I7.pin (D,_) (jj _ (zbM _ yY))
    refine wpAny_list_append_plain ⟨k,gD7⟩ (fun h' hpl hsb=>?_) (by rw [yP,<-rv.length];exact hz)
    obtain ⟨k',gD'⟩:=hpl
    have I8:Inv Y [] (own++σ) H7 { s7 with heap:=h' }:=(I7.pins_of (pins':=[]) (fun p hp=>nomatch hp)).turned (it:=D) (t':=s7.toks) (fun b o hb e=>(hsb.2 b hb).trans e) nD7 hDC
     (.inr (by show af.heap.objs.size<=D;omega)) (fun a c hy hz'=>by
      obtain ⟨v',o',ho',_⟩:=I2.cell a c (hcl1 a c hy)
      exact jr (ltS ho') hz') (fun p hp=>by simp [Y,cxNH] at hp)
    have I9:Inv Y [] (List.replicate xs.length none++σ) H7 { s7 with heap:=h' }:=I8.weak wl wk
    have pinOf:∀b∈fp,∃o,s5.heap.get? b=some o/\s7.heap.get? b=some o/\H7 b=none:=fun b hb=>by
     obtain ⟨o,e,_⟩:=T.obj _ _ st5 b hb
     have q:=I7.pin (b,o) (jj _ (jj _ (zcj hb e)))
     exact ⟨o,e,q.1,q.2.1⟩
    have fpD:∀b∈fp,b≠D:=fun b hb=>by
     obtain ⟨o,ho,_⟩:=T.obj 0 _ st2 b hb
     exact jr (ltS ho)
    have eT:its.toArray.push uy=(its++[uy]).toArray:=by simp
    rw [eT] at gD'
    refine ⟨m',hm,i+1,ys++[y],H7,its++[uy],k',I9.pins_of (hpinD gD' nD7 fun v e=>by cases e),rv.append (.cons ry .nil),T.keep (i+1) _ _ st5 fun b hb o e=>?_,fun b hb=>?_,w7⟩
    ·obtain ⟨o',e1,e2,_⟩:=pinOf b hb
     rw [e] at e1
     cases e1
     exact (hsb.2 b (fpD b hb)).trans e2
    ·obtain ⟨_,_,_,q⟩:=pinOf b hb
     exact q
   | false =>
    obtain ⟨m',hm,w7⟩:=q7
    obtain ⟨gD7,nD7,_,_,_⟩:=I7.pin (D,_) (jj _ (zbM _ yY))
    have I9:Inv Y [] (List.replicate xs.length none++σ) H7 s7:=(I7.pins_of (pins':=[]) (fun p hp=>nomatch hp)).weak wl wk
    have pinOf:∀b∈fp,∃o,s5.heap.get? b=some o/\s7.heap.get? b=some o/\H7 b=none:=fun b hb=>by
     obtain ⟨o,e,_⟩:=T.obj _ _ st5 b hb
     have q:=I7.pin (b,o) (jj _ (jj _ (zcj hb e)))
     exact ⟨o,e,q.1,q.2.1⟩
    refine ⟨m',hm,i+1,ys,H7,its,k,I9.pins_of (hpinD gD7 nD7 fun v e=>by cases e),rv,T.keep (i+1) _ _ st5 fun b hb o e=>?_,fun b hb=>?_,w7⟩
    ·obtain ⟨o',e1,e2,_⟩:=pinOf b hb
     rw [e] at e1
     cases e1
     exact e2
    ·obtain ⟨_,_,_,q⟩:=pinOf b hb
     exact q
 exact codeAny_compStart_list loop (T.self X.A 0 _ _ _ (T.keep 0 _ _ st2 (fun b hb o e=>old b o e)) loop)
def zgu {X:Cx} {elt iter tg:Expr} {ifs:List Expr} {xs:List Str} {pos:Pos} {scope:Scope} {wi:TI} {gt:TG} {tt:TT} {te:TE} {N:List Str} (hc:X.calm=true) (S:CompSN X.env.scope scope xs) (eN:X.N=N) (hN0:((".0" : Str)::(xs++N)).Nodup)
  (hi:PI X tg iter wi) (hgt:∀cl C af ai fp E,PG (cxN X scope cl xs C af ai fp E) tg gt) (hif:∀cl C af ai fp,PTs (cxN X scope cl xs C af ai fp (fun _ _=>False)) ifs tt) (he:∀cl C af ai fp,PE (cxN X scope cl xs C af ai fp (fun _ _=>False)) elt te)
  (hs:∀v,foldedSetIterable iter X.env v=pure v:=by intro _;rfl):PE X (.ListComp elt [⟨tg,iter,ifs,0⟩] scope pos) (zeh wi gt tt te xs.length) :=
 zgt (M:=X.N) hc S Hid.refl (by rw [eN];exact hN0) hi hgt hif he hs
def zgv {X:Cx} {elt iter:Expr} {x:Str} {px pos:Pos} {scope:Scope} {wi:TI} {te:TE} {M:List Str} (hc:X.calm=true) (S:CompSc X.env.scope scope x) (eN:Hid scope M X.N) (hN0:((".0" : Str)::x::M).Nodup)
  (hi:PI X (.Name x px) iter wi) (he:∀cl C af ai fp,PE (cxH X M scope cl x C af ai fp (fun _ _=>False)) elt te)
  (hs:∀v,foldedSetIterable iter X.env v=pure v:=by intro _;rfl):PE X (.ListComp elt [⟨.Name x px,iter,[],0⟩] scope pos) (zef wi te):=by
 have hN:([x]++M).Nodup:=(wt.mp hN0).2
 have S':CompSN X.env.scope scope [x]:=⟨S.kind,S.ncell,fun y hy h=>⟨(S.names y hy h).1,(S.names y hy h).2.imp (fun e=>by rw [e];exact List.mem_singleton_self _) id⟩,S.free⟩
 have pgx:∀cl C af ai fp E,PG (cxNH X M scope cl [x] C af ai fp E) (.Name x px) (zal 0):=fun cl C af ai fp E=>za2 (X:=cxNH X M scope cl [x] C af ai fp E) (i:=0) hN rfl (.inl (zai S.hx)) (.inr (zai S.hx))
 have e:∀σ Q,(fun J H1=>CompW J te σ Q H1)=fun J H1=>CompWN J (zal 0) zbP te 1 σ Q H1:=fun σ Q=>by
  funext J H1
  exact propext (exists_congr fun W=>and_congr Iff.rfl (forall_congr' fun i=>forall_congr' fun m=>forall_congr' fun ys=>forall_congr' fun H=>imp_congr Iff.rfl (or_congr Iff.rfl (and_congr Iff.rfl (and_congr Iff.rfl (forall_congr' fun z=>forall_congr' fun H'=>imp_congr Iff.rfl
   ⟨fun h=>⟨[some z],rfl,rfl,h⟩,fun ⟨_,_,_,h⟩=>h⟩))))))
 intro pins s σ H Q I h
 refine zgt (te:=te) (tt:=zbP) hc S' eN hN0 hi pgx (fun cl C af ai fp=>zgs) (fun cl C af ai fp=>he cl C af ai fp) hs pins s σ H Q I ?_
 show wi σ H fun J H1=>CompWN J (zal 0) zbP te 1 σ Q H1
 rw [<-e]
 exact h
end L2
namespace L2
open PySem PySem.Spec PyProof.Rows
def zmt {X:Cx} {elt iter:Expr} {x:Str} {px pos:Pos} {scope:Scope} {wi:TI} {te:TE} {N:List Str} (hc:X.calm=true) (S:CompSc X.env.scope scope x) (eN:X.N=N) (hN0:((".0" : Str)::x::N).Nodup)
  (hi:PI X (.Name x px) iter wi) (he:∀cl C af ai fp,PE (cxC X scope cl x C af ai fp (fun _ _=>False)) elt te)
  (hs:∀v,foldedSetIterable iter X.env v=pure v:=by intro _;rfl):PE X (.ListComp elt [⟨.Name x px,iter,[],0⟩] scope pos) (zef wi te) :=
 zgv hc S Hid.refl (eN▸hN0) hi he hs
def Its (z:Str):It:=⟨fun i _=>i<z.cps.size,fun i H v H'=>H'=H/\∃c,z.cps[i]?=some c/\v=.str ⟨#[c]⟩,fun i _=>z.cps.size<=i⟩
def zgw {P:Program} {w:World} {K:PySem.W.Frag} {tg:Expr} (z:Str) (t:Tok) (it:Addr) (ty:String) (hty:ty = "str_ascii_iterator" \/ ty = "str_iterator"):Turn P w K tg (Its z) [it] it (fun i h=>h.IsStrIter it ty z t i) where
 mem:=by simp
 obj:=fun i h st b hb=>by
  have e:b=it:=by simpa using hb
  subst e
  obtain ⟨o,e,c,d⟩:=st
  exact ⟨o,e,fun v z=>by rw [d] at z;cases z⟩
 keep:=fun i h h' st k=>by
  obtain ⟨o,e,r⟩:=st
  exact ⟨o,k it (by simp) o e,r⟩
 item:=by
  intro X hP hw hK hc i pins s σ H E I hf st hg
  subst hP hw hK
  obtain ⟨f0,f1,f2,f3,f4,f5⟩:=hf it (by simp)
  have W:Walks X.prog X.w X.A it [it] [it] z.cps.size (SignAt z) (fun i h=>h.IsStrIter it ty z t i):=by
   rcases hty with e|e
   ·rw [e];exact Walks.strAscii (I.ok.hd hc) it z t
   ·rw [e];exact Walks.strWide (I.ok.hd hc) it z t
  refine W.item i s _ _ hg st fun v h' tk hv st' kk=>?_
  obtain ⟨c,u,hcx,rfl⟩:=hv
  have I1:Inv X pins σ H { s with heap:=h',toks:=tk }:=I.turned (fun b o hb e=>kk b o (by simpa using hb) e) f0 f1 f3 f4 f5
  obtain ⟨o,e,cc,d⟩:=id st'
  exact ⟨_,rfl,zci (s:={ s with heap:=h',toks:=tk }) e cc d (by rcases hty with e|e<;>rw [e]<;>decide) ⟨.str ⟨#[c]⟩,H,I1,⟨u,rfl⟩,⟨rfl,c,hcx,rfl⟩,st',fun b hb=>(hf b hb).1⟩⟩
 done:=by
  intro X hP hw hK hc i pins s σ H E I hf st hg
  subst hP hw hK
  obtain ⟨f0,f1,f2,f3,f4,f5⟩:=hf it (by simp)
  have hn:z.cps[i]?=none:=by
   have hg':z.cps.size<=i:=hg
   simpa using hg'
  rcases hty with e|e
  ·rw [e] at st
   exact wpAny_pyNext_ascii_end (I.ok.hd hc) st hn fun h' eb=>⟨rfl,I.turned (t':=s.toks) (fun b o hb e=>eb b o hb e) f0 f1 f3 f4 f5⟩
  ·rw [e] at st
   exact wpAny_pyNext_wide_end (I.ok.hd hc) st hn fun h' eb=>⟨rfl,I.turned (t':=s.toks) (fun b o hb e=>eb b o hb e) f0 f1 f3 f4 f5⟩
 self:=fun A i s Q E st h=>by
  rcases hty with e|e
  ·rw [e] at st;exact wpAny_pyIter_striter_ascii st h
  ·rw [e] at st;exact wpAny_pyIter_striter_wide st h
section
variable {X:Cx}
def zmu:SlR X (fun x lo hi H Q=>∃z,x=.str z/\z.length<=sizeLine/\Q (.str (Txt.slice z lo hi)) H):=by
 intro pins s σ H x v vl vu lo hi sl Q I rx hs pl pu h
 obtain ⟨z,rfl,hz,q⟩:=h
 obtain ⟨t,rfl⟩:=rx
 refine ⟨"str", _,F.slot_str_getitem.lookup,typeIs_str _ _ _,?_⟩
 have fin:∀t' k,EP X pins σ Q (.str (Txt.slice z lo hi) t') { s with toks:=k }:=fun t' k=>⟨.str _,H,I.tok _,⟨_,rfl⟩,q⟩
 cases pl with
 | none =>
  cases pu with
  | none=>exact wpAny_getItem_str_slice (l:=none) (u:=none) (st:=none) hs rfl (post_val_or_str ⟨yS (Txt.slice_le z _ _) hz,fin⟩)
  | int j uj=>exact wpAny_getItem_str_slice (l:=none) (u:=some (j,uj)) (st:=none) hs rfl (post_val_or_str ⟨yS (Txt.slice_le z _ _) hz,fin⟩)
 | int i ui =>
  cases pu with
  | none=>exact wpAny_getItem_str_slice (l:=some (i,ui)) (u:=none) (st:=none) hs rfl (post_val_or_str ⟨yS (Txt.slice_le z _ _) hz,fin⟩)
  | int j uj=>exact wpAny_getItem_str_slice (l:=some (i,ui)) (u:=some (j,uj)) (st:=none) hs rfl (post_val_or_str ⟨yS (Txt.slice_le z _ _) hz,fin⟩)
def zgx:∀{bs:List Bool}{us:List Value},Vals (bs.map V.bl) us->us=bs.map Value.bool
 | [],us,r=>by rw [List.map_nil] at r;cases r;rfl
 | b::bs,us,r=>by
  rw [jH] at r
  cases r with
  | cons r1 r2 =>
   have e:_=Value.bool b:=r1
   rw [jH,<-zgx r2,e]
def vals_strs:∀{ys:List Str}{us:List Value},Vals (ys.map V.str) us->StrsAre us ys
 | [],us,r=>by rw [List.map_nil] at r;cases r;exact .nil
 | y::ys,us,r=>by
  rw [jH] at r
  cases r with
  | cons r1 r2 =>
   obtain ⟨t,e⟩:=r1
   subst e
   exact .cons y t (vals_strs r2)
def zmv (hc:X.calm=true):CallR X (.builtin "all") (fun xs H Q=>∃(a:Addr) (bs:List Bool),xs=[.ref a]/\SqL X.K H a (bs.map V.bl)/\Q (.bl (bs.all id)) H):=by
 intro pins s σ H xs us Q I r h
 obtain ⟨a,bs,rfl,hl,q⟩:=h
 obtain ⟨u,rfl,ru⟩:=w6 r
 cases ru
 obtain ⟨its,rv,pl,hz⟩:=I.list hl
 have e:=zgx rv
 subst e
 refine call_all_walk (wpAny_pyIter_list pl.isList ?_)
 have hh:X.A.in1.handled=none:=I.ok.hd hc
 have hlt:a<s.heap.objs.size:=by
  obtain ⟨o,e,_⟩:=pl.isList
  exact yF e
 have hne:a≠s.heap.objs.size:=jr hlt
 refine ⟨s.heap.objs.size,_,_,_,_,_,fun i=>(bs[i]?).getD true,rfl,Walks.list hh s.heap.objs.size a hne (bs.map Value.bool).toArray,⟨⟨_,jv _ rfl,rfl,rfl⟩,pl.isList.at fun o e=>yv _ e⟩,?_,fun h' tk kk=>?_⟩
 ·intro i v s' Q' E' hp hq
  have hp':(bs.map Value.bool)[i]?=some v:=by simpa using hp
  rw [jk] at hp'
  cases eb:bs[i]? with
  | none=>rw [eb] at hp';cases hp'
  | some b =>
   rw [eb] at hp'
   have:Value.bool b=v:=Option.some.inj hp'
   subst this
   refine zaF ?_
   dsimp only at hq
   rw [eb] at hq
   exact hq
 ·have e1:(List.range (bs.map Value.bool).toArray.size).all (fun i=>(bs[i]?).getD true)=bs.all id:=by
   rw [yP,jq]
   rw [Bool.eq_iff_iff,List.all_eq_true,List.all_eq_true]
   constructor
   ·intro hh b hb
    obtain ⟨i,hi,e⟩:=wX hb
    have:=hh i (zaZ.mpr hi)
    rw [zU hi,e] at this
    exact this
   ·intro hh i hi
    have hi':=zaZ.mp hi
    rw [zU hi']
    exact hh _ (jy hi')
  rw [e1]
  refine ⟨.bl (bs.all id),H,?_,rfl,q⟩
  exact I.kept (t':=tk) fun b o e=>kk b o (fun z=>by
   have z':b=s.heap.objs.size:=by simpa using z
   exact absurd (yF e) (by rw [z'];exact Nat.lt_irrefl _)) (yv _ e)
def zmw:MtR X "str.join" (fun x xs H Q=>∃(z:Str) (a:Addr) (ys:List Str),x=.str z/\xs=[.ref a]/\SqL X.K H a (ys.map V.str)/\(ys.map (·.length)).sum+ys.length*z.length<=16777216/\Q (.str (Txt.join z ys)) H):=by
 intro pins s σ H x xs v us Q I rx r h
 obtain ⟨z,a,ys,rfl,rfl,hl,hz,q⟩:=h
 obtain ⟨t,rfl⟩:=rx
 obtain ⟨u,rfl,ru⟩:=w6 r
 cases ru
 obtain ⟨its,rv,pl,_⟩:=I.list hl
 exact join_list pl.isList (by simpa using vals_strs rv) hz fun t' k=>⟨.str _,H,I.tok _,⟨_,rfl⟩,q⟩
def zmx:CallR X (.type "int") (fun xs H Q=>∃z n,xs=[.str z]/\PySem.intText? z=some n/\z.length<=640/\Q (.int n) H):=by
 intro pins s σ H xs us Q I r h
 obtain ⟨z,n,rfl,hn,hz,q⟩:=h
 obtain ⟨u,rfl,t,rfl⟩:=w6 r
 exact PySem.W.KIN.call_text hn hz ⟨.int n,H,I.tok _,⟨_,rfl⟩,q⟩
def zmy:OpR X (compareOp .In) (fun x y H Q=>∃(c:Nat) (z:Str),x=.str ⟨#[c]⟩/\y=.str z/\Q (.bl (decide (c∈z.cps.toList))) H):=by
 intro pins s σ H x y v u Q I rx ry h
 obtain ⟨c,z,rfl,rfl,q⟩:=h
 refine zlf pins s σ H _ _ v u Q I rx ry ⟨_,_,rfl,rfl,?_⟩
 rw [StrLaws.found_one]
 exact q
end
section
variable {κ:Type} [DecidableEq κ]
def valV (kvs:List (κ×V)) (k:κ):Option V:=(kvs.find? fun kv=>decide (kv.1=k)).map (·.2)
def putK (kvs:List (κ×V)) (k:κ) (v:V):List (κ×V) :=
 if (kvs.any fun kv=>decide (kv.1=k))=true then kvs.map (fun kv=>if kv.1=k then (kv.1,v) else kv) else kvs++[(k,v)]
def zde {p:κ×V}{r:List (κ×V)}{k:κ}(e:p.1=k):valV (p::r) k=some p.2:=by simp [valV,List.find?_cons,e]
def zdf {p:κ×V}{r:List (κ×V)}{k:κ}(e:¬p.1=k):valV (p::r) k=valV r k:=by simp [valV,List.find?_cons,e]
def zgy (k:κ):∀kvs:List (κ×V),(kvs.any fun kv=>decide (kv.1=k))=(valV kvs k).isSome
 | []=>rfl
 | p::r=>by
  rw [List.any_cons]
  by_cases e:p.1=k
  ·simp only [zde e,zbN e,Bool.true_or,Option.isSome_some]
  ·rw [zdf e,wu e,Bool.false_or];exact zgy k r
def zei (kvs:List (κ×V)) (k:κ) (v:V):(putK kvs k v).length<=kvs.length+1:=by
 unfold putK
 split
 ·rw [jq];omega
 ·rw [jG,wq,List.length_nil];omega
def RelO.isSome_eq {o:Option V}{u:Option Value}(r:RelO o u):o.isSome=u.isSome:=by
 cases o with
 | none=>cases u with
  | none=>rfl
  | some _=>exact (show False from r).elim
 | some _=>cases u with
  | none=>exact (show False from r).elim
  | some _=>rfl
def KV.val {kvs:List (κ×V)}{vs:List (κ×Value)}(r:KV kvs vs) (k:κ):RelO (valV kvs k) (valueAt vs k):=by
 unfold KV at r
 induction r with
 | nil=>exact True.intro
 | @cons p q ps qs h t ih =>
  obtain ⟨h1,h2⟩:=h
  by_cases e:p.1=k
  ·have e':q.1=k:=h1.symm.trans e
   have b:valueAt (q::qs) k=some q.2:=by simp [valueAt,List.find?_cons,e']
   rw [zde e,b];exact h2
  ·have e':¬q.1=k:=fun z=>e (h1.trans z)
   have b:valueAt (q::qs) k=valueAt qs k:=by simp [valueAt,List.find?_cons,e']
   rw [zdf e,b];exact ih
def KV.any {kvs:List (κ×V)}{vs:List (κ×Value)}(r:KV kvs vs) (k:κ):(kvs.any fun kv=>decide (kv.1=k))=vs.any fun kv=>decide (kv.1=k):=by
 unfold KV at r
 induction r with
 | nil=>rfl
 | cons h t ih=>rw [List.any_cons,List.any_cons,ih,h.1]
def KV.repl {kvs:List (κ×V)}{vs:List (κ×Value)}(r:KV kvs vs) (k:κ) {y:V}{u:Value}(ry:RelV y u) :
  KV (kvs.map fun kv=>if kv.1=k then (kv.1,y) else kv) (vs.map fun kv=>if kv.1=k then (kv.1,u) else kv):=by
 unfold KV at r ⊢
 induction r with
 | nil=>exact .nil
 | @cons p q ps qs h t ih =>
  rw [jH,jH]
  refine .cons ?_ ih
  obtain ⟨h1,h2⟩:=h
  by_cases e:p.1=k
  ·rw [zH e,zH (h1.symm.trans e)];exact ⟨h1,ry⟩
  ·rw [zX e,zX (fun z=>e (h1.trans z))];exact ⟨h1,h2⟩
def KV.put {kvs:List (κ×V)}{vs:List (κ×Value)}(r:KV kvs vs) (k:κ) {y:V}{u:Value}(ry:RelV y u):KV (putK kvs k y) (stored vs k u):=by
 unfold putK stored
 rw [r.any k]
 by_cases e:(vs.any fun kv=>decide (kv.1=k))=true
 ·rw [zH e,zH e];exact r.repl k ry
 ·rw [zX e,zX e];exact Paired.snoc r ⟨rfl,ry⟩
def KV.keys {kvs:List (κ×V)}{vs:List (κ×Value)}(r:KV kvs vs):kvs.map (·.1)=vs.map (·.1):=by
 unfold KV at r
 induction r with
 | nil=>rfl
 | cons h t ih=>rw [jH,jH,ih,h.1]
def KV.length {kvs:List (κ×V)}{vs:List (κ×Value)}(r:KV kvs vs):kvs.length=vs.length:=Paired.length r
end
def zco {P:Program}{w:World}{k:Key}{u:Value}(r:RelV (kV k) u):(mixKind P w).is k u=true:=by
 cases k with
 | inl i=>obtain ⟨t,e⟩:=(show ∃t,u=Value.int i t from r);subst e;exact zka P w i t
 | inr x=>obtain ⟨t,e⟩:=(show ∃t,u=Value.str x t from r);subst e;exact zkb P w x t
def zgz {P:Program}{w:World}:∀{ks:List Key}{us:List Value},Vals (ks.map kV) us->ItemsAre (mixKind P w) ks us
 | [],_,r=>by rw [List.map_nil] at r;cases r;exact .nil
 | k::ks,_,r=>by
  rw [jH] at r
  cases r with
  | cons h t=>exact .cons (zco h) (zgz t)
abbrev KT (H:Hp):List (List Key×V)->List (List Key×Addr×Value)->Prop:=Paired fun p q=>p.1=q.1/\H q.2.1=some (.tup (p.1.map kV))/\RelV p.2 q.2.2
def KT.val {H:Hp}{kvs:List (List Key×V)}{xs:List (List Key×Addr×Value)}(r:KT H kvs xs) (k:List Key):RelO (valV kvs k) ((atKey xs k).map (·.2)):=by
 induction r with
 | nil=>exact True.intro
 | @cons p q ps qs h t ih =>
  obtain ⟨h1,_,h2⟩:=h
  by_cases e:p.1=k
  ·have e':q.1=k:=h1.symm.trans e
   have b:atKey (q::qs) k=some q.2:=by simp [atKey,List.find?_cons,e']
   rw [zde e,b];exact h2
  ·have e':¬q.1=k:=fun z=>e (h1.trans z)
   have b:atKey (q::qs) k=atKey qs k:=by simp [atKey,List.find?_cons,e']
   rw [zdf e,b];exact ih
def KT.repl {H:Hp}{kvs:List (List Key×V)}{xs:List (List Key×Addr×Value)}(r:KT H kvs xs) (k:List Key) {y:V}{u:Value}(ry:RelV y u) :
  KT H (kvs.map fun kv=>if kv.1=k then (kv.1,y) else kv) (xs.map (putAt k u)):=by
 induction r with
 | nil=>exact .nil
 | @cons p q ps qs h t ih =>
  rw [jH,jH]
  refine .cons ?_ ih
  obtain ⟨h1,h2,h3⟩:=h
  unfold putAt
  by_cases e:p.1=k
  ·rw [zH e,zH (h1.symm.trans e)];exact ⟨h1,h2,ry⟩
  ·rw [zX e,zX (fun z=>e (h1.trans z))];exact ⟨h1,h2,h3⟩
def KT.put {H:Hp}{kvs:List (List Key×V)}{xs:List (List Key×Addr×Value)}(r:KT H kvs xs) (k:List Key) {b:Addr}{y:V}{u:Value}(hb:H b=some (.tup (k.map kV))) (ry:RelV y u) :
  KT H (putK kvs k y) (storedH xs k b u):=by
 have e:(kvs.any fun kv=>decide (kv.1=k))=(atKey xs k).isSome:=by
  rw [zgy,(r.val k).isSome_eq,Option.isSome_map]
 unfold putK storedH
 rw [e]
 by_cases q:(atKey xs k).isSome=true
 ·rw [zH q,zH q];exact r.repl k ry
 ·rw [zX q,zX q];exact Paired.snoc r ⟨rfl,hb,ry⟩
def KT.keeps {H H':Hp}{kvs:List (List Key×V)}{xs:List (List Key×Addr×Value)}(r:KT H kvs xs) (ht:∀b ys,H b=some (.tup ys)->H' b=some (.tup ys)):KT H' kvs xs :=
 Paired.mapP r fun _ _ z=>⟨z.1,ht _ _ z.2.1,z.2.2⟩
section
variable {P:Program}{w:World}{H:Hp}{h:Heap}{a:Addr}
def zgA {u:HO}(ok:HOk P w H h) (e:Rd H a u):ObjOk P w H h a u:=e.ok ok
def wv {kvs:List (Key×V)}(ok:HOk P w H h) (e:Rd H a (.dK kvs)):kvs.length<=sizeLine/\(a==sysModules)=false/\∃vs,KV kvs vs/\h.DictOf (mixKind P w) a vs :=
 show ObjOk P w H h a (.dK kvs) from zgA ok e
def zgB {kvs:List (Key×V)}(ok:HOk P w H h) (e:H a=some (.dK kvs)):kvs.length<=sizeLine/\(a==sysModules)=false/\∃vs,KV kvs vs/\h.DictOf (mixKind P w) a vs:=wv ok (.inl e)
def zdg {ks:List Key}(ok:HOk P w H h) (e:H a=some (.tup (ks.map kV))):(tupleKind (mixKind P w)).is h ks a:=by
 obtain ⟨_,its,r,o,h1,h2,n,h3⟩:=(show ObjOk P w H h a (.tup (ks.map kV)) from ok a _ e)
 exact ⟨o,its.toArray,n,h1,h2,h3,by simpa using zgz r⟩
def zdh {kvs:List (List Key×V)}(ok:HOk P w H h) (e:Rd H a (.dT kvs)):kvs.length<=sizeLine/\(a==sysModules)=false /\
  ∃xs,KT H kvs xs/\h.DictOfH (tupleKind (mixKind P w)) a xs:=by
 obtain ⟨z,y,xs,r,o,es,ep,h1,h2,h3,h4,h5⟩:=(show ObjOk P w H h a (.dT kvs) from zgA ok e)
 refine ⟨z,y,xs,r,o,es,ep,h1,h2,h3,h4,fun x hx=>?_,h5⟩
 have all:∀{l:List (List Key×V)} {m:List (List Key×Addr×Value)},KT H l m->∀x∈m,(tupleKind (mixKind P w)).is h x.1 x.2.1:=by
  intro l m q
  induction q with
  | nil=>intro x hx;exact nomatch hx
  | @cons p q ps qs hq t ih =>
   intro x hx
   rcases yQ.mp hx with e|hx
   ·subst e
    exact zdg ok (by rw [<-hq.1];exact hq.2.1)
   ·exact ih x hx
 exact all r x hx
def zmz {kvs:List (List Key×V)}(ok:HOk P w H h) (e:H a=some (.dT kvs)):kvs.length<=sizeLine/\(a==sysModules)=false /\
  ∃xs,KT H kvs xs/\h.DictOfH (tupleKind (mixKind P w)) a xs:=zdh ok (.inl e)
end
def DGet (H:Hp) (a:Addr) (y:V) (r:Option V):Prop :=
 (∃kvs k,Rd H a (.dK kvs)/\y=kV k/\r=valV kvs k)\/∃kvs k b,Rd H a (.dT kvs)/\y=.ref b/\H b=some (.tup (k.map kV))/\r=valV kvs k
def DPut (H:Hp) (a:Addr) (y v:V) (H':Hp):Prop :=
 (∃kvs k,H a=some (.dK kvs)/\y=kV k/\kvs.length<sizeLine/\H'=upd H a (.dK (putK kvs k v))) \/
 ∃kvs k b,H a=some (.dT kvs)/\y=.ref b/\H b=some (.tup (k.map kV))/\kvs.length<sizeLine/\H'=upd H a (.dT (putK kvs k v))
def DGet.k {H:Hp}{a:Addr}{kvs:List (Key×V)}{k:Key}(e:H a=some (.dK kvs)):DGet H a (kV k) (valV kvs k):=.inl ⟨kvs,k,.inl e,rfl,rfl⟩
def DGet.t {H:Hp}{a b:Addr}{kvs:List (List Key×V)}{k:List Key}(e:H a=some (.dT kvs)) (eb:H b=some (.tup (k.map kV))):DGet H a (.ref b) (valV kvs k):=.inr ⟨kvs,k,b,.inl e,rfl,eb,rfl⟩
def DPut.k {H:Hp}{a:Addr}{kvs:List (Key×V)}{k:Key}{v:V}(e:H a=some (.dK kvs)) (hl:kvs.length<sizeLine):DPut H a (kV k) v (upd H a (.dK (putK kvs k v))):=.inl ⟨kvs,k,e,rfl,hl,rfl⟩
def DPut.t {H:Hp}{a b:Addr}{kvs:List (List Key×V)}{k:List Key}{v:V}(e:H a=some (.dT kvs)) (eb:H b=some (.tup (k.map kV))) (hl:kvs.length<sizeLine) :
  DPut H a (.ref b) v (upd H a (.dT (putK kvs k v))):=.inr ⟨kvs,k,b,e,rfl,eb,hl,rfl⟩
section
variable {X:Cx}{pins:List (Addr×Obj)}{σ:St}{H:Hp}{s:Shared}{a:Addr}{y v:V}{u r:Value}{o:Option V}{A:Around}{E:Value->Shared->Prop}
def Inv.big (I:Inv X pins σ H s):sysModules<s.heap.objs.size:=by
 have h:mainGlobals<s.heap.objs.size:=(I.mod.glob.keeps I.bk).lt
 exact Nat.lt_trans (by decide) h
def zmA {Q:Value->Shared->Prop}(hu:A.units+1<cLine) (I:Inv X pins σ H s) (g:DGet H a y (some v)) (ry:RelV y u) (h:∀w' s',Inv X pins σ H s'->RelV v w'->Q w' s') :
  wpAny (model X.prog X.w) A (getItem (.ref a) u) Q E s:=by
 rcases g with ⟨kvs,k,e,ey,l⟩|⟨kvs,k,b,e,ey,eb,l⟩
 ·subst ey
  obtain ⟨z,hd,vs,rel,dd⟩:=wv I.hok e
  obtain ⟨w',hw,rw'⟩:=RelO.some_of (v:=v) (o:=valueAt vs k) (by rw [l];exact rel.val k)
  exact wpAny_getItem_of (zco ry) dd.mapOf hw (h w' _ (I.tok _) rw')
 ·subst ey
  cases (show u=Value.ref b from ry)
  obtain ⟨z,hd,xs,rel,dd⟩:=zdh I.hok e
  obtain ⟨w',hw,rw'⟩:=RelO.some_of (v:=v) (o:=(atKey xs k).map (·.2)) (by rw [l];exact rel.val k)
  obtain ⟨p,hp,hp2⟩:=Option.map_eq_some_iff.mp hw
  refine wpAny_getItem_heap (tupleKind_room_in1 hu) (zdg I.hok eb) dd hp ?_
  rw [hp2]
  exact h w' _ (I.tok _) rw'
def zmB {Q:Value->Shared->Prop}(hu:A.units+1<cLine) (I:Inv X pins σ H s) (g:DGet H a y o) (ry:RelV y u) (h:∀s',Inv X pins σ H s'->Q (.bool o.isSome) s') :
  wpAny (model X.prog X.w) A (compareOp .In u (.ref a)) Q E s:=by
 rcases g with ⟨kvs,k,e,ey,l⟩|⟨kvs,k,b,e,ey,eb,l⟩
 ·subst ey
  obtain ⟨z,hd,vs,rel,dd⟩:=wv I.hok e
  refine wpAny_in_of (zco ry) hd dd.mapOf ?_
  rw [<-(rel.val k).isSome_eq,<-l]
  exact h _ (I.tok _)
 ·subst ey
  cases (show u=Value.ref b from ry)
  obtain ⟨z,hd,xs,rel,dd⟩:=zdh I.hok e
  refine wpAny_in_heap (tupleKind_room_in1 hu) (zdg I.hok eb) hd dd ?_
  have q:=(rel.val k).isSome_eq
  rw [Option.isSome_map] at q
  rw [<-q,<-l]
  exact h _ (I.tok _)
def zej {h':Heap}{t':Nat}{ob:HO}(I:Inv X pins σ H s) (mu:Mut (H a)) (hs:Heap.SameBut a s.heap h') (he:∃q,h'.get? a=some q) (new:ObjOk X.prog X.w (upd H a ob) h' a ob) :
  Inv X pins σ (upd H a ob) { s with heap:=h',toks:=t' } :=
 I.write (x:=a) (e:=a) mu (.inl rfl) (fun b q hb z=>(hs.2 b hb).trans z) he new
def zgC {P:Program}{w:World}{H':Hp}{h':Heap}{kvs:List (Key×V)}{vs:List (Key×Value)}(z:kvs.length<=sizeLine) (hd:(a==sysModules)=false) (rel:KV kvs vs) (dd:h'.DictOf (mixKind P w) a vs) :
  ObjOk P w H' h' a (.dK kvs):=⟨z,hd,vs,rel,dd⟩
def zmC {H':Hp}{Q:Unit->Shared->Prop}(hu:A.units+1<cLine) (I:Inv X pins σ H s) (g:DPut H a y v H') (ry:RelV y u) (rv:RelV v r) (h:∀s',Inv X pins σ H' s'->Q () s') :
  wpAny (model X.prog X.w) A (setItem (.ref a) u r) Q E s:=by
 rcases g with ⟨kvs,k,e,ey,l,eH⟩|⟨kvs,k,b,e,ey,eb,l,eH⟩
 ·subst ey eH
  obtain ⟨z,hd,vs,rel,dd⟩:=zgB I.hok e
  have hz:vs.length<=sizeLine:=by rw [<-rel.length];exact z
  have hl:(putK kvs k v).length<=sizeLine:=by have:=zei kvs k v;omega
  refine wpAny_setItem_pairs (hsz:=hz) (zco ry) dd fun h' dd' hs=>h _ ?_
  have he:∃q,h'.get? a=some q:=let ⟨q,_,_,hq,_⟩:=dd';⟨q,hq⟩
  exact zej I (by rw [e];exact True.intro) hs he (zgC hl hd (rel.put k rv) dd')
 ·subst ey eH
  cases (show u=Value.ref b from ry)
  obtain ⟨z,hd,xs,rel,dd⟩:=zmz I.hok e
  have hz:xs.length<=sizeLine:=by rw [<-Paired.length rel];exact z
  have hl:(putK kvs k v).length<=sizeLine:=by have:=zei kvs k v;omega
  refine wpAny_setItem_heap (hsz:=hz) (tupleKind_room_in1 hu) (zdg I.hok eb) dd fun h' dd' hs=>h _ ?_
  obtain ⟨q,es,ep,hq,h2,h3,h4,_,h5⟩:=dd'
  refine zej I (by rw [e];exact True.intro) hs ⟨q,hq⟩ ⟨hl,hd,_,(rel.put k eb rv).keeps fun c ys ec=>?_,q,es,ep,hq,h2,h3,h4,h5⟩
  rw [yj (zkc ec e (fun z=>nomatch z))]
  exact ec
end
section
variable {X:Cx}{pins:List (Addr×Obj)}{σ:St}{H:Hp}{s:Shared}{a:Addr}{kvs:List (Key×V)}{k:Key}{u:Value}{A:Around}{E:Value->Shared->Prop}
def zmD {Q:Value->Shared->Prop} (I:Inv X pins σ H s) (e:Rd H a (.dK kvs)) (h:∀t s',Inv X pins σ H s'->Q (.int kvs.length t) s'):wpAny (model X.prog X.w) A (call (.builtin "len") [.ref a]) Q E s:=by
 obtain ⟨z,hd,vs,rel,dd⟩:=wv I.hok e
 refine call_len_dict hd dd (by rw [<-rel.length];rw [sizeLine_eq] at z;omega) ?_
 rw [<-rel.length]
 exact h _ _ (I.tok _)
end
def zmE {X:Cx} {pins:List (Addr×Obj)} {σ:St} {H:Hp} {s:Shared} {a:Addr} {y:V} {o:Option V} (I:Inv X pins σ H s) (g:DGet H a y o):s.TypeIs (.ref a) "dict" := by
 rcases g with ⟨kvs,k,e,_,_⟩|⟨kvs,k,b,e,_,_,_⟩
 ·obtain ⟨_,_,vs,_,dd⟩:=wv I.hok e
  exact dd.typeIs
 ·obtain ⟨_,_,xs,_,dd⟩:=zdh I.hok e
  exact dd.typeIs
def zmF (td ty tv:TE):TS:=fun D σ H=>tv σ H fun v H1=>td σ H1 fun x H2=>ty σ H2 fun y H3=>∃a H4,x=.ref a/\DPut H3 a y v H4/\D.nx σ H4
section
variable {X:Cx}{o i e value:Expr}{pos pos' tpos:Pos}{td ty tv:TE}
def zmG (hu:X.A.units+1<cLine) (ho:PE X o td) (hi:PE X i ty) (hv:PE X value tv) (hs:swapsWith value (some (.Subscript o i pos')) pos.line X.env=pure false) :
  PS X (.Assign [.Subscript o i pos'] value pos) (zmF td ty tv):=by
 intro pins s σ H D I h
 refine wpAny_Assign_Subscript (thn (hv pins s σ H _ I h) fun r s1 ⟨v,H1,I1,rv,q1⟩=>thn (ho pins s1 σ H1 _ I1 q1) fun u s2 ⟨x,H2,I2,rx,q2⟩=>thn (hi pins s2 σ H2 _ I2 q2) fun iv s3 ⟨y,H3,I3,ry,a,H4,ex,g,q3⟩=>?_) hs
 subst ex
 obtain rfl:u=Value.ref a:=rx
 exact zmC hu I3 g ry rv fun s4 I4=>⟨σ,H4,I4,q3⟩
end
def zgD {P:Program} {w:World} {H:Hp} (h:Heap) (hb:sysModules<h.objs.size):ObjOk P w H (h.push { cls:=.type "dict", data:=.dict #[] }) h.objs.size (.dK []) :=
 ⟨yR _,beq_eq_false_iff_ne.mpr (yJ (jr hb)),[],.nil,Heap.DictOf.new h⟩
def zmH:TE:=fun _ H Q=>∀p,H p=none->Q (.ref p) (upd H p (.dK []))
section
variable {X:Cx}{pos:Pos}
def zmI:PE X (.Dict [] [] pos) zmH:=fun pins s σ H Q I h =>
 wpAny_Dict_empty ⟨.ref s.heap.objs.size,_,I.laid (a:=s.heap.objs.size) (o:=.dK []) (t':=s.toks) (fun _ _ q=>yv _ q) (yf _) (zgD s.heap I.big),rfl,h _ (I.hok.fresh (yf _))⟩
end
def zdi:List (TE×TE)->St->Hp->(List (V×V)->Hp->Prop)->Prop
 | [],_,H,Q=>Q [] H
 | (tk,tv)::r,σ,H,Q=>tk σ H fun x H1=>tv σ H1 fun y H2=>zdi r σ H2 fun ps H3=>Q ((x,y)::ps) H3
abbrev VV:List (V×V)->List (Value×Value)->Prop:=Paired fun p q=>RelV p.1 q.1/\RelV p.2 q.2
def PPs (X:Cx) (pos:Pos) (keys:List (Option Expr)) (values:List Expr) (trs:List (TE×TE)):Prop :=
 ∀(pins:List (Addr×Obj)) (s:Shared) (σ:St) (H:Hp) (Q:List (V×V)->Hp->Prop),Inv X pins σ H s->zdi trs σ H Q ->
  wpAny (model X.prog X.w) X.A (evalPairs (pairTrees keys values X.env pos)) (fun vs s'=>∃ps H',Inv X pins σ H' s'/\VV ps vs/\Q ps H') X.xe s
def zmJ {X:Cx}{pos:Pos}:PPs X pos [] [] []:=fun pins s σ H Q I h=>pairTrees_nil_walk ⟨[],H,I,.nil,h⟩
def zmK {X:Cx}{pos:Pos}{k v:Expr}{ks:List (Option Expr)}{vs:List Expr}{tk tv:TE}{trs:List (TE×TE)}(hk:PE X k tk) (hv:PE X v tv) (hr:PPs X pos ks vs trs) :
  PPs X pos (some k::ks) (v::vs) ((tk,tv)::trs):=fun pins s σ H Q I h =>
 pairTrees_cons_walk (thn (hk pins s σ H _ I h) fun u s1 ⟨x,H1,I1,rx,q1⟩=>thn (hv pins s1 σ H1 _ I1 q1) fun w2 s2 ⟨y,H2,I2,ry,q2⟩ =>
  thn (hr pins s2 σ H2 _ I2 q2) fun ws s3 ⟨ps,H3,I3,rel,q3⟩=>⟨(x,y)::ps,H3,I3,.cons ⟨rx,ry⟩ rel,q3⟩)
def mergeK (kvs more:List (Key×V)):List (Key×V):=more.foldl (fun acc kv=>putK acc kv.1 kv.2) kvs
def KV.merge:∀{more:List (Key×V)}{rs:List (Key×Value)}{kvs:List (Key×V)}{vs:List (Key×Value)},KV more rs->KV kvs vs->KV (mergeK kvs more) (merged vs rs):=by
 intro more rs kvs vs r
 unfold KV at r
 induction r generalizing kvs vs with
 | nil=>intro q;exact q
 | @cons p q ps qs h t ih =>
  intro r0
  have e:KV (putK kvs p.1 p.2) (stored vs q.1 q.2):=by
   have:=r0.put p.1 h.2
   rw [<-h.1];exact this
  exact ih e
def zgE:∀(more kvs:List (Key×V)),(mergeK kvs more).length<=kvs.length+more.length
 | [],kvs=>by show kvs.length<=kvs.length+0;omega
 | p::r,kvs=>by
  have h1:=zgE r (putK kvs p.1 p.2)
  have h2:=zei kvs p.1 p.2
  show (mergeK (putK kvs p.1 p.2) r).length<=_
  rw [wq];omega
def zgF {P:Program}{w:World}:∀{kvs:List (Key×V)}{ws:List (Value×Value)},VV (kvs.map fun kv=>(kV kv.1,kv.2)) ws->∃rs,Carries (mixKind P w) ws rs/\KV kvs rs
 | [],_,r=>by rw [List.map_nil] at r;cases r;exact ⟨[],True.intro,.nil⟩
 | p::kvs,_,r=>by
  rw [jH] at r
  cases r with
  | @cons a b as bs h t =>
   obtain ⟨rs,c,q⟩:=zgF (P:=P) (w:=w) t
   obtain ⟨b1,b2⟩:=b
   exact ⟨(p.1,b2)::rs,⟨zco h.1,rfl,c⟩,.cons ⟨rfl,h.2⟩ q⟩
def zmL (trs:List (TE×TE)):TE:=fun σ H Q=>∀p,H p=none->zdi trs σ (upd H p (.dK [])) fun ps H2=>H2 p=some (.dK [])/\∃kvs:List (Key×V),ps=kvs.map (fun kv=>(kV kv.1,kv.2))/\kvs.length<=15/\Q (.ref p) (upd H2 p (.dK (mergeK [] kvs)))
def zmM {X:Cx}{pos:Pos}{keys:List (Option Expr)}{values:List Expr}{trs:List (TE×TE)}(h:PPs X pos keys values trs) (hall:keys.all (·.isSome)=true) (hl:keys.length=values.length) (h0:keys≠[])
  (h15:keys.length<=15):PE X (.Dict keys values pos) (zmL trs):=by
 intro pins s σ H Q I q
 have hn:=I.hok.fresh (yf s.heap.objs.size)
 have I1:=I.laid (a:=s.heap.objs.size) (o:=.dK []) (h':=s.heap.push { cls:=.type "dict", data:=.dict #[] }) (t':=s.toks) (fun _ _ q=>yv _ q) (yf _) (zgD s.heap I.big)
 refine wpAny_Dict_walk (knd:=mixKind X.prog X.w) hall hl h0 h15 (thn (h pins _ σ _ _ I1 (q _ hn)) fun ws s2 ⟨ps,H2,I2,rel,e,kvs,ep,lk,q2⟩=>?_)
 subst ep
 obtain ⟨rs,c,rk⟩:=zgF (P:=X.prog) (w:=X.w) rel
 obtain ⟨z,hd,vs0,r0,dd⟩:=zgB I2.hok e
 cases r0
 refine ⟨rs,c,dd,fun h' dd' hs=>⟨.ref s.heap.objs.size,_,?_,rfl,q2⟩⟩
 have hz:(mergeK [] kvs).length<=sizeLine:=by
  have h1:=zgE kvs []
  rw [List.length_nil] at h1
  rw [sizeLine_eq];omega
 have he:∃q,h'.get? s.heap.objs.size=some q:=let ⟨q,_,_,hq,_⟩:=dd';⟨q,hq⟩
 exact zej I2 (by rw [e];exact True.intro) hs he (zgC hz hd (rk.merge .nil) dd')
structure M1 (X:Cx) (o:Expr) (m:Str) (apos:Pos) (e:Expr) (cpos:Pos):Prop where
 base:attributeBase o m X.env (eval o X.env)=eval o X.env
 few:((backTo cpos (starEach [e] X.env)).all (fun x=>!x.1)&&(backToKw cpos (keywordEach [] X.env)).all (fun x=>x.1.isSome)
  && decide (([e]:List Expr).length+([]:List Keyword).length+(if ([]:List Keyword).isEmpty then 0 else 1)<30))=true
 line:(apos.endLine==cpos.line)=true
 trees:backTo cpos (starEach [e] X.env)=[(false,eval e X.env)]
structure M2 (X:Cx) (o:Expr) (m:Str) (apos:Pos) (e f:Expr) (cpos:Pos):Prop where
 base:attributeBase o m X.env (eval o X.env)=eval o X.env
 few:((backTo cpos (starEach [e,f] X.env)).all (fun x=>!x.1)&&(backToKw cpos (keywordEach [] X.env)).all (fun x=>x.1.isSome)
  && decide (([e,f]:List Expr).length+([]:List Keyword).length+(if ([]:List Keyword).isEmpty then 0 else 1)<30))=true
 line:(apos.endLine==cpos.line)=true
 trees:backTo cpos (starEach [e,f] X.env)=[(false,eval e X.env),(false,eval f X.env)]
section
variable {X:Cx}{pins:List (Addr×Obj)}{σ:St}{H:Hp}{s:Shared}{a:Addr}{y d:V}{u r:Value}{o:Option V}{A:Around}{E:Value->Shared->Prop}
end
section
variable {X:Cx}{o e f:Expr}{apos cpos:Pos}{td ty tx:TE}
end
section
variable {X:Cx}{pins:List (Addr×Obj)}{σ:St}{H:Hp}{s:Shared}{a:Addr}{kvs:List (Key×V)}{A:Around}{E:Value->Shared->Prop}
end
section
variable {X:Cx}{pins:List (Addr×Obj)}{σ:St}{H:Hp}{s:Shared}{a:Addr}{y:V}{u:Value}{A:Around}{E:Value->Shared->Prop}
end
def XO (h:Heap) (a:Addr) (C:Value) (d:Option Addr) (head:Value):Prop :=
 ∃oe vs,h.get? a=some oe/\oe.cls=C/\oe.dict=d/\oe.data=.fields vs/\vs.size=6/\vs[1]?=some head
def TB (h:Heap) (T:Addr) (fl:Value):Prop:=∃oT ts,h.get? T=some oT/\oT.data=.fields ts/\ts[3]?=some fl
def zmN (o:Obj) (f):(o.mapFields f).dict=o.dict:=by
 obtain ⟨c,d,dt,sl⟩:=o
 cases dt<;>rfl
def XO.keeps {h h':Heap}{a:Addr}{C:Value}{d:Option Addr}{head:Value}(x:XO h a C d head) (k:∀o,h.get? a=some o->h'.get? a=some o):XO h' a C d head:=by
 obtain ⟨oe,vs,e,r⟩:=x
 exact ⟨oe,vs,k _ e,r⟩
def TB.keeps {h h':Heap}{T:Addr}{fl:Value}(x:TB h T fl) (k:∀o,h.get? T=some o->h'.get? T=some o):TB h' T fl:=by
 obtain ⟨oT,ts,e,r⟩:=x
 exact ⟨oT,ts,k _ e,r⟩
def XO.set1 {h:Heap}{a:Addr}{C:Value}{d:Option Addr}{head:Value}(x:XO h a C d head) (u:Value):XO (h.update a (Obj.mapFields (·.setIfInBounds 1 u))) a C d u:=by
 obtain ⟨oe,vs,e,hc,hdi,hd,hz,h1⟩:=x
 have hd':=Obj.data_mapFields hd (·.setIfInBounds 1 u)
 refine ⟨_,_,Heap.get?_update_self _ e (Obj.isFreed_of_fields hd'),(Obj.cls_mapFields _ _).trans hc,(zmN _ _).trans hdi,hd',?_,?_⟩
 ·rw [Array.size_setIfInBounds];exact hz
 ·have:1<vs.size:=by omega
  simp [this]
def TB.set3 {h:Heap}{T:Addr}{fl:Value}(x:TB h T fl) (u:Value):TB (h.update T (Obj.mapFields (·.setIfInBounds 3 u))) T u:=by
 obtain ⟨oT,ts,e,hd,h3⟩:=x
 have hd':=Obj.data_mapFields hd (·.setIfInBounds 3 u)
 refine ⟨_,_,Heap.get?_update_self _ e (Obj.isFreed_of_fields hd'),hd',?_⟩
 have:3<ts.size:=(Array.getElem?_eq_some_iff.mp h3).1
 simp [this]
section
variable {M:Model}{A:Around}{E:Value->Shared->Prop}{s:Shared}{base:Heap}{env:Env}{outer:List Env}{L a:Addr}{C:Value}{d:Option Addr}{head:Value}{Q:Unit->Shared->Prop}
def zgG {b2:Bool}(hfr:A.frames=some (env::outer)) (hl:s.heap.FunFrames base (env::outer)) (hf:env.frame=some L) (x:XO s.heap a C d head)
  (h:∀h' T,s.heap.objs.size<=T->XO h' a C d (.ref T)->TB h' T (rawInt L)->(∀b o,b≠a->b∉frs (env::outer)->s.heap.get? b=some o->h'.get? b=some o) ->
   (∀b o,b≠a->b∈frs (env::outer)->s.heap.get? b=some o->∃sl,h'.get? b=some { o with slots:=sl })->Q () { s with heap:=h' }) :
  wpAny M A (do let fr <-frameOf env;let pl <-entryPlaceOf L b2;let tb <-EntryCells.newEntry head fr .none (rawInt L) .none pl;setField (.ref a) 1 tb) Q E s:=by
 obtain ⟨oe,vs,e,hc,hdi,hd,hz,h1⟩:=id x
 have aN:a∉frs (env::outer):=fun hm=>by
  obtain ⟨_,o,ho,nf⟩:=hl.mem hm
  rw [e] at ho
  cases ho
  exact nf vs hd
 refine zv (wpAny_frameOf_fun hfr hl hf fun g1 sl1=>zv (wpAny_entryPlaceOf fun pl ipl=>?_))
 unfold EntryCells.newEntry newFields
 refine zv (wD ?_ (ipl.sizeOk5 _ _ _ _ _))
 have x1:XO g1 a C d head:=⟨oe,vs,(sl1.2.1 a aN).trans e,hc,hdi,hd,hz,h1⟩
 generalize hob:({ cls:=.type "traceback", dict:=none,data:=.fields ([head,.ref L,.none,rawInt L,.none]++(if pl.isEmpty then List.replicate 6 Value.none else pl)).toArray }:Obj)=ob
 have x2:XO (g1.push ob) a C d head:=x1.keeps fun o q=>yv _ q
 obtain ⟨oe2,vs2,e2,_,_,hd2,hz2,_⟩:=id x2
 refine wpAny_setField e2 hd2 (by omega) ?_
 have aT:g1.objs.size≠a:=fun z=>by
  obtain ⟨_,_,q,_⟩:=x1
  have:=yF q
  rw [<-z] at this
  exact Nat.lt_irrefl _ this
 have szle:s.heap.objs.size<=g1.objs.size:=Nat.le_of_eq sl1.1.symm
 refine h _ g1.objs.size szle (x2.set1 _) ?_ (fun b o nb nf q=>?_) (fun b o nb nf q=>?_)
 ·have t0:TB (g1.push ob) g1.objs.size (rawInt L):=by
   refine ⟨ob,_,jv _ (by rw [<-hob];rfl),by rw [<-hob],?_⟩
   rcases ipl with rfl|⟨_,_,_,_,_,_,_,rfl⟩<;>simp
  exact t0.keeps fun o q=>(zah _ _ (yJ aT)).trans q
 ·exact (zah _ _ (yJ nb)).trans (yv _ ((sl1.2.1 b nf).trans q))
 ·obtain ⟨sl,z⟩:=sl1.2.2 b o q
  exact ⟨sl,(zah _ _ (yJ nb)).trans (yv _ z)⟩
def zmO (hfr:A.frames=some (env::outer)) (hl:s.heap.FunFrames base (env::outer)) (hf:env.frame=some L) (x:XO s.heap a C d head)
  (ht:head=.none\/∃T0,head=.ref T0/\T0≠a/\TB s.heap T0 .none)
  (h:∀h' T,s.heap.objs.size<=T->XO h' a C d (.ref T)->TB h' T (rawInt L)->(∀b o,b≠a->.ref b≠head->b∉frs (env::outer)->s.heap.get? b=some o->h'.get? b=some o) ->
   (∀b o,b∈frs (env::outer)->s.heap.get? b=some o->∃sl,h'.get? b=some { o with slots:=sl })->Q () { s with heap:=h' }) :
  wpAny M A (noteFrame (.ref a) env) Q E s:=by
 obtain ⟨oe,vs,e,hc,hdi,hd,hz,h1⟩:=id x
 have aN:a∉frs (env::outer):=fun hm=>by
  obtain ⟨_,o,ho,nf⟩:=hl.mem hm
  rw [e] at ho
  cases ho
  exact nf vs hd
 unfold noteFrame
 simp only [hf]
 refine zv (jg e hd h1 ?_)
 rcases ht with rfl|⟨T0,rfl,nT,t0⟩
 ·rw [zX (by decide)]
  exact zgG hfr hl hf x fun h' T k1 k2 k3 k4 k5=>h h' T k1 k2 k3 (fun b o nb _ nf q=>k4 b o nb nf q) fun b o hb q=>k5 b o (fun z=>aN (z▸hb)) hb q
 ·obtain ⟨oT,ts,eT,hdT,h3⟩:=id t0
  have TN:T0∉frs (env::outer):=fun hm=>by
   obtain ⟨_,o,ho,nf⟩:=hl.mem hm
   rw [eT] at ho
   cases ho
   exact nf ts hdT
  rw [zH (show (Value.ref T0 != Value.none)=true from by simp)]
  refine zv (jg eT hdT h3 ?_)
  rw [zX (show ¬((Value.none==rawInt L)=true) from by simp [rawInt])]
  refine zv (wpAny_setField eT hdT (Array.getElem?_eq_some_iff.mp h3).1 ?_)
  have oth:∀b,b≠T0->(s.heap.update T0 (Obj.mapFields (·.setIfInBounds 3 Value.none))).get? b=s.heap.get? b:=fun b hb=>zah _ _ (yJ hb)
  refine zgG (s:={ s with heap:=s.heap.update T0 (Obj.mapFields (·.setIfInBounds 3 Value.none)) }) hfr (hl.of_keeps fun b o hb nf=>⟨o,(oth b fun q=>?_).trans hb,rfl⟩) hf (x.keeps fun o q=>(oth a (yJ nT)).trans q) fun h' T k1 k2 k3 k4 k5 =>
   h h' T (by simpa using k1) k2 k3 (fun b o nb nh nf q=>k4 b o nb nf ((oth b fun z=>nh (by rw [z])).trans q)) fun b o hb q=>k5 b o (fun z=>aN (z▸hb)) hb ((oth b fun z=>TN (z▸hb)).trans q)
  rw [q,eT] at hb
  cases hb
  exact nf ts hdT
def zmP {T:Addr}{fl:Value}(x:XO s.heap a C d (.ref T)) (t:TB s.heap T fl) (ne:T≠a)
  (h:∀h',XO h' a C d (.ref T)->TB h' T .none->(∀b o,b≠T->s.heap.get? b=some o->h'.get? b=some o)->h'.objs.size=s.heap.objs.size->Q () { s with heap:=h' }):wpAny M A (setFlight (.ref a) none) Q E s:=by
 obtain ⟨oe,vs,e,_,_,hd,_,h1⟩:=id x
 obtain ⟨oT,ts,eT,hdT,h3⟩:=id t
 unfold setFlight
 refine zv (jg e hd h1 ?_)
 rw [zH (show (Value.ref T != Value.none)=true from by simp)]
 refine wpAny_setField eT hdT (Array.getElem?_eq_some_iff.mp h3).1 ?_
 exact h _ (x.keeps fun o q=>(zah _ _ ne).trans q) (t.set3 _) (fun b o nb q=>(zah _ _ (yJ nb)).trans q) (by simp)
end
def OwnRec (X:Cx) (pins:List (Addr×Obj)) (H:Hp) (b:Addr):Prop :=
 H b=none/\X.s₀.heap.objs.size<=b/\b≠X.env.locals/\(∀x c,X.env.cells.lookup x=some c->c≠b)/\∀p∈X.pn++pins,p.1≠b
def OwnRec.new {X:Cx}{pins:List (Addr×Obj)}{σ:St}{H H':Hp}{s:Shared}{b:Addr}(I:Inv X pins σ H s) (hb:s.heap.objs.size<=b) (hn:H' b=none):OwnRec X pins H' b:=by
 obtain ⟨f0,f1,f2,f3,f4,f5⟩:=I.fpOk (H':=H') hb hn
 exact ⟨hn,yS I.sz hb,f1,f4,f5⟩
def Fly (X:Cx) (pins:List (Addr×Obj)) (H:Hp) (h:Heap) (a C:Addr) (d:Option Addr):Prop :=
 ∃head,XO h a (.ref C) d head/\OwnRec X pins H a/\(head=.none\/∃T,head=.ref T/\T≠a/\TB h T .none/\OwnRec X pins H T)
def Throws (X:Cx) (E:XK):Prop:=∀(pins:List (Addr×Obj)) (σ:St) (H:Hp) (s:Shared) (a C:Addr) (d:Option Addr),Inv X pins σ H s->Fly X pins H s.heap a C d->E (.ref C) d H->X.xe (.ref a) s
def CXe (P:Program) (w:World):CXT:=fun outer H s E e s'=>∃(a C T:Addr) (d:Option Addr) (H':Hp),e=.ref a/\s'.os=s.os/\AllBare s'.gens/\Un (frs outer) [] H H' s.heap s'.heap/\HOk P w H' s'.heap /\
 XO s'.heap a (.ref C) d (.ref T)/\T≠a/\TB s'.heap T .none/\(s.heap.objs.size<=a/\H' a=none)/\(s.heap.objs.size<=T/\H' T=none)/\E (.ref C) d H'
def zmQ {X:Cx}{E:XK}(t:Throws X E):Passes (CXe X.prog X.w) X E:=by
 rintro pins σ H s e s' I ⟨a,C,T,d,H',rfl,os,bare,un,hok,x,ne,tb,⟨a1,a2⟩,⟨t1,t2⟩,q⟩
 have I':Inv X pins σ H' s':=I.call' (ch:=[]) os un hok bare fun b z=>absurd z (by simp)
 exact t pins σ H' s' a C d I' ⟨_,x,OwnRec.new I a1 a2,.inr ⟨T,rfl,ne,tb,OwnRec.new I t1 t2⟩⟩ q
def chOf (a:Addr):Value->List Addr
 | .ref T0=>[a,T0]
 | _=>[a]
def zgH (a:Addr) (v:Value):a∈chOf a v:=by cases v<;>simp [chOf]
def zgI (a T0:Addr):T0∈chOf a (.ref T0):=by simp [chOf]
section
variable {X:Cx}{pins:List (Addr×Obj)}{σ:St}{H:Hp}{s:Shared}{a C:Addr}{d:Option Addr}{A:Around}{E:Value->Shared->Prop}{Q:Unit->Shared->Prop}
def zmR (I:Inv X pins σ H s) (hfr:A.frames=some X.stack) (hst:X.stack=X.env::X.outer) (hf:X.env.frame=some X.env.locals) (F:Fly X pins H s.heap a C d)
  (h:∀s' T,Inv X pins σ H s'->XO s'.heap a (.ref C) d (.ref T)->T≠a->TB s'.heap T (rawInt X.env.locals)->OwnRec X pins H a->OwnRec X pins H T->Q () s'):wpAny (model X.prog X.w) A (noteFrame (.ref a) X.env) Q E s:=by
 obtain ⟨head,x,oa,ht⟩:=F
 have hl:s.heap.FunFrames X.base (X.env::X.outer):=hst▸I.stack
 have hfr':A.frames=some (X.env::X.outer):=hfr.trans (congrArg some hst)
 have efr:frs (X.env::X.outer)=X.env.locals::X.fs:=by
  unfold frs
  rw [List.filterMap_cons,hf]
  rfl
 have hfree:∀b∈X.env.locals::X.fs,H b=none:=fun b hb=>I.stkFree b (by rw [hst,efr];exact hb)
 have headN:∀b u,H b=some u->Value.ref b≠head:=fun b u e z=>by
  rcases ht with rfl|⟨T0,rfl,_,_,r⟩
  ·cases z
  ·cases z
   rw [r.1] at e
   cases e
 refine zmO hfr' hl hf x (ht.imp id fun ⟨T0,e1,e2,e3,_⟩=>⟨T0,e1,e2,e3⟩) fun h' T k1 k2 k3 k4 k5=>?_
 rw [efr] at k4 k5
 have oT:OwnRec X pins H T:=OwnRec.new I k1 (I.hok.fresh k1)
 have neT:T≠a:=fun z=>by
  obtain ⟨_,_,e,_⟩:=x
  have:=yF e
  rw [<-z] at this
  exact Nat.lt_irrefl _ (j0 this k1)
 refine h { s with heap:=h' } T ?_ k2 neT k3 oa oT
 refine I.step (g':=s.gens) (t':=s.toks) (d':=s.drawn) (ch:=chOf a head) (fun b hb=>?_) (fun b o n1 n2 n3 e n=>k4 b o (fun z=>n3 ?_) (fun z=>n3 ?_) (fun z=>(yQ.mp z).elim n1 n2) e)
  (fun b o n1 n2 n3 e n=>k5 b o (jc _ n2) e) (fun _ _ _ _ n=>n) (fun b o n3 e=>?_) (fun _ _ e=>e) (fun _ _ _ e=>e) (fun b ps e=>⟨#[],by rw [e];simp⟩) (fun m hm=>?_) (fun b u e=>?_) I.bare
 ·have own:OwnRec X pins H b:=by
   rcases ht with rfl|⟨T0,rfl,_,_,r⟩
   ·have z:b=a:=by simpa [chOf] using hb
    rw [z];exact oa
   ·have z:b=a\/b=T0:=by simpa [chOf] using hb
    rcases z with z|z
    ·rw [z];exact oa
    ·rw [z];exact r
  exact ⟨.inr own.2.1,own.2.2.1,own.2.2.2.1,own.2.2.2.2⟩
 ·rw [z]
  exact zgH a head
 ·rw [<-z]
  exact zgI a b
 ·by_cases hb:b∈X.env.locals::X.fs
  ·obtain ⟨sl,z⟩:=k5 b o hb e
   exact ⟨_,z⟩
  ·exact ⟨o,k4 b o (fun z=>n3 (by rw [z];exact zgH a head)) (fun z=>n3 (by rw [<-z];exact zgI a b)) hb e⟩
 ·obtain ⟨o,es,ep,ho,r⟩:=hm
  obtain ⟨sl,z⟩:=k5 _ o yY ho
  exact ⟨_,es,ep,z,r⟩
 ·refine (I.hok b u e).stay (fun c v hc q=>?_) (fun _ q=>q) fun _ _ q=>q
  have tr:∃u',H c=some u':=by
   rcases hc with z|z
   ·exact ⟨u,by rw [z];exact e⟩
   ·exact ⟨_,z⟩
  obtain ⟨u',eu⟩:=tr
  exact k4 c v (fun z=>by rw [z,oa.1] at eu;cases eu) (headN c u' eu) (fun z=>by rw [hfree c z] at eu;cases eu) q
def zmS {T:Addr}{fl:Value}(I:Inv X pins σ H s) (x:XO s.heap a (.ref C) d (.ref T)) (ne:T≠a) (tb:TB s.heap T fl) (oa:OwnRec X pins H a) (oT:OwnRec X pins H T)
  (h:∀s',Inv X pins σ H s'->XO s'.heap a (.ref C) d (.ref T)->TB s'.heap T .none->Q () s'):wpAny (model X.prog X.w) A (setFlight (.ref a) none) Q E s:=by
 refine zmP x tb ne fun h' k1 k2 k3 _=>h { s with heap:=h' } ?_ k1 k2
 exact I.turned (t':=s.toks) (it:=T) (fun b o nb e=>k3 b o nb e) oT.1 oT.2.2.1 (.inr oT.2.1) oT.2.2.2.1 oT.2.2.2.2
end
section
variable {P:Program}{w:World}{K:PySem.W.Frag}{mg:Str->Option Value}{base:Heap}
def Fun.okX {x qual:Str}{st:Stmt}{f:Addr}{fd:FuncData}{N ps:List Str}{k:Nat}{sp:Sp}(F:Fun K x qual st f fd) (S:FnScope N ps (zT st)) (len:∀vs H Q E,sp vs H Q E->vs.length=ps.length)
  (hbody:∀(cdv:Value) (A:Around) (outer:List Env) (s:Shared) (H:Hp) (vs:List V) (Q:VK) (E:XK),Room k (A.deeper (envOfC qual (zT st) s.heap.objs.size f cdv))->sp vs H Q E ->
   ∃t,PSs (cxOf (CXe P w) P w K mg base N qual (zT st) f cdv A outer s H E) (wf st) t/\t { nx:=fun _ H'=>Q .non H',rt:=Q } (start N vs) H):FnOk P w K mg base (CXe P w) (k+1) f fd ps sp:=by
 obtain ⟨oc,od,kV,doc,pm,an,cdv,ct,osl,rfl,lk,hcd⟩:=F.ex
 exact zf7 lk hcd S len fun A outer s H vs Q E hr hsp=>hbody cdv A outer s H vs Q E hr hsp
end
end L2
namespace L2
open PySem PySem.Spec PyProof.Rows PySem.W PySem.Builtin PySem.Builtin.ObjectAttr
def valLine:List Value->Bool
 | [.type a,.type b,.type c,.type d]=>a == "ValueError" && b == "Exception" && c == "BaseException" && d == "object"
 | .ref _::r=>valLine r
 | _=>false
def lineIn (K:Frag) (C:Addr):Bool:=(clsIn K C).any fun cd=>valLine cd.mro
section
variable {prog:Program}{w:World}{A:Around}{E:Value->Shared->Prop}{K:Frag}{x C:Addr}{s:Shared}{R:Result->Shared->Prop}
end
section
variable {prog:Program}{w:World}{A:Around}{h:Heap}{g:Array GenState}{d:Drawn}{t:Nat}{os:OsState}{R:Result->Shared->Prop}
variable {nm q:Str}{C N f:Addr}{bs bm bmB:List Value}{hdct:Bool}{sn:List Str}{sub:List Value}{ab:Bool}{col:Option Bool}{dd:Option Addr}{k0 k1 k2 k3 k5:Option Value}{B newId initId:String}
end
def exO (C t:Addr) (d:Option Addr) (a:Addr):HO:=.ext fun h=>h.get? a=some { cls:=.ref C,dict:=d,data:=.fields #[.ref t,.none,.none,.none,.bool false,.none] }
structure ExCls (K:PySem.W.Frag) (C:Addr) (f:Str):Prop where
 sa:PySem.W.findIn K (.ref C) "__setattr__" = some (some (.builtin "object.__setattr__"))
 line:lineIn K C=true
 no:PySem.W.takerIn K C f=some none
 hd:PySem.W.hasDictIn K C=true
def zmT (K:PySem.W.Frag) (ta tv:TE) (f:Str):TS:=fun D σ H=>tv σ H fun y H1=>ta σ H1 fun x H2=>∃a C t,x=.ref a/\H2 a=some (exO C t none a)/\ExCls K C f /\
 ∀d,H2 d=none->D.nx σ (upd (upd H2 d (.xd [(f,y)])) a (exO C t (some d) a))
abbrev veLine:List Value:=[.type "ValueError", .type "Exception", .type "BaseException", .type "object"]
structure ExOf (K:Frag) (C:Addr):Prop where
 ob:∃nm q N bs bm hdct sn sub ab col dd k0 k1 k2 k3 k5,K.lookup C=some (excClassObj nm q C N bs bm hdct sn sub ab col dd k0 k1 k2 k3 k5 "ValueError.__new__")/\tailIn K veLine bm=true/\nsOkIn K N=true
 kp:keepIn K (.ref C)=true
structure ExMk (K:Frag) (C f:Addr):Prop where
 ob:∃nm q N bs bm hdct sn sub ab col dd k0 k1 k2 k3 k5,K.lookup C=some (excClassObj nm q C N bs bm hdct sn sub ab col dd k0 k1 k2 k3 k5 "ValueError.__new__")/\tailIn K veLine bm=true/\nsOkIn K N=true/\nsIn K N "__init__" = some (some (.ref f))
 fn:isFn K (.ref f)=true
 kp:keepIn K (.ref C)=true
section
variable {M:Model}{A:Around}{E:Value->Shared->Prop}{env:Env}{s:Shared}
end
section
variable {X:Cx}{CX:CXT}{k:Nat}{f C:Addr}{fd:FuncData}{ps:List Str}{sp:Sp}{E:XK}
def zmU (C:Addr) (f:Str):Sp:=fun vs H Q _=>∃a t y,vs=[.ref a,y]/\H a=some (exO C t none a)/\∀d,H d=none->Q .non (upd (upd H d (.xd [(f,y)])) a (exO C t (some d) a))
end
def XP (X:Cx) (pins:List (Addr×Obj)) (σ:St) (E:XK) (u:Value) (s':Shared):Prop:=∃(a C:Addr) (d:Option Addr) (H':Hp),u=.ref a/\Inv X pins σ H' s'/\Fly X pins H' s'.heap a C d/\E (.ref C) d H'
section
variable {X:Cx}{k:Nat}{f C:Addr}{fd:FuncData}{ps:List Str}{sp:Sp}{dvs:List V}{ds:List Value}{E:XK}{x m:Str}{p pos apos:Pos}{e o:Expr}{es:List Expr}{ta:TE}{t:TA}
end
def exC (C:Addr) (d:Option Addr) (a:Addr):HO:=.ext fun h=>∃T:Addr,XO h a (.ref C) d (.ref T)
section
variable {X:Cx}{pins:List (Addr×Obj)}{σ:St}{H:Hp}{s:Shared}{a C:Addr}{d:Option Addr}
end
section
variable {X:Cx}{pins:List (Addr×Obj)}{σ:St}{H:Hp}{s:Shared}{a C d:Addr}{fs:List (Str×V)}{A:Around}{E:Value->Shared->Prop}
def zmV (I:Inv X pins σ H s) (ha:H a=some (exC C (some d) a)) (hd:H d=some (.xd fs)):∃ox od,InstAt s.heap a ox C (some od)/\∀n,∃o,lookIn n od=some o/\RelO (fs.lookup n) o:=by
 obtain ⟨T,oe,vs,e,hc,hdi,hdt,_⟩:=(show ObjOk X.prog X.w H s.heap a (exC C (some d) a) from I.hok a _ ha).1
 obtain ⟨mA,hn,r⟩:=(show ObjOk X.prog X.w H s.heap d (.xd fs) from I.hok d _ hd)
 obtain ⟨od,ho,hl⟩:=zf1 hn
 refine ⟨oe,od,⟨e,hc,by unfold notCls;rw [hdt],by rw [hdi];exact ho⟩,fun n=>⟨mA n,hl n,r n⟩⟩
end
section
variable {prog:Program}{w:World}{A:Around}{E:Value->Shared->Prop}{h:Heap}{g:Array GenState}{d:Drawn}{t:Nat}{os:OsState}
variable {nm q:Str}{C N:Addr}{bs bm bmB:List Value}{hdct:Bool}{sn:List Str}{sub:List Value}{ab:Bool}{col:Option Bool}{dd:Option Addr}{k0 k1 k2 k3 k5:Option Value}{B newId initId:String}
end
def sRaise0 (C:Addr) (Er:XK):TS:=fun _ _ H=>Er (.ref C) none H
end L2
namespace L2
open PySem PySem.Spec PyProof.Rows PySem.W
def Noted (X:Cx) (pins:List (Addr×Obj)) (H:Hp) (h:Heap) (a C:Addr) (d:Option Addr):Prop :=
 ∃T,XO h a (.ref C) d (.ref T)/\T≠a/\TB h T (rawInt X.env.locals)/\OwnRec X pins H a/\OwnRec X pins H T
def zek (X:Cx) (pins:List (Addr×Obj)) (H:Hp) (h:Heap) (a C:Addr) (d:Option Addr):Prop:=Fly X pins H h a C d\/Noted X pins H h a C d
def za4 (X:Cx) (E:XK):Prop:=∀(pins:List (Addr×Obj)) (σ:St) (H:Hp) (s:Shared) (a C:Addr) (d:Option Addr),Inv X pins σ H s->zek X pins H s.heap a C d->E (.ref C) d H->X.xe (.ref a) s
def za4.one {X:Cx}{E:XK}(t:za4 X E):Throws X E:=fun pins σ H s a C d I F q=>t pins σ H s a C d I (.inl F) q
def XA (X:Cx) (Er:XK) (e:Value) (s:Shared):Prop:=∃(pins:List (Addr×Obj)) (σ:St) (H:Hp) (a C:Addr) (d:Option Addr),e=.ref a/\Inv X pins σ H s/\zek X pins H s.heap a C d/\Er (.ref C) d H
section
variable {X:Cx}{pins:List (Addr×Obj)}{σ:St}{H:Hp}{s:Shared}{a C:Addr}{d:Option Addr}{A:Around}{E:Value->Shared->Prop}{Q:Unit->Shared->Prop}{Er:XK}
def zI:za4 (X.wish (XA X Er)) Er:=fun pins σ H s a C d I F q=>⟨pins,σ,H,a,C,d,rfl,I.unwish,F,q⟩
def zgJ (I:Inv X pins σ H s) (hfr:A.frames=some X.stack) (hst:X.stack=X.env::X.outer) (hf:X.env.frame=some X.env.locals) (F:zek X pins H s.heap a C d)
  (h:∀s' T,Inv X pins σ H s'->XO s'.heap a (.ref C) d (.ref T)->T≠a->TB s'.heap T (rawInt X.env.locals)->OwnRec X pins H a->OwnRec X pins H T->Q () s'):wpAny (model X.prog X.w) A (noteFrame (.ref a) X.env) Q E s:=by
 rcases F with F|⟨T,x,ne,tb,oa,oT⟩
 ·exact zmR I hfr hst hf F h
 ·obtain ⟨oe,vs,e,_,_,hd,_,h1⟩:=id x
  obtain ⟨ot,ts,et,hdt,h3⟩:=id tb
  unfold noteFrame
  simp only [hf]
  refine zv (jg e hd h1 ?_)
  rw [zH (show (Value.ref T != Value.none)=true by simp)]
  refine zv (jg et hdt h3 ?_)
  rw [zH (by simp)]
  exact zR (h s T I x ne tb oa oT)
def zmW {T f:Addr}{fl:Value}(x:XO s.heap a (.ref C) d (.ref T)) (t:TB s.heap T fl) (ne:T≠a)
  (h:∀h',XO h' a (.ref C) d (.ref T)->TB h' T (rawInt f)->(∀b o,b≠T->s.heap.get? b=some o->h'.get? b=some o)->Q () { s with heap:=h' }) {M:Model}:wpAny M A (setFlight (.ref a) (some f)) Q E s:=by
 obtain ⟨oe,vs,e,_,_,hd,_,h1⟩:=id x
 obtain ⟨oT,ts,eT,hdT,h3⟩:=id t
 unfold setFlight
 refine zv (jg e hd h1 ?_)
 rw [zH (show (Value.ref T != Value.none)=true by simp)]
 refine wpAny_setField eT hdT (Array.getElem?_eq_some_iff.mp h3).1 ?_
 exact h _ (x.keeps fun o q=>(zah _ _ ne).trans q) (t.set3 _) fun b o nb q=>(zah _ _ (yJ nb)).trans q
def jB (hst:X.stack=X.env::X.outer) (hf:X.env.frame=some X.env.locals):PassesOwn (model X.prog X.w) X.A X.env (XA X Er):=by
 rintro e s ⟨pins,σ,H,a,C,d,rfl,I,F,q⟩
 unfold notedBy
 refine zgJ I I.ok.frames hst hf F fun s2 T I2 x2 ne tb2 oa oT=>?_
 unfold cameBackBy
 obtain ⟨oe,vs,e2,_,_,hd,_,h1⟩:=id x2
 refine zv (jg e2 hd h1 ?_)
 rw [zX (show ¬((Value.ref T==Value.none)=true) by simp),hf]
 refine zmW x2 tb2 ne fun h' x3 tb3 k3=>⟨pins,σ,H,a,C,d,rfl,?_,.inr ⟨T,x3,ne,tb3,oa,oT⟩,q⟩
 exact I2.turned (t':=s2.toks) (it:=T) (fun b o nb e=>k3 b o nb e) oT.1 oT.2.2.1 (.inr oT.2.1) oT.2.2.2.1 oT.2.2.2.2
def PSs.throwing {st:List Stmt}{t:TS}(h:PSs (X.wish (XA X Er)) st t) (ht:za4 X Er):PSs X st t:=fun pins s σ H D I hw =>
 jQ (h pins s σ H D (I.wish _) hw) (fun _ _ q=>q.unwish) fun e s' ⟨pins,σ,H,a,C,d,ee,I1,F,q⟩=>ee▸ht pins σ H s' a C d I1 F q
def zmX (t:za4 X Er):Passes (CXe X.prog X.w) X Er:=zmQ t.one
end
def zmY {P:Program}{w:World}{K:PySem.W.Frag}{mg:Str->Option Value}{base:Heap}{N:List Str}{qual:Str}{scope:Scope}{f:Addr}{cd:Value}{A:Around}{outer:List Env}{s:Shared}{H:Hp}{E:XK} :
  za4 (cxOf (CXe P w) P w K mg base N qual scope f cd A outer s H E) E:=by
 intro pins σ H1 s1 a C d I F q
 show wpAny (model P w) (A.deeper (envOfC qual scope s.heap.objs.size f cd)) (leaving (envOfC qual scope s.heap.objs.size f cd) (.ref a)) _ _ s1
 unfold leaving
 refine zv (zgJ I I.ok.frames rfl rfl F fun s2 T I2 x ne tb oa oT=>zmS I2 x ne tb oa oT fun s3 I3 x3 tb3=>?_)
 exact ⟨a,C,T,d,H1,rfl,I3.os,I3.bare,I3.base,I3.hok,x3,ne,tb3,⟨oa.2.1,oa.1⟩,⟨oT.2.1,oT.1⟩,q⟩
section
variable {P:Program}{w:World}{K:PySem.W.Frag}{mg:Str->Option Value}{base:Heap}
def Fun.okT {x qual:Str}{st:Stmt}{f:Addr}{fd:FuncData}{N ps:List Str}{k:Nat}{sp:Sp}(F:Fun K x qual st f fd) (S:FnScope N ps (zT st)) (len:∀vs H Q E,sp vs H Q E->vs.length=ps.length)
  (hbody:∀(cdv:Value) (A:Around) (outer:List Env) (s:Shared) (H:Hp) (vs:List V) (Q:VK) (E:XK),Room k (A.deeper (envOfC qual (zT st) s.heap.objs.size f cdv))->sp vs H Q E ->
   ∃t,PSs ((cxOf (CXe P w) P w K mg base N qual (zT st) f cdv A outer s H E).wish (XA (cxOf (CXe P w) P w K mg base N qual (zT st) f cdv A outer s H E) E)) (wf st) t/\t { nx:=fun _ H'=>Q .non H',rt:=Q } (start N vs) H):FnOk P w K mg base (CXe P w) (k+1) f fd ps sp :=
 Fun.okX F S len fun cdv A outer s H vs Q E hr hs=>let ⟨t,h1,h2⟩:=hbody cdv A outer s H vs Q E hr hs;⟨t,PSs.throwing h1 zmY,h2⟩
end
end L2
namespace L2
open PySem PySem.Spec PyProof.Rows PySem.W PySem.Builtin PySem.Builtin.ObjectAttr
section
variable {prog:Program}{w:World}{A:Around}{E:Value->Shared->Prop}{K:Frag}{x C:Addr}{s:Shared}{ox:Obj}{od:Option Obj}{name:Str}{tk:Tok}
structure ExGa (K:Frag) (C:Addr):Prop where
 ga:findIn K (.ref C) "__getattribute__" = some (some (.builtin "BaseException.__getattribute__"))
 hk:findIn K (.ref C) "__getattr__" = some none
 hB:mroIn K C (.type "BaseException")=some true
def zmZ {fill expr:Bool}{Q:Value->Shared->Prop}(X:K.In s.heap) (I:InstAt s.heap x ox C od) (G:ExGa K C)
  (h:wpAny (model prog w) A.in1 (Builtin.«object.__getattribute__» ⟨[.ref x,.str name tk],[]⟩) (fun fin s'=>∃v,fin=.done (.ret v)/\handedIn v=true/\Q v s') (fun _ _=>False) s) :
  wpAny (model prog w) A (getAttrBy (.ref x) (.str name tk) fill expr) Q E s:=by
 have L0:=I.type (M:=model prog w)
 have L1:=looks_findIn (M:=model prog w) X G.ga
 have L2:=looks_findIn (M:=model prog w) X G.hk
 have isB:Looks (model prog w) s.heap (isInstance (.ref x) (.type "BaseException")) true:=I.type.andThen (looks_mroIn X G.hB)
 unfold getAttrBy
 refine wb (zv (L0.here (zv (L1.here ?_))))
 dsimp only
 rw [zX (show ¬((onTheHeap (Value.ref C)&&Value.builtin "BaseException.__getattribute__" == Value.builtin "object.__getattribute__")=true) by
  rw [show (Value.builtin "BaseException.__getattribute__" == Value.builtin "object.__getattribute__")=false by decide +kernel,Bool.and_false];exact Bool.false_ne_true)]
 unfold getAttrByItsOwn hookBefore
 rw [zH (show onTheHeap (Value.ref C)=true from rfl)]
 refine zv (L2.here (zv (wpAny_attempt (wb ?_))))
 unfold callGetattribute
 rw [zX (show ¬((expr&&onTheHeap (Value.builtin "BaseException.__getattribute__"))=true) by cases expr<;>exact Bool.false_ne_true)]
 unfold boundAndCalled
 refine zv (wpAny_of_eq (PySem.F.excAttr_ValueError.ga.bind (.ref x)) ?_)
 refine wpAny_call (codeAny_call_builtin PySem.F.excAttr_ValueError.ga.plain PySem.F.entry_bexc_ga (@check_slot (model prog w) _ _ s "BaseException.__getattribute__" "BaseException" "__getattribute__" (.ref x) [.str name tk] [] _ (by decide +kernel) (by decide +kernel) isB (PySem.F.args_bexc_ga (.ref x) (.str name tk)) ?_))
 refine jQ h (fun fin s' ⟨v,ef,hv,q⟩=>?_) fun _ _ z=>z.elim
 subst ef
 show wpAny _ _ (handedOut v) _ _ _
 rw [handedOut_of hv]
 exact zR q
def zm0 {Q:Fin->Shared->Prop} (X:K.In s.heap) (I:InstAt s.heap x ox C od) (hf:findObj K C od "__class__" = some (.bind (.builtin "getset_descriptor.__get__") (.builtin "object.__class__"))) (hm:mroIn K C (.type "object")=some true)
  (h:Q (.done (.ret (.ref C))) s):wpAny (model prog w) A (Builtin.«object.__getattribute__» ⟨[.ref x,.str "__class__" tk],[]⟩) Q E s:=by
 have L0:=I.type (M:=model prog w)
 have L1:=looks_find (M:=model prog w) X I hf
 refine zv (zR (zv (zR (zv (L0.here (zv (L1.here ?_)))))))
 show wpAny _ _ (holding [.builtin "object.__class__"] (call (.builtin "getset_descriptor.__get__") [.builtin "object.__class__", .ref x,.ref C]) >>= ret) _ _ _
 exact zv (wb (wpAny_call (class_get (ox:=ox) (od:=od) X I hm (zR h))))
end
def zm1 {K:Frag} {x D:Addr} {ox:Obj} {od:Option Obj} (G:ExGa K D) (hcl:(clsIn K D).isSome=true) (hf:findObj K D od "__class__" = some (.bind (.builtin "getset_descriptor.__get__") (.builtin "object.__class__"))) (hm:mroIn K D (.type "object")=some true) :
  KitX K (.ref x) (.ref D) (fun h=>InstAt h x ox D od):=by
 obtain ⟨cd,hc⟩:=Option.isSome_iff_exists.mp hcl
 unfold clsIn at hc
 split at hc
 ·rename_i c' d' cd' sl' ho
  refine ⟨fun _ _ _ I=>I.type,fun M h X _=>?_,fun h tp dd its n sl X htp=>?_,fun {prog w A E Q s} X I k=>?_⟩
  ·intro A' Q' E' s' k q
   unfold isType loadHead
   exact zv (wpAny_loadPart (k _ _ (X _ _ ho)) (zR q))
  ·refine Bool.eq_false_iff.mpr fun q=>?_
   obtain rfl:D=tp:=Value.ref.inj (beq_iff_eq.mp q)
   have z:=(X _ _ ho).symm.trans htp
   cases z
  ·unfold getAttr? getAttrBy?
   refine zv (wpAny_mkText (zv (wpAny_attempt ?_)))
   exact zmZ (s:={ s with toks:=s.toks+1 }) X I G (zm0 (s:={ s with toks:=s.toks+1 }) X I hf hm ⟨_,rfl,rfl,zR k⟩)
 ·cases hc
structure ExIs (K:Frag) (C:Addr):Prop where
 g:ExGa K C
 hd:hasDictIn K C=true
 ha:findIn K (.ref C) "__class__" = some (some (.builtin "object.__class__"))
 hn:specialIn K (.builtin "object.__class__") "__get__" = some (some (.builtin "getset_descriptor.__get__"))
 tk:takesIn K (.builtin "object.__class__")=some true
 hm:mroIn K C (.type "object")=some true
section
variable {X:Cx}{pins:List (Addr×Obj)}{σ:St}{H:Hp}{s:Shared}{a C d:Addr}{fs:List (Str×V)}{A:Around}{E:Value->Shared->Prop}
def zm2 {c:Value}{b:Bool}{Q:Value->Shared->Prop}(I:Inv X pins σ H s) (ha:H a=some (exC C (some d) a)) (hd:H d=some (.xd fs)) (k:ExIs X.K C) (e:kitOne X.K (.ref C) c=some b) (h:∀tk,Q (.bool b) { s with toks:=tk }) :
  wpAny (model X.prog X.w) A (call (.builtin "isinstance") [.ref a,c]) Q E s:=by
 obtain ⟨ox,od,J,_⟩:=zmV I ha hd
 have cl:(clsIn X.K C).isSome=true:=by obtain ⟨cd,hc,_⟩:=any_some k.hd;rw [hc];rfl
 exact kia_one (zm1 k.g cl (findObj_data cl k.ha k.hn k.tk) k.hm) I.kIn J e (fun z=>nomatch z) h
end
end L2
namespace L2
open PySem PySem.Spec PyProof.Rows PySem.W
structure Ste (prog:Program) (w:World) (it src:Addr) (xs:Array Value) (St:Nat->Heap->Prop):Prop where
 at_:∀{k h h'},St k h->(∀o,h.get? it=some o->h'.get? it=some o)->(∀o,h.get? src=some o->h'.get? src=some o)->St k h'
 lt:∀{k h},St k h->it<h.objs.size
 item:∀{A:Around} {E:Value->Shared->Prop} {s:Shared} {k:Nat} {x:Value} {Q:Value->Shared->Prop},St k s.heap->xs[k]?=some x->(∀h',St (k+1) h'->Heap.SameBut it s.heap h'->Q x { s with heap:=h' }) ->
  wpAny (model prog w) A (Builtin.SmallTypes.nextOf (.ref it)) Q E s
 stop:∀{A:Around} {E:Value->Shared->Prop} {s:Shared} {k:Nat} {Q:Value->Shared->Prop},A.handled=none->St k s.heap->xs[k]?=none ->
  (∀h' e,Heap.ExtBut it s.heap h'->(∃o,h'.get? e=some o/\o.cls=.type "StopIteration")->E (.ref e) { s with heap:=h' })->wpAny (model prog w) A (Builtin.SmallTypes.nextOf (.ref it)) Q E s
def StT (it t:Addr) (xs:Array Value) (k:Nat) (h:Heap):Prop:=IsTupIter h it t k/\IsTup h t xs
def zdj {prog:Program}{w:World}{it t:Addr}{xs:Array Value}(ne:t≠it):Ste prog w it t xs (StT it t xs) where
 at_:=fun {k h h'} q k1 k2=>by
  obtain ⟨⟨o,ho,r⟩,⟨o',ho',r'⟩⟩:=q
  exact ⟨⟨o,k1 o ho,r⟩,⟨o',k2 o' ho',r'⟩⟩
 lt:=fun q=>let ⟨⟨_,ho,_⟩,_⟩:=q;yF ho
 item:=fun {A E s k x Q} q hx hQ=>by
  obtain ⟨hit,ht⟩:=q
  obtain ⟨o,ho,hc,hd⟩:=id hit
  obtain ⟨ol,hol,_,nl,hdl⟩:=id ht
  unfold Builtin.SmallTypes.nextOf
  refine zv (wpAny_callSpecial?_slot (name:=Str.ofString "__next__") hit.typeIs slot_tupleiter_next (wC slot_tupleiter_next hit.typeIs entry_tupleiter_next ?_ (args_tupleiter_next _)))
  change wpAny _ _ (field (.ref it) 0 >>= _) _ _ s
  refine zv (jg ho hd (x:=.ref t) rfl ?_)
  rw [zX (by simp)]
  change wpAny _ _ (field (.ref it) 1 >>= _) _ _ s
  refine zv (jg ho hd (x:=.int k 0) rfl ?_)
  change wpAny _ _ (seqItems? (.ref t) >>= _) _ _ s
  refine zv (wpAny_seqItems hol hdl ?_)
  simp only [hx,Int.toNat_natCast]
  have fl:=Obj.data_mapFields hd (·.setIfInBounds 1 (rawInt (k+1)))
  refine zv (wpAny_setField ho hd (by simp) (zR ⟨x,rfl,zR (hQ _ ⟨⟨_,Heap.get?_update_self _ ho (Obj.isFreed_of_fields fl),(Obj.cls_mapFields ..).trans hc,?_⟩,?_⟩ (Heap.SameBut.update ..))⟩))
  ·rw [fl];simp [rawInt]
  ·exact ht.extBut (Heap.SameBut.update ..).extBut ne
 stop:=fun {A E s k Q} hh q hx hE=>by
  obtain ⟨hit,ht⟩:=q
  obtain ⟨o,ho,hc,hd⟩:=id hit
  obtain ⟨ol,hol,_,nl,hdl⟩:=id ht
  unfold Builtin.SmallTypes.nextOf
  refine zv (wpAny_callSpecial?_slot (name:=Str.ofString "__next__") hit.typeIs slot_tupleiter_next (wC slot_tupleiter_next hit.typeIs entry_tupleiter_next ?_ (args_tupleiter_next _)))
  change wpAny _ _ (field (.ref it) 0 >>= _) _ _ s
  refine zv (jg ho hd (x:=.ref t) rfl ?_)
  rw [zX (by simp)]
  change wpAny _ _ (field (.ref it) 1 >>= _) _ _ s
  refine zv (jg ho hd (x:=.int k 0) rfl ?_)
  change wpAny _ _ (seqItems? (.ref t) >>= _) _ _ s
  refine zv (wpAny_seqItems hol hdl ?_)
  simp only [hx,Int.toNat_natCast]
  refine zv (zbn (zv (wpAny_setField ho hd (by simp) ?_)))
  change wpAny _ _ (newExc (.type "StopIteration") [] >>= _) _ _ _
  refine zv ?_
  simp only [newExc,newTuple]
  refine zv (wD (zv (m:=firstArgMember _ _) (wpAny_of_eq (a:=Value.none) (by first|rfl|(simp only [firstArgMember];rfl)) (wD ?_ (by size_fits)))) (by size_fits))
  simp only [raiseNew]
  refine zv (wpAny_handled ?_)
  first|rw [show A.in1.handled=none from hh]|rw [hh]
  exact zv (zR (wpAny_throw (hE _ _ (((Heap.SameBut.update ..).extBut.push _).push _) ⟨_,jv _ rfl,rfl⟩)))
section
variable {prog:Program}{w:World}{A:Around}{E:Value->Shared->Prop}{s:Shared}{z TI TO i1 i2 t1 t2:Addr}{k:Nat}{xs ys:Array Value}{x y a b:Value}{S1 S2:Nat->Heap->Prop}
def Ste.by_same (S:Ste prog w i1 t1 xs S1) {h h':Heap}{c:Addr}(q:S1 k h) (hs:Heap.SameBut c h h') (n1:i1≠c) (n2:t1≠c):S1 k h' :=
 S.at_ q (fun o e=>hs.extBut _ _ n1 e) fun o e=>hs.extBut _ _ n2 e
def zm3 {Q:Value->Shared->Prop}(D:ZipApart z TI TO i1 i2 t1 t2) (U1:Ste prog w i1 t1 xs S1) (U2:Ste prog w i2 t2 ys S2) (hz:IsZip s.heap z TI TO .none) (hTI:IsPair s.heap TI (.ref i1) (.ref i2)) (hTO:IsPair s.heap TO a b)
  (q1:S1 k s.heap) (q2:S2 k s.heap) (hx:xs[k]?=some x) (hy:ys[k]?=some y)
  (hQ:∀h',IsZip h' z TI TO (rawInt s.heap.objs.size)->IsPair h' TO x y->S1 (k+1) h'->S2 (k+1) h'->IsPair h' s.heap.objs.size x y ->
   (∀c o,c≠z->c≠TO->c≠i1->c≠i2->s.heap.get? c=some o->h'.get? c=some o)->Q (.ref s.heap.objs.size) { s with heap:=h' }) :
  wpAny (model prog w) A (Builtin.«zip.__next__» ⟨[.ref z],[]⟩) (fun fin s'=>∃v,fin=.done (.ret v)/\Q v s') E s:=by
 change wpAny _ _ (field (.ref z) 2 >>= _) _ _ _
 refine zv (jg hz rfl (x:=.bool false) rfl ?_)
 change wpAny _ _ (field (.ref z) 3 >>= _) _ _ _
 refine zv (jg hz rfl (x:=.ref TI) rfl (zv (wpAny_seqItems hTI rfl ?_)))
 change wpAny _ _ (Builtin.SmallTypes.ownedTupleIsFree (.ref z) >>= _) _ _ _
 refine zv ?_
 unfold Builtin.SmallTypes.ownedTupleIsFree
 refine zv (jg hz rfl (x:=.none) rfl (zR ?_))
 rw [zH rfl]
 refine zv (zbn (zv (jg hz rfl (x:=.ref TO) rfl (zv (wpAny_setField_rec hz (by simp) fun h1 z1 e1=>?_)))))
 replace z1:IsZip h1 z TI TO .ellipsis:=z1
 refine zv ?_
 simp only [List.zipIdx_cons,List.zipIdx_nil,List.forIn_cons,List.forIn_nil]
 refine zv (zv (wpAny_onRaise ?_))
 change wpAny _ _ (Builtin.SmallTypes.nextOf (.ref i1) >>= _) _ _ _
 refine zv (U1.item (U1.by_same q1 e1 D.i1z D.l1z) hx fun h2 p2 e2=>zR ?_)
 have o2:IsPair h2 TO a b:=e2.extBut _ _ D.TOi1 (e1.extBut _ _ D.TOz hTO)
 refine zv (wpAny_seqItems o2 rfl (zv (wpAny_updateSeq_pair o2 fun h3 o3 e3=>?_)))
 replace o3:IsPair h3 TO x b:=o3
 refine zv (wpAny_letGo (zR (zv (zv (wpAny_onRaise ?_)))))
 change wpAny _ _ (Builtin.SmallTypes.nextOf (.ref i2) >>= _) _ _ _
 have r3:S2 k h3:=U2.by_same (U2.by_same (U2.by_same q2 e1 D.i2z D.l2z) e2 D.i12.symm D.l2i1) e3 D.TOi2.symm D.l2TO
 refine zv (U2.item r3 hy fun h4 p4 e4=>zR ?_)
 have o4:IsPair h4 TO x b:=e4.extBut _ _ D.TOi2 o3
 refine zv (wpAny_seqItems o4 rfl (zv (wpAny_updateSeq_pair o4 fun h5 o5 e5=>?_)))
 replace o5:IsPair h5 TO x y:=o5
 refine zv (wpAny_letGo (zR (zR (zv (wpAny_seqItems o5 rfl (zv (wpAny_newTuple ?_)))))))
 have sz:h5.objs.size=s.heap.objs.size:=by rw [e5.1,e4.1,e3.1,e2.1,e1.1]
 have z5:IsZip h5 z TI TO .ellipsis:=e5.extBut _ _ D.TOz.symm (e4.extBut _ _ D.i2z.symm (e3.extBut _ _ D.TOz.symm (e2.extBut _ _ D.i1z.symm z1)))
 have k5:∀c o,c≠z->c≠TO->c≠i1->c≠i2->s.heap.get? c=some o->h5.get? c=some o:=fun c o c1 c2 c3 c4 e=>e5.extBut _ _ c2 (e4.extBut _ _ c4 (e3.extBut _ _ c2 (e2.extBut _ _ c3 (e1.extBut _ _ c1 e))))
 have f1:S1 (k+1) h5:=U1.by_same (U1.by_same (U1.by_same p2 e3 D.TOi1.symm D.l1TO) e4 D.i12 D.l1i2) e5 D.TOi1.symm D.l1TO
 have f2:S2 (k+1) h5:=U2.by_same p4 e5 D.TOi2.symm D.l2TO
 change wpAny _ _ (Builtin.SmallTypes.ownedTupleHandOut (.ref z) (.ref h5.objs.size) >>= _) _ _ _
 refine zv ?_
 unfold Builtin.SmallTypes.ownedTupleHandOut
 have z6:IsZip (h5.push { cls:=.type "tuple", data:=.seq #[x,y] }) z TI TO .ellipsis:=yv _ z5
 refine zv (wpAny_setField_rec z6 (by simp) fun h7 z7 e7=>?_)
 replace z7:IsZip h7 z TI TO (rawInt h5.objs.size):=z7
 refine wpAny_setField_rec z7 (by simp) fun h8 z8 e8=>?_
 replace z8:IsZip h8 z TI TO (rawInt h5.objs.size):=z8
 have up:∀c o,c≠z->h5.get? c=some o->h8.get? c=some o:=fun c o c1 e=>e8.extBut _ _ c1 (e7.extBut _ _ c1 (yv _ e))
 have nz:h5.objs.size≠z:=Nat.ne_of_gt (yF z5)
 have pT:IsPair h8 h5.objs.size x y:=e8.extBut _ _ nz (e7.extBut _ _ nz (jv _ rfl))
 rw [sz] at z8 pT
 refine zR ⟨_,rfl,?_⟩
 change Q (.ref h5.objs.size) _
 rw [sz]
 exact hQ h8 z8 (up _ _ D.TOz o5) (U1.at_ f1 (fun o e=>up _ o D.i1z e) fun o e=>up _ o D.l1z e) (U2.at_ f2 (fun o e=>up _ o D.i2z e) fun o e=>up _ o D.l2z e) pT fun c o c1 c2 c3 c4 e=>up c o c1 (k5 c o c1 c2 c3 c4 e)
def zm4 {Q:Fin->Shared->Prop}(hh:A.handled=none) (D:ZipApart z TI TO i1 i2 t1 t2) (U1:Ste prog w i1 t1 xs S1) (U2:Ste prog w i2 t2 ys S2) (hz:IsZip s.heap z TI TO .none) (hTI:IsPair s.heap TI (.ref i1) (.ref i2)) (hTO:IsPair s.heap TO a b)
  (q1:S1 k s.heap) (q2:S2 k s.heap) (he:xs[k]?=none\/ys[k]?=none)
  (hE:∀h' e,(∀c o,c≠z->c≠TO->c≠i1->c≠i2->s.heap.get? c=some o->h'.get? c=some o)->(∃o,h'.get? e=some o/\o.cls=.type "StopIteration")->E (.ref e) { s with heap:=h' }) :
  wpAny (model prog w) A (Builtin.«zip.__next__» ⟨[.ref z],[]⟩) Q E s:=by
 change wpAny _ _ (field (.ref z) 2 >>= _) _ _ _
 refine zv (jg hz rfl (x:=.bool false) rfl ?_)
 change wpAny _ _ (field (.ref z) 3 >>= _) _ _ _
 refine zv (jg hz rfl (x:=.ref TI) rfl (zv (wpAny_seqItems hTI rfl ?_)))
 change wpAny _ _ (Builtin.SmallTypes.ownedTupleIsFree (.ref z) >>= _) _ _ _
 refine zv ?_
 unfold Builtin.SmallTypes.ownedTupleIsFree
 refine zv (jg hz rfl (x:=.none) rfl (zR ?_))
 rw [zH rfl]
 refine zv (zbn (zv (jg hz rfl (x:=.ref TO) rfl (zv (wpAny_setField_rec hz (by simp) fun h1 z1 e1=>?_)))))
 replace z1:IsZip h1 z TI TO .ellipsis:=z1
 refine zv ?_
 simp only [List.zipIdx_cons,List.zipIdx_nil,List.forIn_cons,List.forIn_nil]
 refine zv (zv (wpAny_onRaise ?_))
 change wpAny _ _ (Builtin.SmallTypes.nextOf (.ref i1) >>= _) _ _ _
 have p1:=U1.by_same q1 e1 D.i1z D.l1z
 have nez:∀{h:Heap} {e:Addr} {oe:Obj},IsZip h z TI TO .ellipsis->h.get? e=some oe->oe.cls=.type "StopIteration" -> e≠z:=fun iz ho hc x=>by
  rw [x,iz] at ho
  cases ho
  simp at hc
 cases hx:xs[k]? with
 | none =>
  refine zv (U1.stop hh p1 hx fun h2 e e2 ⟨oe,hoe,hce⟩=>?_)
  have z2:IsZip h2 z TI TO .ellipsis:=e2 _ _ D.i1z.symm z1
  exact wpAny_setField_rec z2 (by simp) fun h3 _ e3=>hE h3 e (fun c o c1 _ c3 _ x=>e3.extBut _ _ c1 (e2 _ _ c3 (e1.extBut _ _ c1 x))) ⟨oe,e3.extBut _ _ (nez z2 hoe hce) hoe,hce⟩
 | some x =>
  have hy:ys[k]?=none:=by
   rcases he with h|h
   ·rw [hx] at h;cases h
   ·exact h
  refine zv (U1.item p1 hx fun h2 p2 e2=>zR ?_)
  have o2:IsPair h2 TO a b:=e2.extBut _ _ D.TOi1 (e1.extBut _ _ D.TOz hTO)
  refine zv (wpAny_seqItems o2 rfl (zv (wpAny_updateSeq_pair o2 fun h3 o3 e3=>?_)))
  refine zv (wpAny_letGo (zR (zv (zv (wpAny_onRaise ?_)))))
  change wpAny _ _ (Builtin.SmallTypes.nextOf (.ref i2) >>= _) _ _ _
  have r3:S2 k h3:=U2.by_same (U2.by_same (U2.by_same q2 e1 D.i2z D.l2z) e2 D.i12.symm D.l2i1) e3 D.TOi2.symm D.l2TO
  refine zv (U2.stop hh r3 hy fun h4 e e4 ⟨oe,hoe,hce⟩=>?_)
  have z4:IsZip h4 z TI TO .ellipsis:=e4 _ _ D.i2z.symm (e3.extBut _ _ D.TOz.symm (e2.extBut _ _ D.i1z.symm z1))
  exact wpAny_setField_rec z4 (by simp) fun h5 _ e5=>hE h5 e (fun c o c1 c2 c3 c4 x=>e5.extBut _ _ c1 (e4 _ _ c4 (e3.extBut _ _ c2 (e2.extBut _ _ c3 (e1.extBut _ _ c1 x))))) ⟨oe,e5.extBut _ _ (nez z4 hoe hce) hoe,hce⟩
end
section
variable {X:Cx}{pins:List (Addr×Obj)}{σ:St}{H:Hp}{s:Shared}{h':Heap}
def Inv.turnL {ch:List Addr}{t':Nat}(I:Inv X pins σ H s) (hc:∀b∈ch,FpOk X pins H b) (k:∀b o,b∉ch->s.heap.get? b=some o->h'.get? b=some o):Inv X pins σ H { s with heap:=h',toks:=t' }:=by
 have nch:∀b u,H b=some u->b∉ch:=fun b u e z=>by rw [(hc b z).1] at e;cases e
 refine I.step (g':=s.gens) (d':=s.drawn) (ch:=ch) (fun b hb=>?_) (fun b o _ _ nb e _=>k b o nb e) (fun b o _ _ nb e _=>⟨o.slots,k b o nb e⟩) (fun _ _ _ _ n=>n)
  (fun b o nb e=>⟨o,k b o nb e⟩) (fun _ _ e=>e) (fun _ _ _ e=>e) (fun b ps e=>⟨#[],by rw [e];simp⟩) (fun m hm=>?_) (fun b u e=>?_) I.bare
 ·obtain ⟨_,f1,_,f3,f4,f5⟩:=hc b hb
  exact ⟨f3,f1,f4,f5⟩
 ·obtain ⟨o,es,ep,ho,r⟩:=hm
  exact ⟨o,es,ep,k _ o (fun z=>(hc _ z).2.1 rfl) ho,r⟩
 ·refine (I.hok b u e).stay (fun c v hc' q=>k c v ?_ q) (fun _ q=>q) fun _ _ q=>q
  rcases hc' with z|z
  ·rw [z];exact nch b u e
  ·exact nch c _ z
def Inv.turnN {ch:List Addr}{T:Addr}{o:HO}{t':Nat}(I:Inv X pins σ H s) (hc:∀b∈ch,FpOk X pins H b) (k:∀b o,b∉ch->s.heap.get? b=some o->h'.get? b=some o) (hT:s.heap.objs.size<=T)
  (new:ObjOk X.prog X.w (upd H T o) h' T o):Inv X pins σ (upd H T o) { s with heap:=h',toks:=t' }:=by
 have fT:H T=none:=I.hok.fresh hT
 have nch:∀b u,H b=some u->b∉ch:=fun b u e z=>by rw [(hc b z).1] at e;cases e
 have nT:∀b u,H b=some u->b≠T:=fun b u e z=>by rw [z,fT] at e;cases e
 refine I.step (g':=s.gens) (d':=s.drawn) (ch:=ch) (fun b hb=>?_) (fun b o _ _ nb e _=>k b o nb e) (fun b o _ _ nb e _=>⟨o.slots,k b o nb e⟩) (fun b u _ e n=>?_)
  (fun b o nb e=>⟨o,k b o nb e⟩) (fun b xs e=>?_) (fun b u v e=>?_) (fun b ps e=>⟨#[],?_⟩) (fun m hm=>?_) (fun b u e=>?_) I.bare
 ·obtain ⟨_,f1,_,f3,f4,f5⟩:=hc b hb
  exact ⟨f3,f1,f4,f5⟩
 ·rw [yj (jr (j0 (yF e) hT))];exact n
 ·rw [yj (nT b _ e)];exact e
 ·rw [yj (nT b _ e)];exact e
 ·rw [yj (nT b _ e),e];simp
 ·obtain ⟨o,es,ep,ho,r⟩:=hm
  exact ⟨o,es,ep,k _ o (fun z=>(hc _ z).2.1 rfl) ho,r⟩
 ·by_cases z:b=T
  ·rw [z] at e ⊢
   rw [jA] at e
   cases e
   exact new
  ·rw [yj z] at e
   refine (I.hok b u e).stay (fun c v hc' q=>k c v ?_ q) (fun c q=>by rw [yj (nT c _ q)];exact q) fun c xs q=>by rw [yj (nT c _ q)];exact q
   rcases hc' with z|z
   ·rw [z];exact nch b u e
   ·exact nch c _ z
end
def Itz (K:Frag) (a b:Addr):It :=
 ⟨fun i H=>∃xs ys x y,SqT K H a xs/\SqT K H b ys/\xs[i]?=some x/\ys[i]?=some y,
  fun i H v H'=>∃T x y,H T=none/\v=.ref T/\H'=upd H T (.tup [x,y])/\(∀xs,SqT K H a xs->xs[i]?=some x)/\∀ys,SqT K H b ys->ys[i]?=some y,
  fun i H=>∃xs ys,SqT K H a xs/\SqT K H b ys/\(xs.length<=i\/ys.length<=i)⟩
def Zst (z TI TO i1 i2 a b:Addr) (k:Nat) (h:Heap):Prop:=IsZip h z TI TO .none/\IsPair h TI (.ref i1) (.ref i2)/\(∃u v,IsPair h TO u v)/\IsTupIter h i1 a k/\IsTupIter h i2 b k
def zdk {X:Cx}{pins:List (Addr×Obj)}{σ:St}{H:Hp}{s:Shared}{a c:Addr}{xs:List V}(I:Inv X pins σ H s) (hf:FpOk X pins H c) (hq:SqT X.K H a xs):a≠c:=by
 rintro rfl
 rcases hq with q|⟨o,its,n,hl,_⟩
 ·rcases q with q|⟨ob,q⟩<;>(rw [hf.1] at q;cases q)
 ·have e:=I.ok.mod.kin _ _ hl
  rcases hf.2.2.2.1 with z|z
  ·exact I.ok.noex _ _ e z
  ·exact absurd (j0 (yF (I.ok.bs _ _ e).1) z) (Nat.lt_irrefl _)
structure Five (z TI TO i1 i2:Addr):Prop where
 TIz:TI≠z
 TOz:TO≠z
 i1z:i1≠z
 i2z:i2≠z
 TITO:TI≠TO
 TIi1:TI≠i1
 TIi2:TI≠i2
 TOi1:TO≠i1
 TOi2:TO≠i2
 i12:i1≠i2
def zm5 {P:Program}{w:World}{K:Frag}{elts:List Expr}{kt:Nat}{pos:Pos}{z TI TO i1 i2 a b:Addr}(V5:Five z TI TO i1 i2):Turn P w K (.Tuple elts kt pos) (Itz K a b) [z,TI,TO,i1,i2] z (Zst z TI TO i1 i2 a b) where
 mem:=by simp
 obj:=fun i h st c hc=>by
  obtain ⟨hz,hTI,⟨u,v,hTO⟩,⟨o1,e1,_,d1⟩,⟨o2,e2,_,d2⟩⟩:=st
  simp only [yQ,List.not_mem_nil,yA] at hc
  rcases hc with q|q|q|q|q<;>rw [q]
  ·exact ⟨_,hz,fun v z=>by cases z⟩
  ·exact ⟨_,hTI,fun v z=>by cases z⟩
  ·exact ⟨_,hTO,fun v z=>by cases z⟩
  ·exact ⟨_,e1,fun v z=>by rw [d1] at z;cases z⟩
  ·exact ⟨_,e2,fun v z=>by rw [d2] at z;cases z⟩
 keep:=fun i h h' st k=>by
  obtain ⟨hz,hTI,⟨u,v,hTO⟩,⟨o1,e1,r1⟩,⟨o2,e2,r2⟩⟩:=st
  exact ⟨k z (by simp) _ hz,k TI (by simp) _ hTI,⟨u,v,k TO (by simp) _ hTO⟩,⟨o1,k i1 (by simp) _ e1,r1⟩,⟨o2,k i2 (by simp) _ e2,r2⟩⟩
 item:=by
  intro X hP hw hK hc i pins s σ H E I hf st hg
  subst hP hw hK
  obtain ⟨xs,ys,x,y,hq1,hq2,hx,hy⟩:=hg
  obtain ⟨hz,hTI,⟨u0,v0,hTO⟩,hi1,hi2⟩:=st
  obtain ⟨its1,rv1,p1,_⟩:=I.tuple hq1
  obtain ⟨its2,rv2,p2,_⟩:=I.tuple hq2
  obtain ⟨u,hu,ru⟩:=rv1.get hx
  obtain ⟨v,hv,rv⟩:=rv2.get hy
  have n1:∀c∈[z,TI,TO,i1,i2],a≠c:=fun c h=>zdk I (hf c h) hq1
  have n2:∀c∈[z,TI,TO,i1,i2],b≠c:=fun c h=>zdk I (hf c h) hq2
  have D:ZipApart z TI TO i1 i2 a b:=⟨V5.TIz,V5.TOz,V5.i1z,V5.i2z,V5.TITO,V5.TIi1,V5.TIi2,V5.TOi1,V5.TOi2,V5.i12,n1 z (by simp),n1 TO (by simp),n1 i1 (by simp),n1 i2 (by simp),n2 z (by simp),n2 TO (by simp),n2 i1 (by simp),n2 i2 (by simp)⟩
  have hT:s.TypeIs (.ref z) "zip" := ⟨_,hz,rfl⟩
  unfold pyNext
  refine zv (wpAny_attempt (wpAny_callSpecial?_slot (name:=Str.ofString "__next__") hT F.slot_zip_next (wC F.slot_zip_next hT F.entry_zip_next
   (zm3 D (zdj D.l1i1) (zdj D.l2i2) hz hTI hTO ⟨hi1,p1⟩ ⟨hi2,p2⟩ (by simpa using hu) (by simpa using hv) fun h1 z1 o1 f1 f2 pT kk=>zR ⟨_,rfl,?_⟩) (F.args_zip_next_1 _))))
  refine wpAny_letOwnedTupleGo_zip (s:={ s with heap:=h1 }) z1 fun h2 z2 e2=>?_
  have fr:H s.heap.objs.size=none:=I.hok.fresh (yf _)
  have up:∀c o,c≠z->h1.get? c=some o->h2.get? c=some o:=fun c o n e=>e2.extBut _ _ n e
  have nz:s.heap.objs.size≠z:=Nat.ne_of_gt (yF hz)
  have k2:∀c o,c∉[z,TI,TO,i1,i2]->s.heap.get? c=some o->h2.get? c=some o:=fun c o nc e =>
   up c o (fun q=>nc (by simp [q])) (kk c o (fun q=>nc (by simp [q])) (fun q=>nc (by simp [q])) (fun q=>nc (by simp [q])) (fun q=>nc (by simp [q])) e)
  refine ⟨.ref s.heap.objs.size,upd H s.heap.objs.size (.tup [x,y]),?_,rfl,⟨s.heap.objs.size,x,y,fr,rfl,rfl,fun xs' h'=>by rw [I.tuple_inj h' hq1];exact hx,fun ys' h'=>by rw [I.tuple_inj h' hq2];exact hy⟩,?_,fun c hc'=>?_⟩
  ·exact Inv.turnN (s:=s) (h':=h2) (t':=s.toks) I hf k2 (yf _) ⟨show 2<=sizeLine by decide,[u,v],.cons ru (.cons rv .nil),_,up _ _ nz pT,rfl,_,rfl⟩
  ·exact ⟨z2,up _ _ D.TIz (kk _ _ D.TIz D.TITO D.TIi1 D.TIi2 hTI),⟨_,_,up _ _ D.TOz o1⟩,(let ⟨o,e,r⟩:=f1.1;⟨o,up _ _ D.i1z e,r⟩),(let ⟨o,e,r⟩:=f2.1;⟨o,up _ _ D.i2z e,r⟩)⟩
  ·have q:c≠s.heap.objs.size:=by
    have lt:∃o,s.heap.get? c=some o:=by
     simp only [yQ,List.not_mem_nil,yA] at hc'
     rcases hc' with q|q|q|q|q<;>rw [q]
     ·exact ⟨_,hz⟩
     ·exact ⟨_,hTI⟩
     ·exact ⟨_,hTO⟩
     ·exact let ⟨o,e,_⟩:=hi1;⟨o,e⟩
     ·exact let ⟨o,e,_⟩:=hi2;⟨o,e⟩
    obtain ⟨o,e⟩:=lt
    exact jr (yF e)
   rw [yj q]
   exact (hf c hc').1
 done:=by
  intro X hP hw hK hc i pins s σ H E I hf st hg
  subst hP hw hK
  obtain ⟨xs,ys,hq1,hq2,hx⟩:=hg
  obtain ⟨hz,hTI,⟨u0,v0,hTO⟩,hi1,hi2⟩:=st
  obtain ⟨its1,rv1,p1,_⟩:=I.tuple hq1
  obtain ⟨its2,rv2,p2,_⟩:=I.tuple hq2
  have l1:=rv1.length
  have l2:=rv2.length
  have n1:∀c∈[z,TI,TO,i1,i2],a≠c:=fun c h=>zdk I (hf c h) hq1
  have n2:∀c∈[z,TI,TO,i1,i2],b≠c:=fun c h=>zdk I (hf c h) hq2
  have D:ZipApart z TI TO i1 i2 a b:=⟨V5.TIz,V5.TOz,V5.i1z,V5.i2z,V5.TITO,V5.TIi1,V5.TIi2,V5.TOi1,V5.TOi2,V5.i12,n1 z (by simp),n1 TO (by simp),n1 i1 (by simp),n1 i2 (by simp),n2 z (by simp),n2 TO (by simp),n2 i1 (by simp),n2 i2 (by simp)⟩
  have hT:s.TypeIs (.ref z) "zip" := ⟨_,hz,rfl⟩
  unfold pyNext
  refine zv (wpAny_attempt (wpAny_callSpecial?_slot (name:=Str.ofString "__next__") hT F.slot_zip_next (wC F.slot_zip_next hT F.entry_zip_next
   (zm4 (I.ok.hd hc) D (zdj D.l1i1) (zdj D.l2i2) hz hTI hTO ⟨hi1,p1⟩ ⟨hi2,p2⟩ (hx.imp (fun h=>by simp;omega) fun h=>by simp;omega) fun h1 e kk he=>?_) (F.args_zip_next_1 _))))
  obtain ⟨o,ho,hco⟩:=he
  refine zv (wpAny_isInstance (T := "StopIteration") (b:=true) ⟨o,ho,hco⟩ isSubtype_stop ?_)
  exact zR ⟨rfl,Inv.turnL (t':=s.toks) I hf fun c o nc e=>kk c o (fun q=>nc (by simp [q])) (fun q=>nc (by simp [q])) (fun q=>nc (by simp [q])) (fun q=>nc (by simp [q])) e⟩
 self:=fun _ _ _ _ _ st h=>wpAny_pyIter_zip st.1 h
abbrev zt1 (h:Heap) (a:Addr):Heap:=h.push { cls:=.type "tuple_iterator", data:=.fields #[.ref a,.int 0 0] }
abbrev zt2 (h:Heap) (a b:Addr):Heap:=(zt1 h a).push { cls:=.type "tuple_iterator", data:=.fields #[.ref b,.int 0 0] }
abbrev zt3 (h:Heap) (a b:Addr):Heap:=(zt2 h a b).push { cls:=.type "tuple", data:=.seq #[.ref h.objs.size,.ref (zt1 h a).objs.size] }
abbrev zt4 (h:Heap) (a b:Addr):Heap:=(zt3 h a b).push { cls:=.type "tuple", data:=.seq #[.none,.none] }
abbrev zt5 (h:Heap) (a b:Addr):Heap:=(zt4 h a b).push { cls:=.type "zip", data:=.fields #[.none,.bool false,.bool false,.ref (zt2 h a b).objs.size,.ref (zt3 h a b).objs.size] }
def zm6 (a b:Addr) (xs ys:Array Value) :
  Meets (Builtin.«zip.__new__» ⟨[.type "zip", .ref a,.ref b],[]⟩) (fun _ R s=>IsTup s.heap a xs/\IsTup s.heap b ys/\R (.ok (.ret (.ref (zt4 s.heap a b).objs.size))) { s with heap:=zt5 s.heap a b }) :=
 .of_wp fun prog w A R s h=>by
  obtain ⟨hp,g,d,tk,os⟩:=s
  obtain ⟨h1,h2,h⟩:=h
  have hsub:=sub_zip
  have H1:IsTup (Shared.heap ⟨hp,g,d,tk,os⟩) a xs:=h1
  have H2:IsTup (Shared.heap ⟨hp.push { cls:=.type "tuple_iterator", data:=.fields #[.ref a,.int 0 0] },g,d,tk,os⟩) b ys:=h2.push _
  wp_walk using iter_tuple H1,iter_tuple H2
  exact ⟨_,rfl,h⟩
section
variable {prog:Program}{w:World}{A:Around}{E:Value->Shared->Prop}{s:Shared}
def zm7 {a b:Addr}{xs ys:Array Value}{Q:Value->Shared->Prop}(h1:IsTup s.heap a xs) (h2:IsTup s.heap b ys)
  (h:Zst (s.heap.objs.size+4) (s.heap.objs.size+2) (s.heap.objs.size+3) s.heap.objs.size (s.heap.objs.size+1) a b 0 (zt5 s.heap a b)->Q (.ref (s.heap.objs.size+4)) { s with heap:=zt5 s.heap a b }) :
  wpAny (model prog w) A (call (.type "zip") [.ref a,.ref b]) Q E s:=by
 refine callType_new F.called_zip (by decide) (F.typeCall_zip_2 _ _) (F.newCall_zip_2 _ _) (fun obj=>F.args_object_init_3 obj _ _) F.entry_zip_new (zm6 a b xs ys) ⟨h1,h2,?_⟩
 have z1:(zt1 s.heap a).objs.size=s.heap.objs.size+1:=Heap.size_push ..
 have z2:(zt2 s.heap a b).objs.size=s.heap.objs.size+2:=by rw [Heap.size_push,z1]
 have z3:(zt3 s.heap a b).objs.size=s.heap.objs.size+3:=by rw [Heap.size_push,z2]
 have z4:(zt4 s.heap a b).objs.size=s.heap.objs.size+4:=by rw [Heap.size_push,z3]
 have g5:(zt5 s.heap a b).get? (zt4 s.heap a b).objs.size=some _:=jv _ rfl
 have g4:(zt5 s.heap a b).get? (zt3 s.heap a b).objs.size=some _:=yv _ (jv _ rfl)
 have g3:(zt5 s.heap a b).get? (zt2 s.heap a b).objs.size=some _:=yv _ (yv _ (jv _ rfl))
 have g2:(zt5 s.heap a b).get? (zt1 s.heap a).objs.size=some _:=yv _ (yv _ (yv _ (jv _ rfl)))
 have g1:(zt5 s.heap a b).get? s.heap.objs.size=some _:=yv _ (yv _ (yv _ (yv _ (jv _ rfl))))
 show _/\_
 rw [z2,z3,z4] at g5
 rw [z1,z2] at g3
 rw [z3] at g4
 rw [z1] at g2
 rw [z4]
 exact ⟨⟨_,g5,rfl⟩,h ⟨g5,g3,⟨_,_,g4⟩,⟨_,g1,rfl,rfl⟩,⟨_,g2,rfl,rfl⟩⟩⟩
end
def zm8:bootBuiltins "zip" = some (.type "zip"):=by decide +kernel
def zm9 (K:Frag) (ta:TA):TI:=fun σ H R=>ta σ H fun vs H1=>∃a b,vs=[.ref a,.ref b]/\(∃xs,SqT K H1 a xs)/\(∃ys,SqT K H1 b ys)/\R (Itz K a b) H1
def zna {X:Cx} {elts:List Expr} {kt:Nat} {tp:Pos} {x y:Expr} {ta:TA} {p pos:Pos} (hg:Gl X "zip") (hm:X.mg "zip" = none) (ha:PA X [x,y] ta) (hs:starEach [x,y] X.env=[(false,eval x X.env),(false,eval y X.env)]:=by rfl) (hs2:starEach [y] X.env=[(false,eval y X.env)]:=by rfl) :
  PI X (.Tuple elts kt tp) (.Call (.Name "zip" p) [x,y] [] pos) (zm9 X.K ta):=by
 intro pins s σ H R I h
 refine Call_ (zch I hg hm zm8 (PyProof.Rows.callWith_type1 (thn (ha pos pins s σ H _ I h) fun us s1 ⟨vs,H1,I1,r1,q1⟩=>?_) (by rw [hs,hs2]) (by rw [hs2];rfl)))
 obtain ⟨a,b,e,⟨xs,hq1⟩,⟨ys,hq2⟩,q⟩:=q1
 subst e
 obtain ⟨u,v,rfl,ru,rv⟩:=zdc r1
 obtain rfl:u=Value.ref a:=ru
 obtain rfl:v=Value.ref b:=rv
 obtain ⟨its1,_,p1,_⟩:=I1.tuple hq1
 obtain ⟨its2,_,p2,_⟩:=I1.tuple hq2
 refine zm7 p1 p2 fun st=>wpAny_pyIter_zip st.1 ?_
 have kk:∀c o,s1.heap.get? c=some o->(zt5 s1.heap a b).get? c=some o:=fun c o e=>yv _ (yv _ (yv _ (yv _ (yv _ e))))
 refine ⟨_,[s1.heap.objs.size+4,s1.heap.objs.size+2,s1.heap.objs.size+3,s1.heap.objs.size,s1.heap.objs.size+1],_,_,H1,rfl,I1.kept (t':=s1.toks) kk,zm5 ?_,st,fun c hc=>?_,q⟩
 ·have ne:∀(n i j:Nat),i≠j->n+i≠n+j:=fun n i j h z=>h (Nat.add_left_cancel z)
  have ne0:∀(n i:Nat),i≠0->n+i≠n:=fun n i h z=>h (by omega)
  exact ⟨ne _ 2 4 (by decide),ne _ 3 4 (by decide),(ne0 _ 4 (by decide)).symm,ne _ 1 4 (by decide),ne _ 2 3 (by decide),ne0 _ 2 (by decide),ne _ 2 1 (by decide),ne0 _ 3 (by decide),ne _ 3 1 (by decide),(ne0 _ 1 (by decide)).symm⟩
 ·have le:s1.heap.objs.size<=c:=by
   simp only [yQ,List.not_mem_nil,yA] at hc
   rcases hc with q|q|q|q|q<;>rw [q]<;>first|exact yf _|exact Nat.le_add_right _ _
  exact I1.fpOk le (I1.hok.fresh le)
structure KD (X:Cx) (a:Addr):Prop where
 ob:∃es n,X.K.lookup a=some ⟨.type "dict", none,.dict es n,#[]⟩/\KeysLit X.w.params es.toList
 no:(a==sysModules)=false
section
variable {X:Cx}
end
end L2
namespace Mi
open PySem L2 PySem.W
inductive PV where
 | non|bl (b:Bool)|int (i:Int)|str (x:Str)|ty (n:String)
 | tup (xs:List PV)|frl (xs:List PV)|ref (n:Nat)|fn (x:Str)|kd (ks:List Str) (xs:List PV)|exo (c:Str) (ks:List Str) (xs:List PV)
inductive SO where
 | lst (xs:List PV)|dic (ks:List Str) (xs:List PV)|ins (c:Str) (ks:List Str) (xs:List PV)|fdi (ks:List Str) (xs:List PV)
abbrev Sto:=List SO
inductive Res (α:Type) where
 | ok (a:α) (st:Sto)|err (c:Str) (ks:List Str) (xs:List PV) (st:Sto)|stuck
abbrev Mo (α:Type):=Sto->Res α
def Res.bind {α β:Type}:Res α->(α->Mo β)->Res β
 | .ok a st,f=>f a st
 | .err c ks xs st,_=>.err c ks xs st
 | .stuck,_=>.stuck
abbrev zk:=List (Option PV)
def KDs (K:Frag) (a:Addr) (ks:List Str) (us:List Value):Prop:=∀z,nsIn K a z=some ((ks.zip us).lookup z)
def FrL (K:Frag) (H:Hp) (a:Addr) (vs:List V):Prop :=
 (∃o,H a=some (.frz o (.lst vs)))\/∃(o:Obj) (its:Array Value) (n:Nat),K.lookup a=some o/\o.cls=.type "list" /\ o.dict=none/\o.data=.seq its n/\its.size<=sizeLine/\Vals vs its.toList
def FrL.sq {K:Frag}{H:Hp}{a:Addr}{vs:List V}(h:FrL K H a vs):SqL K H a vs:=by
 rcases h with ⟨o,h⟩|h
 ·exact .inl (.inr ⟨o,h⟩)
 ·exact .inr h
section
variable (K:Frag) (mg:Str->Option Value)
mutual
def R (ρ:List Addr) (H:Hp):PV->V->Prop
 | .non,v=>v=.non
 | .bl b,v=>v=.bl b
 | .int i,v=>v=.int i
 | .str x,v=>v=.str x
 | .ty n,v=>v=.ty n
 | .tup xs,v=>∃a vs,v=.ref a/\SqT K H a vs/\Rs ρ H xs vs
 | .frl xs,v=>∃a vs,v=.ref a/\FrL K H a vs/\Rs ρ H xs vs
 | .ref n,v=>∃a,v=.ref a/\ρ[n]?=some a
 | .fn x,v=>∃f,v=.ref f/\mg x=some (.ref f)
 | .kd ks xs,v=>∃a us vs,v=.ref a/\KDs K a ks us/\Vals vs us/\Rs ρ H xs vs
 | .exo c ks xs,v=>∃a C d vs,v=.ref a/\mg c=some (.ref C)/\H a=some (exC C (some d) a)/\H d=some (.xd (ks.zip vs))/\Rs ρ H xs vs/\ks.length=vs.length
def Rs (ρ:List Addr) (H:Hp):List PV->List V->Prop
 | [],vs=>vs=[]
 | x::xs,vs=>∃v r,vs=v::r/\R ρ H x v/\Rs ρ H xs r
end
def SoR (ρ:List Addr) (H:Hp):SO->Addr->Prop
 | .lst xs,a=>∃vs,H a=some (.lst vs)/\Rs K mg ρ H xs vs
 | .dic ks xs,a=>∃vs,H a=some (.dK ((ks.map Sum.inr).zip vs))/\Rs K mg ρ H xs vs/\ks.length=vs.length
 | .ins c ks xs,a=>∃C dx vs,mg c=some (.ref C)/\H a=some (.ins C dx (ks.zip vs))/\Rs K mg ρ H xs vs/\ks.length=vs.length
 | .fdi ks xs,a=>∃o vs,H a=some (.frz o (.dK ((ks.map Sum.inr).zip vs)))/\Rs K mg ρ H xs vs/\ks.length=vs.length
structure StR (ρ:List Addr) (H:Hp) (st:Sto):Prop where
 len:ρ.length=st.length
 nd:ρ.Nodup
 at_:∀(n:Nat) so,st[n]?=some so->∃a,ρ[n]?=some a/\SoR K mg ρ H so a
def Imm:HO->Bool
 | .tup _=>true
 | .frz _ _=>true
 | .xd _=>true
 | .ext _=>true
 | _=>false
structure Ext (ρ:List Addr) (H:Hp) (ah:List Addr) (H':Hp):Prop where
 pre:∃δ,ah=ρ++δ
 imm:∀a o,H a=some o->Imm o=true->H' a=some o
def XR (ρ:List Addr) (H:Hp) (c:Str) (ks:List Str) (xs:List PV) (Cv:Value) (d:Option Addr):Prop :=
 ∃C,Cv=.ref C/\mg c=some (.ref C)/\((ks=[]/\d=none)\/∃dd vs,d=some dd/\H dd=some (.xd (ks.zip vs))/\Rs K mg ρ H xs vs/\ks.length=vs.length)
def Out {α:Type}(ρ:List Addr) (H:Hp) (r:Res α) (good:List Addr->Hp->α->Sto->Prop) (E:XK):Prop :=
 match r with
 | .ok x st=>∀ah H',Ext ρ H ah H'->StR K mg ah H' st->good ah H' x st
 | .err c ks xs st=>∀ah H' C d,Ext ρ H ah H'->StR K mg ah H' st->XR K mg ah H' c ks xs C d->E C d H'
 | .stuck=>False
structure EnvR (ρ:List Addr) (H:Hp) (env:zk) (σ:St):Prop where
 len:env.length=σ.length
 at_:∀(i:Nat) x,env[i]?=some (some x)->∃v,σ[i]?=some (some v)/\R K mg ρ H x v
def gV (Q:VK):List Addr->Hp->PV->Sto->Prop:=fun ρ H x _=>∀v,R K mg ρ H x v->Q v H
def gVs (Q:List V->Hp->Prop):List Addr->Hp->List PV->Sto->Prop:=fun ρ H x _=>∀v,Rs K mg ρ H x v->Q v H
def gB (Q:Bool->Hp->Prop):List Addr->Hp->Bool->Sto->Prop:=fun _ H x _=>Q x H
inductive Fl where
 | nx (env:zk)|rt (x:PV)|bk (env:zk)|ct (env:zk)
def gS (D:Ends):List Addr->Hp->Fl->Sto->Prop:=fun ρ H x _ =>
 match x with
 | .nx env=>∀σ,EnvR K mg ρ H env σ->D.nx σ H
 | .rt x=>∀v,R K mg ρ H x v->D.rt v H
 | .bk env=>∀σ,EnvR K mg ρ H env σ->D.bk σ H
 | .ct env=>∀σ,EnvR K mg ρ H env σ->D.ct σ H
end
section
variable {K:Frag}{mg:Str->Option Value}{ρ ag au:List Addr}{H H1 H2:Hp}
def Ext.refl:Ext ρ H ρ H:=⟨⟨[],by simp⟩,fun _ _ h _=>h⟩
def Ext.trans (a:Ext ρ H ag H1) (b:Ext ag H1 au H2):Ext ρ H au H2:=by
 obtain ⟨⟨d,hd⟩,i⟩:=a
 obtain ⟨⟨d',hd'⟩,i'⟩:=b
 exact ⟨⟨d++d',by rw [hd',hd,zcg]⟩,fun a o h m=>i' a o (i a o h m) m⟩
def Ext.get (a:Ext ρ H ag H1) {n:Nat}{p:Addr}(h:ρ[n]?=some p):ag[n]?=some p:=by
 obtain ⟨⟨d,hd⟩,_⟩:=a
 rw [hd,zaG (yI.mp h).1]
 exact h
def Ext.sqT (e:Ext ρ H ag H1) {a:Addr}{xs:List V}(h:SqT K H a xs):SqT K H1 a xs:=by
 rcases h with (h|⟨o,h⟩)|h
 ·exact .inl (.inl (e.imm _ _ h rfl))
 ·exact .inl (.inr ⟨o,e.imm _ _ h rfl⟩)
 ·exact .inr h
def Ext.frl (e:Ext ρ H ag H1) {a:Addr}{xs:List V}(h:FrL K H a xs):FrL K H1 a xs:=by
 rcases h with ⟨o,h⟩|h
 ·exact .inl ⟨o,e.imm _ _ h rfl⟩
 ·exact .inr h
mutual
def R.ext (e:Ext ρ H ag H1):∀(x:PV) {v:V},R K mg ρ H x v->R K mg ag H1 x v
 | .non,_,h=>h
 | .bl _,_,h=>h
 | .int _,_,h=>h
 | .str _,_,h=>h
 | .ty _,_,h=>h
 | .tup xs,_,h=>by
  obtain ⟨a,vs,h1,h2,h3⟩:=h
  exact ⟨a,vs,h1,e.sqT h2,Rs.ext e xs h3⟩
 | .frl xs,_,h=>by
  obtain ⟨a,vs,h1,h2,h3⟩:=h
  exact ⟨a,vs,h1,e.frl h2,Rs.ext e xs h3⟩
 | .ref n,_,h=>by
  obtain ⟨a,h1,h2⟩:=h
  exact ⟨a,h1,e.get h2⟩
 | .fn _,_,h=>h
 | .kd ks xs,_,h=>by
  obtain ⟨a,us,vs,h1,h2,h4,h3⟩:=h
  exact ⟨a,us,vs,h1,h2,h4,Rs.ext e xs h3⟩
 | .exo c ks xs,_,h=>by
  obtain ⟨a,C,d,vs,h1,h2,h3,h4,h5,h6⟩:=h
  exact ⟨a,C,d,vs,h1,h2,e.imm _ _ h3 rfl,e.imm _ _ h4 rfl,Rs.ext e xs h5,h6⟩
def Rs.ext (e:Ext ρ H ag H1):∀(xs:List PV) {vs:List V},Rs K mg ρ H xs vs->Rs K mg ag H1 xs vs
 | [],_,h=>h
 | x::xs,_,h=>by
  obtain ⟨v,r,h1,h2,h3⟩:=h
  exact ⟨v,r,h1,R.ext e x h2,Rs.ext e xs h3⟩
end
def EnvR.ext (e:Ext ρ H ag H1) {env:zk}{σ:St}(h:EnvR K mg ρ H env σ):EnvR K mg ag H1 env σ :=
 ⟨h.len,fun i x hx=>let ⟨v,a,b⟩:=h.at_ i x hx;⟨v,a,R.ext e x b⟩⟩
def Rs.len:∀{xs:List PV}{vs:List V},Rs K mg ρ H xs vs->xs.length=vs.length
 | [],_,h=>by cases h;rfl
 | x::xs,_,h=>by
  obtain ⟨v,r,rfl,_,h3⟩:=h
  simp [Rs.len h3]
def Rs.get:∀{xs:List PV}{vs:List V}{i:Nat}{x:PV},Rs K mg ρ H xs vs->xs[i]?=some x->∃v,vs[i]?=some v/\R K mg ρ H x v
 | [],_,_,_,_,e=>by simp at e
 | x::xs,_,0,_,h,e=>by
  obtain ⟨v,r,rfl,h2,h3⟩:=h
  simp at e
  subst e
  exact ⟨v,by simp,h2⟩
 | x::xs,_,i+1,y,h,e=>by
  obtain ⟨v,r,rfl,h2,h3⟩:=h
  simp at e
  obtain ⟨v',h4,h5⟩:=Rs.get h3 e
  exact ⟨v',by simpa using h4,h5⟩
def Rs.append:∀{xs ys:List PV}{vs ws:List V},Rs K mg ρ H xs vs->Rs K mg ρ H ys ws->Rs K mg ρ H (xs++ys) (vs++ws)
 | [],_,_,_,h,h'=>by cases h;exact h'
 | x::xs,_,_,_,h,h'=>by
  obtain ⟨v,r,rfl,h2,h3⟩:=h
  exact ⟨v,r++_,rfl,h2,Rs.append h3 h'⟩
def Rs.take:∀{xs:List PV}{vs:List V}(n:Nat),Rs K mg ρ H xs vs->Rs K mg ρ H (xs.take n) (vs.take n)
 | [],_,n,h=>by cases h;simp [Rs]
 | x::xs,_,0,h=>by simp [Rs]
 | x::xs,_,n+1,h=>by
  obtain ⟨v,r,rfl,h2,h3⟩:=h
  exact ⟨v,_,rfl,h2,Rs.take n h3⟩
def Rs.drop:∀{xs:List PV}{vs:List V}(n:Nat),Rs K mg ρ H xs vs->Rs K mg ρ H (xs.drop n) (vs.drop n)
 | [],_,n,h=>by cases h;simp [Rs]
 | x::xs,_,0,h=>h
 | x::xs,_,n+1,h=>by
  obtain ⟨v,r,rfl,h2,h3⟩:=h
  exact Rs.drop n h3
def Rs.set:∀{xs:List PV}{vs:List V}{x:PV}{v:V}(i:Nat),Rs K mg ρ H xs vs->R K mg ρ H x v->Rs K mg ρ H (xs.set i x) (vs.set i v)
 | [],_,_,_,i,h,_=>by cases h;simp [Rs]
 | x::xs,_,_,_,0,h,q=>by
  obtain ⟨v,r,rfl,h2,h3⟩:=h
  exact ⟨_,_,rfl,q,h3⟩
 | x::xs,_,_,_,i+1,h,q=>by
  obtain ⟨v,r,rfl,h2,h3⟩:=h
  exact ⟨_,_,rfl,h2,Rs.set i h3 q⟩
def EnvR.set {env:zk}{σ:St}{x:PV}{v:V}(h:EnvR K mg ρ H env σ) (i:Nat) (r:R K mg ρ H x v):EnvR K mg ρ H (env.set i (some x)) (σ.set i (some v)):=by
 refine ⟨by simp [h.len],fun j y hy=>?_⟩
 rw [List.getElem?_set] at hy ⊢
 by_cases hij:i=j
 ·subst hij
  by_cases hl:i<env.length
  ·rw [zH rfl,zH hl] at hy
   rw [zH rfl,zH (by rw [<-h.len];exact hl)]
   cases hy
   exact ⟨v,rfl,r⟩
  ·rw [zH rfl,zX hl] at hy
   cases hy
 ·rw [zX hij] at hy ⊢
  exact h.at_ j y hy
def EnvR.cons {env:zk}{σ:St}{x:PV}{v:V}(h:EnvR K mg ρ H env σ) (r:R K mg ρ H x v):EnvR K mg ρ H (some x::env) (some v::σ):=by
 refine ⟨by simp [h.len],fun j y hy=>?_⟩
 cases j with
 | zero=>simp at hy;subst hy;exact ⟨v,by simp,r⟩
 | succ j=>simp at hy;simpa using h.at_ j y hy
def StR.addr {st:Sto}{n:Nat}{so:SO}(s:StR K mg ρ H st) (e:st[n]?=some so) {a:Addr}(ha:ρ[n]?=some a):SoR K mg ρ H so a:=by
 obtain ⟨b,hb,h⟩:=s.at_ n so e
 rw [ha] at hb
 cases hb
 exact h
def SoR.some {so:SO}{a:Addr}(h:SoR K mg ρ H so a):∃o,H a=some o/\True:=by
 cases so with
 | lst xs=>obtain ⟨vs,h,_⟩:=h;exact ⟨_,h,trivial⟩
 | dic ks xs=>obtain ⟨vs,h,_⟩:=h;exact ⟨_,h,trivial⟩
 | ins c ks xs=>obtain ⟨C,dx,vs,_,h,_⟩:=h;exact ⟨_,h,trivial⟩
 | fdi ks xs=>obtain ⟨o,vs,h,_⟩:=h;exact ⟨_,h,trivial⟩
def StR.in_ {st:Sto}{n:Nat}{a:Addr}(s:StR K mg ρ H st) (h:ρ[n]?=some a):∃so,st[n]?=some so/\SoR K mg ρ H so a:=by
 have hl:n<st.length:=by rw [<-s.len];exact (yI.mp h).1
 refine ⟨st[n],by simp [hl],s.addr (by simp [hl]) h⟩
def SoR.ext' {so:SO}{a:Addr}(e:Ext ρ H ag H1) (h:SoR K mg ρ H so a) (k:H1 a=H a):SoR K mg ag H1 so a:=by
 cases so with
 | lst xs=>obtain ⟨vs,h1,h2⟩:=h;exact ⟨vs,by rw [k];exact h1,Rs.ext e xs h2⟩
 | dic ks xs=>obtain ⟨vs,h1,h2,h3⟩:=h;exact ⟨vs,by rw [k];exact h1,Rs.ext e xs h2,h3⟩
 | ins c ks xs=>obtain ⟨C,dx,vs,h0,h1,h2,h3⟩:=h;exact ⟨C,dx,vs,h0,by rw [k];exact h1,Rs.ext e xs h2,h3⟩
 | fdi ks xs=>obtain ⟨o,vs,h1,h2,h3⟩:=h;exact ⟨o,vs,by rw [k];exact h1,Rs.ext e xs h2,h3⟩
def Ext.new {p:Addr}{o:HO}(hp:H p=none):Ext ρ H ρ (upd H p o) :=
 ⟨⟨[],by simp⟩,fun a o' h _=>by rw [yj (w5 h hp)];exact h⟩
def StR.new {st:Sto}{p:Addr}{o:HO}(s:StR K mg ρ H st) (hp:H p=none):StR K mg ρ (upd H p o) st :=
 ⟨s.len,s.nd,fun n so e=>by
  obtain ⟨a,ha,h⟩:=s.at_ n so e
  obtain ⟨o',ho,_⟩:=h.some
  exact ⟨a,ha,h.ext' (Ext.new hp) (yj (w5 ho hp))⟩⟩
def Ext.push {p:Addr}{o:HO}(hp:H p=none):Ext ρ H (ρ++[p]) (upd H p o) :=
 ⟨⟨[p],rfl⟩,fun a o' h _=>by rw [yj (w5 h hp)];exact h⟩
def StR.push {st:Sto}{p:Addr}{o:HO}{so:SO}(s:StR K mg ρ H st) (hp:H p=none) (n:SoR K mg (ρ++[p]) (upd H p o) so p):StR K mg (ρ++[p]) (upd H p o) (st++[so]):=by
 refine ⟨by simp [s.len],?_,fun i so' e=>?_⟩
 ·refine List.nodup_append.mpr ⟨s.nd,by simp,fun a ha b hb=>?_⟩
  obtain rfl:b=p:=by simpa using hb
  obtain ⟨n,hn⟩:=List.getElem?_of_mem ha
  obtain ⟨so',_,h⟩:=s.in_ hn
  obtain ⟨o',ho,_⟩:=h.some
  exact w5 ho hp
 ·by_cases hi:i<st.length
  ·rw [zaG hi] at e
   obtain ⟨a,ha,h⟩:=s.at_ i so' e
   obtain ⟨o',ho,_⟩:=h.some
   exact ⟨a,(Ext.push (o:=o) hp).get ha,h.ext' (Ext.push hp) (yj (w5 ho hp))⟩
  ·rw [zaW (by omega)] at e
   have hi':i=st.length:=by
    have:=(yI.mp e).1
    simp at this
    omega
   subst hi'
   simp at e
   subst e
   exact ⟨p,by rw [<-s.len];simp,n⟩
def Ext.write {a:Addr}{o o':HO}(ha:H a=some o) (hi:Imm o=false):Ext ρ H ρ (upd H a o') :=
 ⟨⟨[],by simp⟩,fun b u h m=>by
  rw [yj]
  ·exact h
  ·intro z;subst z;rw [ha] at h;cases h;rw [hi] at m;cases m⟩
def StR.write {st:Sto}{n:Nat}{a:Addr}{o':HO}{so:SO}(s:StR K mg ρ H st) (hn:ρ[n]?=some a) (ew:Ext ρ H ρ (upd H a o')) (h:SoR K mg ρ (upd H a o') so a):StR K mg ρ (upd H a o') (st.set n so):=by
 refine ⟨by simp [s.len],s.nd,fun i so' e=>?_⟩
 rw [List.getElem?_set] at e
 by_cases hij:n=i
 ·subst hij
  rw [zH rfl] at e
  split at e
  ·cases e;exact ⟨a,hn,h⟩
  ·cases e
 ·rw [zX hij] at e
  obtain ⟨b,hb,q⟩:=s.at_ i so' e
  have ne:b≠a:=by
   intro z
   subst z
   obtain ⟨h1,h2⟩:=yI.mp hn
   obtain ⟨h3,h4⟩:=yI.mp hb
   have pw:=List.pairwise_iff_getElem.mp s.nd
   rcases Nat.lt_trichotomy n i with c|c|c
   ·exact pw n i h1 h3 c (h2.trans h4.symm)
   ·exact hij c
   ·exact pw i n h3 h1 c (h4.trans h2.symm)
  exact ⟨b,hb,q.ext' ew (yj ne)⟩
section
variable {α β:Type}{E:XK}{good:List Addr->Hp->α->Sto->Prop}
def Out.ext {r:Res α}(h:Out K mg ρ H r good E) (e:Ext ρ H ag H1):Out K mg ag H1 r good E:=by
 cases r with
 | ok x st=>exact fun ah H' e' s=>h ah H' (e.trans e') s
 | err c ks xs st=>exact fun ah H' C d e' s x=>h ah H' C d (e.trans e') s x
 | stuck=>exact h
def Out.mono {r:Res α}{good':List Addr->Hp->α->Sto->Prop}(h:Out K mg ρ H r good E) (g:∀ah H' x st,Ext ρ H ah H'->StR K mg ah H' st->good ah H' x st->good' ah H' x st):Out K mg ρ H r good' E:=by
 cases r with
 | ok x st=>exact fun ah H' e' s=>g ah H' x st e' s (h ah H' e' s)
 | err c ks xs st=>exact h
 | stuck=>exact h
def Out.bind {r:Res β}{f:β->Mo α}(h:Out K mg ρ H (r.bind f) good E):Out K mg ρ H r (fun ah H' x st=>Out K mg ah H' (f x st) good E) E:=by
 cases r with
 | ok x st=>exact fun ah H' e' s=>Out.ext h e'
 | err c ks xs st=>exact h
 | stuck=>exact h
def Out.then {r:Res β}{f:β->Mo α}{good':List Addr->Hp->β->Sto->Prop}(h:Out K mg ρ H (r.bind f) good E) (g:∀ah H' x st,Ext ρ H ah H'->StR K mg ah H' st->Out K mg ah H' (f x st) good E->good' ah H' x st):Out K mg ρ H r good' E:=h.bind.mono g
def Out.now {x:α}{st:Sto}(h:Out K mg ρ H (.ok x st) good E) (s:StR K mg ρ H st):good ρ H x st:=h ρ H Ext.refl s
end
end
end Mi
namespace Mi
open PySem L2 PySem.W PySem.Spec
abbrev lim:Nat:=1000000
def jt {n:Nat}(h:n<=lim):n<=sizeLine:=by rw [sizeLine_eq];show n<=16777216;exact yS h (by decide)
section
variable (K:Frag) (mg:Str->Option Value)
def tM (Er:XK) (f:zk->Mo PV):TE:=fun σ H Q=>∃env st ρ,EnvR K mg ρ H env σ/\StR K mg ρ H st/\Out K mg ρ H (f env st) (gV K mg Q) Er
def tMB (Er:XK) (f:zk->Mo Bool):TT:=fun σ H Q=>∃env st ρ,EnvR K mg ρ H env σ/\StR K mg ρ H st/\Out K mg ρ H (f env st) (gB Q) Er
def tMA (Er:XK) (f:zk->Mo (List PV)):TA:=fun σ H Q=>∃env st ρ,EnvR K mg ρ H env σ/\StR K mg ρ H st/\Out K mg ρ H (f env st) (gVs K mg Q) Er
def sM (Er:XK) (f:zk->Mo Fl):TS:=fun D σ H=>∃env st ρ,EnvR K mg ρ H env σ/\StR K mg ρ H st/\Out K mg ρ H (f env st) (gS K mg D) Er
end
def ME (X:Cx) (Er:XK) (e:Expr) (f:zk->Mo PV):Prop:=PE X e (tM X.K X.mg Er f)
def MT (X:Cx) (Er:XK) (e:Expr) (f:zk->Mo Bool):Prop:=PT X e (tMB X.K X.mg Er f)
def MW (X:Cx) (Er:XK) (e:Expr) (f:zk->Mo Bool):Prop:=PW X e (tMB X.K X.mg Er f)
def MA (X:Cx) (Er:XK) (e:List Expr) (f:zk->Mo (List PV)):Prop:=PA X e (tMA X.K X.mg Er f)
def MS (X:Cx) (Er:XK) (e:Stmt) (f:zk->Mo Fl):Prop:=PS X e (sM X.K X.mg Er f)
def MSs (X:Cx) (Er:XK) (e:List Stmt) (f:zk->Mo Fl):Prop:=PSs X e (sM X.K X.mg Er f)
section
variable {X:Cx}{Er:XK}{e a b c:Expr}{es:List Expr}{pos:Pos}{t t':TE}
def PE.weak (h:PE X e t) (w:∀σ H Q,t' σ H Q->t σ H Q):PE X e t':=fun pins s σ H Q I q=>h pins s σ H Q I (w σ H Q q)
def PT.weak {t t':TT}(h:PT X e t) (w:∀σ H Q,t' σ H Q->t σ H Q):PT X e t':=fun pins s σ H Q I q=>h pins s σ H Q I (w σ H Q q)
def PW.weak {t t':TT}(h:PW X e t) (w:∀σ H Q,t' σ H Q->t σ H Q):PW X e t':=fun wh pins s σ H Q I q=>h wh pins s σ H Q I (w σ H Q q)
def PA.weak {t t':TA}(h:PA X es t) (w:∀σ H Q,t' σ H Q->t σ H Q):PA X es t':=fun pos pins s σ H Q I q=>h pos pins s σ H Q I (w σ H Q q)
def PS.weak {st:Stmt}{t t':TS}(h:PS X st t) (w:∀D σ H,t' D σ H->t D σ H):PS X st t':=fun pins s σ H D I q=>h pins s σ H D I (w D σ H q)
def PSs.weak {st:List Stmt}{t t':TS}(h:PSs X st t) (w:∀D σ H,t' D σ H->t D σ H):PSs X st t':=fun pins s σ H D I q=>h pins s σ H D I (w D σ H q)
def zd (i:Nat):zk->Mo PV:=fun env st=>match env[i]? with
 | some (some x)=>.ok x st
 | _=>.stuck
def mC (x:PV):zk->Mo PV:=fun _ st=>.ok x st
def zg (i:Nat) {x:Str} {pos:Pos} (hN:X.N[i]?=some x:=by rfl) (hv:Vis X.env.scope x:=by first|exact Or.inl rfl|exact Or.inr (Or.inl rfl)|exact Or.inr (Or.inr rfl)) (hd:(x==("__debug__" : Str))=false:=by decide)
  (hcd:(x==("__classdict__" : Str))=false:=by decide):ME X Er (.Name x pos) (zd i):=PE.weak (zfS hN hv hd hcd) fun σ H Q ⟨env,st,ρ,re,rs,h⟩=>by
 unfold zd at h
 split at h
 ·rename_i x' hx
  obtain ⟨v,h1,h2⟩:=re.at_ i x' hx
  exact ⟨v,h1,h.now rs v h2⟩
 ·exact h.elim
def zcq {x:PV}{v:V}(hp:PE X e (tC v)) (hr:∀ρ H,R X.K X.mg ρ H x v):ME X Er e (mC x):=PE.weak hp fun σ H Q ⟨env,st,ρ,re,rs,h⟩=>h.now rs v (hr ρ H)
def zo {i:Int}{j}:ME X Er (.Constant (.int i) j pos) (mC (.int i)):=zcq zkh fun _ _=>rfl
def zY {x:Str}{j}:ME X Er (.Constant (.str x) j pos) (mC (.str x)):=zcq zkk fun _ _=>rfl
def zbQ {b:Bool}{j}:ME X Er (.Constant (.bool b) j pos) (mC (.bl b)):=zcq zki fun _ _=>rfl
def zel {j}:ME X Er (.Constant .none j pos) (mC .non):=zcq zkj fun _ _=>rfl
def OpM (K:Frag) (mg:Str->Option Value) (r:R2) (op:PV->PV->Mo PV):Prop:=∀ρ H st x y v w (Q:VK) (E:XK),StR K mg ρ H st->R K mg ρ H x v->R K mg ρ H y w->Out K mg ρ H (op x y st) (gV K mg Q) E->r v w H Q
def zj (op:PV->PV->Mo PV) (fa fb:zk->Mo PV):zk->Mo PV:=fun env st=>(fa env st).bind fun x st1=>(fb env st1).bind fun y st2=>op x y st2
variable {fa fb fc:zk->Mo PV}
def zdp {r:R2}{op:PV->PV->Mo PV}{K:Frag}{mg:Str->Option Value}(hm:OpM K mg r op) {σ:St}{H:Hp}{Q:VK}(h:tM K mg Er (zj op fa fb) σ H Q):tOp r (tM K mg Er fa) (tM K mg Er fb) σ H Q:=by
 obtain ⟨env,st,ρ,re,rs,h⟩:=h
 exact ⟨env,st,ρ,re,rs,h.then fun ag H1 x st1 e1 s1 h1 v rv=>⟨env,st1,ag,re.ext e1,s1,h1.then fun au H2 y st2 e2 s2 h2 w rw=>hm au H2 st2 x y v w Q Er s2 (R.ext e2 x rv) rw h2⟩⟩
def znd {o:Operator}{r:R2}{op:PV->PV->Mo PV}(ho:OpR X (binaryOp o) r) (hm:OpM X.K X.mg r op) (ha:ME X Er a fa) (hb:ME X Er b fb):ME X Er (.BinOp a o b pos) (zj op fa fb) :=
 PE.weak (zk2 ho ha hb) fun σ H Q h=>zdp hm h
def zne {o:CmpOp}{r:R2}{op:PV->PV->Mo PV}(ho:OpR X (compareOp o) r) (hm:OpM X.K X.mg r op) (ha:ME X Er a fa) (hb:ME X Er b fb) (hk:behindInMarks o b=false):ME X Er (.Compare a [o] [b] pos) (zj op fa fb) :=
 PE.weak (zlh ho ha hb hk) fun σ H Q h=>zdp hm h
def asB:PV->Mo Bool
 | .bl b,st=>.ok b st
 | _,_=>.stuck
def mB (f:zk->Mo PV):zk->Mo Bool:=fun env st=>(f env st).bind asB
def znf {K:Frag}{mg:Str->Option Value}{ρ:List Addr}{H:Hp}{x:PV}{st:Sto}{Q:Bool->Hp->Prop}(s:StR K mg ρ H st) (h:Out K mg ρ H (asB x st) (gB Q) Er) {v:V}(r:R K mg ρ H x v):∃k,v=.bl k/\Q k H:=by
 unfold asB at h
 split at h
 ·cases r;exact ⟨_,rfl,h.now s⟩
 ·exact h.elim
def zgK {α:Type}{K:Frag}{mg:Str->Option Value}{ρ:List Addr}{H:Hp}{x:PV}{st:Sto}{f:Bool->Mo α}{good:List Addr->Hp->α->Sto->Prop}(h:Out K mg ρ H ((asB x st).bind f) good Er):∃k,x=.bl k/\Out K mg ρ H (f k st) good Er:=by
 cases x with
 | bl k=>exact ⟨k,rfl,h⟩
 | _=>exact h.elim
def zgL {f:zk->Mo PV}{K:Frag}{mg:Str->Option Value}{σ:St}{H:Hp}{Q:Bool->Hp->Prop}(h:tMB K mg Er (mB f) σ H Q):tM K mg Er f σ H fun x H1=>∃c,x=.bl c/\Q c H1:=by
 obtain ⟨env,st,ρ,re,rs,h⟩:=h
 exact ⟨env,st,ρ,re,rs,h.then fun ag H1 x st1 e1 s1 h1 v rv=>znf s1 h1 rv⟩
def zng {o:CmpOp}{r:R2}{op:PV->PV->Mo PV}(ho:OpR X (compareOp o) r) (hm:OpM X.K X.mg r op) (ha:ME X Er a fa) (hb:ME X Er b fb) (hk:behindInMarks o b=false):MT X Er (.Compare a [o] [b] pos) (mB (zj op fa fb)) :=
 PT.weak (zlj ho ha hb hk) fun σ H Q h=>zdp hm (zgL h)
def wF (h:ME X Er e fa) (he:∀whole,isTrue e X.env whole=(do let v <-whole;standAt e.pos;holding [v] (truthy v)):=by intro _;rfl):MT X Er e (mB fa) :=
 PT.weak (zkn h he) fun σ H Q h=>zgL h
def UnM (K:Frag) (mg:Str->Option Value) (r:V->Hp->VK->Prop) (op:PV->Mo PV):Prop:=∀ρ H st x v (Q:VK) (E:XK),StR K mg ρ H st->R K mg ρ H x v->Out K mg ρ H (op x st) (gV K mg Q) E->r v H Q
def ju (op:PV->Mo PV) (fa:zk->Mo PV):zk->Mo PV:=fun env st=>(fa env st).bind op
def znh {o:UnaryOp}{r:V->Hp->VK->Prop}{op:PV->Mo PV}(ho:UnR X (unaryOp o) r) (hm:UnM X.K X.mg r op) (ha:ME X Er a fa):ME X Er (.UnaryOp o a pos) (ju op fa) :=
 PE.weak (zk3 ho ha) fun σ H Q ⟨env,st,ρ,re,rs,h⟩=>⟨env,st,ρ,re,rs,h.then fun ag H1 x st1 e1 s1 h1 v rv=>hm ag H1 st1 x v Q Er s1 rv h1⟩
variable {ga gb:zk->Mo Bool}{rest:List Expr}
def w8 (ga gb:zk->Mo Bool):zk->Mo Bool:=fun env st=>(ga env st).bind fun c st1=>if c=true then gb env st1 else .ok false st1
def j1 (ga gb:zk->Mo Bool):zk->Mo Bool:=fun env st=>(ga env st).bind fun c st1=>if c=true then .ok true st1 else gb env st1
def wg (ga:zk->Mo Bool):zk->Mo Bool:=fun env st=>(ga env st).bind fun c st1=>.ok (!c) st1
def zcr (ha:MT X Er a ga):MW X Er (.BoolOp .And [a] pos) ga:=zkr ha
def zaJ (ha:MT X Er a ga):MW X Er (.BoolOp .Or [a] pos) ga:=zks ha
def zcs (ha:MT X Er a ga) (hb:MW X Er (.BoolOp .And (b::rest) pos) gb):MW X Er (.BoolOp .And (a::b::rest) pos) (w8 ga gb) :=
 PW.weak (zkt ha hb) fun σ H Q ⟨env,st,ρ,re,rs,h⟩=>⟨env,st,ρ,re,rs,h.then fun ag H1 k st1 e1 s1 h1=>by
  cases k with
  | true=>exact ⟨env,st1,ag,re.ext e1,s1,h1⟩
  | false=>exact h1.now s1⟩
def zaK (ha:MT X Er a ga) (hb:MW X Er (.BoolOp .Or (b::rest) pos) gb):MW X Er (.BoolOp .Or (a::b::rest) pos) (j1 ga gb) :=
 PW.weak (zku ha hb) fun σ H Q ⟨env,st,ρ,re,rs,h⟩=>⟨env,st,ρ,re,rs,h.then fun ag H1 k st1 e1 s1 h1=>by
  cases k with
  | false=>exact ⟨env,st1,ag,re.ext e1,s1,h1⟩
  | true=>exact h1.now s1⟩
def ww {op:BoolOp}(h:MW X Er (.BoolOp op es pos) ga):MT X Er (.BoolOp op es pos) ga:=PW.pt h
def za5 (ha:MT X Er a ga):MT X Er (.UnaryOp .Not a pos) (wg ga):=PT.weak (zkv ha) fun σ H Q ⟨env,st,ρ,re,rs,h⟩=>⟨env,st,ρ,re,rs,h.then fun ag H1 k st1 e1 s1 h1=>h1.now s1⟩
def zam (fa fb:zk->Mo PV):zk->Mo PV:=fun env st=>(fa env st).bind fun x st1=>(asB x st1).bind fun c st2=>if c=true then fb env st2 else .ok (.bl false) st2
def zem (fa:zk->Mo PV):zk->Mo PV:=fun env st=>(fa env st).bind fun x st1=>(asB x st1).bind fun c st2=>.ok (.bl (!c)) st2
def zct {op}(h:ME X Er a fa):ME X Er (.BoolOp op [a] pos) fa:=zky h
def zbR (ha:ME X Er a fa) (hb:ME X Er (.BoolOp .And (b::rest) pos) fb):ME X Er (.BoolOp .And (a::b::rest) pos) (zam fa fb) :=
 PE.weak (zkz ha hb) fun σ H Q ⟨env,st,ρ,re,rs,h⟩=>⟨env,st,ρ,re,rs,h.then fun ag H1 x st1 e1 s1 h1 v rv=>by
  obtain ⟨k,rfl,h1⟩:=zgK h1
  cases rv
  refine ⟨k,rfl,?_⟩
  cases k with
  | true=>exact ⟨env,st1,ag,re.ext e1,s1,h1⟩
  | false=>exact Out.now (x:=PV.bl false) h1 s1 _ rfl⟩
def zni (ha:ME X Er a fa):ME X Er (.UnaryOp .Not a pos) (zem fa) :=
 PE.weak (zkA ha) fun σ H Q ⟨env,st,ρ,re,rs,h⟩=>⟨env,st,ρ,re,rs,h.then fun ag H1 x st1 e1 s1 h1 v rv=>by
  obtain ⟨k,rfl,h1⟩:=zgK h1
  cases rv
  exact ⟨k,rfl,Out.now (x:=PV.bl (!k)) h1 s1 _ rfl⟩⟩
def zh:zk->Mo (List PV):=fun _ st=>.ok [] st
def zc (f:zk->Mo PV) (fs:zk->Mo (List PV)):zk->Mo (List PV):=fun env st=>(f env st).bind fun x st1=>(fs env st1).bind fun xs st2=>.ok (x::xs) st2
variable {fs:zk->Mo (List PV)}
def zn:MA X Er [] zh:=PA.weak zcm fun σ H Q ⟨env,st,ρ,re,rs,h⟩=>h.now rs [] rfl
def zgM (ha:ME X Er e fa) (hr:MA X Er es fs) (hs:starEach (e::es) X.env=(false,eval e X.env)::starEach es X.env:=by rfl):MA X Er (e::es) (zc fa fs) :=
 PA.weak (zcn ha hr hs) fun σ H Q ⟨env,st,ρ,re,rs,h⟩=>⟨env,st,ρ,re,rs,h.then fun ag H1 x st1 e1 s1 h1 v rv=>⟨env,st1,ag,re.ext e1,s1,h1.then fun au H2 xs st2 e2 s2 h2 vs rvs =>
  h2.now s2 (v::vs) ⟨v,vs,rfl,R.ext e2 x rv,rvs⟩⟩⟩
def zA (fs:zk->Mo (List PV)):zk->Mo PV:=fun env st=>(fs env st).bind fun xs st1=>if xs.length<=lim then .ok (.tup xs) st1 else .stuck
def y8 (fs:zk->Mo (List PV)):zk->Mo PV:=fun env st=>(fs env st).bind fun xs st1=>if xs.length<=lim then .ok (.ref st1.length) (st1++[.lst xs]) else .stuck
def R.tup_of {K:Frag}{mg:Str->Option Value}{ρ:List Addr}{H:Hp}{xs:List PV}{vs:List V}{p:Addr}(r:Rs K mg ρ H xs vs) (hp:H p=none):R K mg ρ (upd H p (.tup vs)) (.tup xs) (.ref p) :=
 ⟨p,vs,rfl,SqT.of jA,Rs.ext (Ext.new hp) xs r⟩
def zL {x1}(h:MA X Er es fs):ME X Er (.Tuple es x1 pos) (zA fs) :=
 PE.weak (zlw h) fun σ H Q ⟨env,st,ρ,re,rs,h⟩=>⟨env,st,ρ,re,rs,h.then fun ag H1 xs st1 e1 s1 h1 vs rv=>by
  split at h1
  ·rename_i hl
   exact ⟨by rw [<-rv.len];exact jt hl,fun p hp=>h1 ag _ (Ext.new hp) (s1.new hp) _ (R.tup_of rv hp)⟩
  ·exact h1.elim⟩
def Out.newList {K:Frag}{mg:Str->Option Value}{ρ:List Addr}{H:Hp}{st:Sto}{xs:List PV}{vs:List V}{p:Addr}{Q:VK}(h:Out K mg ρ H (.ok (.ref st.length) (st++[.lst xs])) (gV K mg Q) Er) (s:StR K mg ρ H st) (r:Rs K mg ρ H xs vs) (hp:H p=none):Q (.ref p) (upd H p (.lst vs)) :=
 h (ρ++[p]) _ (Ext.push hp) (s.push hp ⟨vs,jA,Rs.ext (Ext.push hp) xs r⟩) _ ⟨p,rfl,by rw [<-s.len];simp⟩
def jm (h:MA X Er es fs):ME X Er (.List es pos) (y8 fs) :=
 PE.weak (zlx h) fun σ H Q ⟨env,st,ρ,re,rs,h⟩=>⟨env,st,ρ,re,rs,h.then fun ag H1 xs st1 e1 s1 h1 vs rv=>by
  split at h1
  ·rename_i hl
   exact ⟨by rw [<-rv.len];exact jt hl,fun p hp=>Out.newList h1 s1 rv hp⟩
  ·exact h1.elim⟩
def znj {r:R2}{op:PV->PV->Mo PV}(ho:IxR X r) (hm:OpM X.K X.mg r op) (ha:ME X Er a fa) (hb:ME X Er b fb) (hs:PlainIx b:=by exact fun _ _=>rfl):ME X Er (.Subscript a b pos) (zj op fa fb) :=
 PE.weak (zlS ho ha hb hs) fun σ H Q h=>zdp hm h
end
end Mi
namespace HT
open PySem PySem.Spec PyProof.Rows
section
variable {prog:Program}{w:World}{A:Around}{E:Value->Shared->Prop}{s:Shared}
def getItem_tuple_all {t sl:Addr}{items:Array Value}{vl vu:Value}{lo hi:Option Int}{Q:Value->Shared->Prop}(ht:IsTup s.heap t items) (hs:s.heap.IsSliceOf sl vl vu .none) (pl:IsPart vl lo) (pu:IsPart vu hi)
  (hw:sIx items.size 0 lo=0/\sIx items.size items.size hi=items.size) (h:Q (.ref t) s)
  (hsz:items.size<=sizeLine):wpAny (model prog w) A (getItem (.ref t) (.ref sl)) Q E s:=by
 obtain ⟨os,hos,hcs,hds⟩:=id hs
 have hTs:s.TypeIs (.ref sl) "slice" := ⟨os,hos,hcs⟩
 unfold getItem
 try with_reducible refine wb ?_
 first|refine zv (zR ?_)|skip
 refine zv (wpAny_sequenceKey ht.typeIs (by decide) ?_)
 refine zv (wpAny_callSpecial?_slot (name:=Str.ofString "__getitem__") ht.typeIs PyProof.Rows.slot_tuple_getitem
  (wC PyProof.Rows.slot_tuple_getitem ht.typeIs entry_tuple_getitem ?_ (args_tuple_getitem _ _)))
 show wpAny _ _ (Builtin.Tuple.tupleItemsOf (.ref t) >>= _) _ _ s
 refine zv (tupleItemsOf_ ht ?_)
 refine zv (wpAny_typeOf hTs ?_)
 rw [zH (by decide)]
 refine zv (zga hs pl pu ?_)
 have hyes:(((sIx items.size 0 lo:Nat):Int)==0&&(1:Int)==1&&(sIx items.size items.size hi-sIx items.size 0 lo)==items.size)=true:=by
  rw [hw.1,hw.2];simp
 show wpAny _ _ (if (((sIx items.size 0 lo:Nat):Int)==0&&(1:Int)==1&&(sIx items.size items.size hi-sIx items.size 0 lo)==items.size)=true then _ else _) _ _ s
 rw [zH hyes]
 unfold Builtin.Tuple.tupleIsExact
 refine zv (zv (wpAny_typeOf ht.typeIs (zR ?_)))
 rw [zH (by decide)]
 exact zv (zbn (zR ⟨_,rfl,zR h⟩))
def cat_tup0 {t b:Addr}{ws:List Value}{Q:Value->Shared->Prop}(ht:IsTup s.heap t #[]) (hb:IsTup s.heap b ws.toArray) (h1:Q (.ref b) s):wpAny (model prog w) A (binaryOp .Add (.ref t) (.ref b)) Q E s:=by
 obtain ⟨⟨cls,dd,data,sl⟩,ho,hc,n,hd⟩:=id ht
 obtain ⟨⟨cls2,dd2,data2,sl2⟩,ho2,hc2,n2,hd2⟩:=id hb
 simp only at hc hd hc2 hd2
 subst hc hd hc2 hd2
 exact concat_meets ⟨_,ho,rfl⟩ ⟨_,ho2,rfl⟩ noFill_tuple_add seq_tuple_add PySem.F.slot_tuple_add PySem.F.entry_tuple_add (PySem.F.args_tuple_add_2 _ _)
   (tuple_addW0 t b #[] ws.toArray n n2 dd dd2 sl sl2 (by simp)) ⟨ho,ho2,h1⟩
end
end HT
namespace Mi
open PySem L2 PySem.W PySem.Spec
section
variable {X:Cx}{Er:XK}{K:Frag}{mg:Str->Option Value}
def BinOk (X:Cx) (o:Operator) (op:PV->PV->Mo PV):Prop:=∃r,OpR X (binaryOp o) r/\OpM X.K X.mg r op
def CmpOk (X:Cx) (o:CmpOp) (op:PV->PV->Mo PV):Prop:=∃r,OpR X (compareOp o) r/\OpM X.K X.mg r op
def IxOk (X:Cx) (op:PV->PV->Mo PV):Prop:=∃r,IxR X r/\OpM X.K X.mg r op
def UnOk (X:Cx) (o:UnaryOp) (op:PV->Mo PV):Prop:=∃r,UnR X (unaryOp o) r/\UnM X.K X.mg r op
variable {a b c e:Expr}{es:List Expr}{pos:Pos}{fa fb fc:zk->Mo PV}{fs:zk->Mo (List PV)}
def zF {o:Operator}{op:PV->PV->Mo PV}(h:BinOk X o op) (ha:ME X Er a fa) (hb:ME X Er b fb):ME X Er (.BinOp a o b pos) (zj op fa fb):=let ⟨_,h1,h2⟩:=h;znd h1 h2 ha hb
def zcu {o:CmpOp}{op:PV->PV->Mo PV}(h:CmpOk X o op) (ha:ME X Er a fa) (hb:ME X Er b fb) (hk:behindInMarks o b=false:=by first|exact nomark _|with_unfolding_all rfl):ME X Er (.Compare a [o] [b] pos) (zj op fa fb):=let ⟨_,h1,h2⟩:=h;zne h1 h2 ha hb hk
def yk {o:CmpOp}{op:PV->PV->Mo PV}(h:CmpOk X o op) (ha:ME X Er a fa) (hb:ME X Er b fb) (hk:behindInMarks o b=false:=by first|exact nomark _|with_unfolding_all rfl):MT X Er (.Compare a [o] [b] pos) (mB (zj op fa fb)):=let ⟨_,h1,h2⟩:=h;zng h1 h2 ha hb hk
def zen {op:PV->PV->Mo PV}(h:IxOk X op) (ha:ME X Er a fa) (hb:ME X Er b fb) (hs:PlainIx b:=by exact fun _ _=>rfl):ME X Er (.Subscript a b pos) (zj op fa fb):=let ⟨_,h1,h2⟩:=h;znj h1 h2 ha hb hs
def zaL {o:UnaryOp}{op:PV->Mo PV}(h:UnOk X o op) (ha:ME X Er a fa):ME X Er (.UnaryOp o a pos) (ju op fa):=let ⟨_,h1,h2⟩:=h;znh h1 h2 ha
def Out.ifp {α:Type}{ρ:List Addr}{H:Hp}{p:Prop} [Decidable p] {r:Res α}{good:List Addr->Hp->α->Sto->Prop}(h:Out K mg ρ H (if p then r else .stuck) good Er):p/\Out K mg ρ H r good Er:=by
 split at h
 ·rename_i hp;exact ⟨hp,h⟩
 ·exact h.elim
def yo {α:Type}(st:Sto) (n:Nat) (k:List PV->Res α):Res α:=match st[n]? with
 | some (.lst xs)=>k xs
 | _=>.stuck
def wj {α:Type}(st:Sto) (n:Nat) (k:List Str->List PV->Res α):Res α:=match st[n]? with
 | some (.dic ks xs)=>k ks xs
 | _=>.stuck
def znk {α:Type}(st:Sto) (n:Nat) (k:Str->List Str->List PV->Res α):Res α:=match st[n]? with
 | some (.ins c ks xs)=>k c ks xs
 | _=>.stuck
def jJ {α:Type}{ρ:List Addr}{H:Hp}{st:Sto}{n:Nat}{k:List PV->Res α}{good:List Addr->Hp->α->Sto->Prop}(h:Out K mg ρ H (yo st n k) good Er):∃xs,st[n]?=some (.lst xs)/\Out K mg ρ H (k xs) good Er:=by
 unfold yo at h
 split at h
 ·rename_i xs e;exact ⟨xs,e,h⟩
 ·exact h.elim
def zgN {α:Type}{ρ:List Addr}{H:Hp}{st:Sto}{n:Nat}{k:List Str->List PV->Res α}{good:List Addr->Hp->α->Sto->Prop}(h:Out K mg ρ H (wj st n k) good Er):∃ks xs,st[n]?=some (.dic ks xs)/\Out K mg ρ H (k ks xs) good Er:=by
 unfold wj at h
 split at h
 ·rename_i ks xs e;exact ⟨ks,xs,e,h⟩
 ·exact h.elim
def opI (C:Int->Int->Bool) (g:Int->Int->Int):PV->PV->Mo PV
 | .int i,.int j,st=>if C i j=true then .ok (.int (g i j)) st else .stuck
 | _,_,_=>.stuck
def zbs {C:Int->Int->Bool}{g:Int->Int->Int}{P:Int->Int->Prop}(hC:∀i j,C i j=true->P i j):OpM K mg (rI P fun i j=>.int (g i j)) (opI C g):=by
 intro ρ H st x y v w Q E s rx ry h
 cases x with
 | int i =>
  cases y with
  | int j =>
   cases rx;cases ry
   obtain ⟨c,h⟩:=Out.ifp h
   exact ⟨i,j,rfl,rfl,hC i j c,h.now s _ rfl⟩
  | _=>exact h.elim
 | _=>exact h.elim
abbrev c0:Int->Int->Bool:=fun _ _=>true
def zgO {g:Int->Int->V}{f:Value->Value->Sem Value}(h:OpR X f (rI0 g)):OpR X f (rI (fun _ _=>True) g):=fun pins s σ H x y v u Q I rx ry ⟨i,j,h1,h2,_,q⟩=>h pins s σ H x y v u Q I rx ry ⟨i,j,h1,h2,q⟩
abbrev jd:=opI c0 fun i j=>i-j
abbrev cMul:Int->Int->Bool:=fun i j=>(decide (-(2 ^ 64)<i)&&decide (i<2 ^ 64))||(decide (-(2 ^ 64)<j)&&decide (j<2 ^ 64))
abbrev zgP:=opI cMul fun i j=>i*j
abbrev cPow:Int->Int->Bool:=fun i j=>decide (0<=j)&&decide (j<=1000000)&&decide (i.natAbs<2 ^ 64)
abbrev w9:=opI cPow fun i j=>i ^ j.toNat
abbrev cNz:Int->Int->Bool:=fun _ j=>decide (j≠0)
def jK (i j:Int):Int:=if 0<j then i%j else i.fmod j
abbrev yt:=opI cNz jK
abbrev cDv:Int->Int->Bool:=fun _ j=>decide (j≠0)&&decide (j.natAbs<2 ^ 200)
def wG (i j:Int):Int:=if 0<j then i/j else i.fdiv j
abbrev jb:=opI cDv wG
def znl (i j:Int):jK i j=i.fmod j:=by
 unfold jK;split
 ·rename_i h;rw [Int.fmod_eq_emod_of_nonneg _ (by omega)]
 ·rfl
def znm (i j:Int):wG i j=i.fdiv j:=by
 unfold wG;split
 ·rename_i h;rw [Int.fdiv_eq_ediv_of_nonneg _ (by omega)]
 ·rfl
def wm:BinOk X .Sub jd:=⟨_,zgO zk6,zbs fun _ _ _=>trivial⟩
def znn:BinOk X .Mult zgP:=⟨_,zk7,zbs fun i j h=>by simpa [cMul,CMul] using h⟩
def zbt:BinOk X .Pow w9:=⟨_,zk9,zbs fun i j h=>by simp [cPow] at h;exact ⟨h.1.1,h.1.2,h.2⟩⟩
def je:BinOk X .Mod yt:=⟨_,zk8,by
 have h:(fun i j=>V.int (i.fmod j))=fun i j=>V.int (jK i j):=by funext i j;rw [znl]
 rw [h];exact zbs fun i j h=>by simpa [cNz] using h⟩
def zno {y:Int}(h:y.natAbs<2 ^ 200):y.natAbs.log2<9000:=by
 by_cases h0:y.natAbs=0
 ·rw [h0];decide
 ·have:=(Nat.log2_lt h0).mpr h
  omega
def znp:OpR X (binaryOp .FloorDiv) (rI (fun _ j=>j≠0/\j.natAbs<2 ^ 200) fun i j=>.int (i.fdiv j)):=L2.opI fun _ _ _ _ _ _ _ hc q=>PyProof.Rows.floordiv_int hc.1 q (.inl (PyProof.noPylong_of_log2 (zno hc.2)))
def wx:BinOk X .FloorDiv jb:=⟨_,znp,by
 have h:(fun i j=>V.int (i.fdiv j))=fun i j=>V.int (wG i j):=by funext i j;rw [znm]
 rw [h];exact zbs fun i j h=>by simpa [cDv] using h⟩
def wn:PV->Mo PV
 | .int i,st=>.ok (.int (-i)) st
 | _,_=>.stuck
def zaM:UnOk X .USub wn:=⟨_,zlc,by
 intro ρ H st x v Q E s rx h
 cases x with
 | int i=>cases rx;exact ⟨i,rfl,Out.now (x:=PV.int (-i)) h s _ rfl⟩
 | _=>exact h.elim⟩
def zZ:PV->PV->Mo PV
 | .int i,.int j,st=>.ok (.int (i+j)) st
 | .str x,.str y,st=>if x.length+y.length<=lim then .ok (.str (x++y)) st else .stuck
 | .tup xs,.tup ys,st=>if xs.length+ys.length<=lim then .ok (.tup (xs++ys)) st else .stuck
 | .ref n,.ref m,st=>yo st n fun xs=>yo st m fun ys=>if xs.length+ys.length<=lim then .ok (.ref st.length) (st++[.lst (xs++ys)]) else .stuck
 | _,_,_=>.stuck
def znq (K:Frag):R2:=fun x y H Q=>∃a b ys,x=.ref a/\y=.ref b/\SqT K H a []/\SqT K H b ys/\Q (.ref b) H
def znr:OpR X (binaryOp .Add) (znq X.K):=by
 intro pins s σ H x y v u Q I rx ry h
 obtain ⟨a,b,ys,rfl,rfl,h1,h2,q⟩:=h
 cases rx;cases ry
 obtain ⟨i1,r1,p1,_⟩:=I.tuple h1
 obtain ⟨i2,r2,p2,_⟩:=I.tuple h2
 cases r1
 exact HT.cat_tup0 p1 p2 ⟨.ref b,H,I,rfl,q⟩
def yG:BinOk X .Add zZ:=⟨_,zk5.or (zlk.or (znr.or (zlR.or zmk))),by
 intro ρ H st x y v w Q E s rx ry h
 cases x with
 | int i =>
  cases y with
  | int j=>cases rx;cases ry;exact .inl ⟨i,j,rfl,rfl,Out.now (x:=PV.int (i+j)) h s _ rfl⟩
  | _=>exact h.elim
 | str i =>
  cases y with
  | str j =>
   cases rx;cases ry
   obtain ⟨c,h⟩:=Out.ifp h
   exact .inr (.inl ⟨i,j,rfl,rfl,jt c,h.now s _ rfl⟩)
  | _=>exact h.elim
 | tup xs =>
  cases y with
  | tup ys =>
   obtain ⟨p,vs,rfl,h1,h2⟩:=rx
   obtain ⟨q,ws,rfl,h3,h4⟩:=ry
   obtain ⟨c,h⟩:=Out.ifp h
   cases xs with
   | nil =>
    cases h2
    exact .inr (.inr (.inl ⟨p,q,ws,rfl,rfl,h1,h3,h.now s _ ⟨q,ws,rfl,h3,h4⟩⟩))
   | cons x0 xs0 =>
    refine .inr (.inr (.inr (.inl ⟨p,q,vs,ws,rfl,rfl,h1,h3,?_,?_,fun e=>?_,fun _ l hl=>?_⟩)))
    ·obtain ⟨v0,r0,e0,_⟩:=h2;rw [e0];simp
    ·rw [<-h2.len,<-h4.len];exact jt c
    ·subst e
     have:ys=[]:=by have:=h4.len;simpa using this
     subst this
     exact h.now s _ ⟨p,vs,rfl,h1,by simpa using h2⟩
    ·exact h ρ _ (Ext.new hl) (s.new hl) _ (R.tup_of (h2.append h4) hl)
  | _=>exact h.elim
 | ref n =>
  cases y with
  | ref m =>
   obtain ⟨p,rfl,hp⟩:=rx
   obtain ⟨q,rfl,hq⟩:=ry
   obtain ⟨xs,e1,h⟩:=jJ h
   obtain ⟨ys,e2,h⟩:=jJ h
   obtain ⟨c,h⟩:=Out.ifp h
   obtain ⟨vs,h1,h2⟩:=s.addr e1 hp
   obtain ⟨ws,h3,h4⟩:=s.addr e2 hq
   exact .inr (.inr (.inr (.inr ⟨p,q,vs,ws,rfl,rfl,h1,h3,by rw [<-h2.len,<-h4.len];exact jt c,fun l hl=>Out.newList h s (h2.append h4) hl⟩)))
  | _=>exact h.elim
 | _=>exact h.elim⟩
def opB (g:Int->Int->Bool):PV->PV->Mo PV
 | .int i,.int j,st=>.ok (.bl (g i j)) st
 | _,_,_=>.stuck
def zgQ {g:Int->Int->Bool}:OpM K mg (rI0 fun i j=>.bl (g i j)) (opB g):=by
 intro ρ H st x y v w Q E s rx ry h
 cases x with
 | int i =>
  cases y with
  | int j=>cases rx;cases ry;exact ⟨i,j,rfl,rfl,Out.now (x:=PV.bl (g i j)) h s _ rfl⟩
  | _=>exact h.elim
 | _=>exact h.elim
abbrev oLt:=opB fun i j=>decide (i<j)
abbrev j5:=opB fun i j=>decide (j<i)
def zcv:CmpOk X .Lt oLt:=⟨_,zld,zgQ⟩
def za6:CmpOk X .Gt j5:=⟨_,zle,zgQ⟩
def isNon:PV->Bool
 | .non=>true
 | _=>false
def zgR:PV->PV->Mo PV
 | x,.non,st=>.ok (.bl (!isNon x)) st
 | _,_,_=>.stuck
def zns {ρ:List Addr}{H:Hp}{x:PV}{v:V}(r:R K mg ρ H x v):decide (v=.non)=isNon x:=by
 cases x with
 | non=>cases r;rfl
 | bl _=>cases r;rfl
 | int _=>cases r;rfl
 | str _=>cases r;rfl
 | ty _=>cases r;rfl
 | tup _=>obtain ⟨_,_,rfl,_⟩:=r;rfl
 | frl _=>obtain ⟨_,_,rfl,_⟩:=r;rfl
 | ref _=>obtain ⟨_,rfl,_⟩:=r;rfl
 | fn _=>obtain ⟨_,rfl,_⟩:=r;rfl
 | kd _ _=>obtain ⟨_,_,_,rfl,_⟩:=r;rfl
 | exo _ _ _=>obtain ⟨_,_,_,_,rfl,_⟩:=r;rfl
def znt:CmpOk X .IsNot zgR:=⟨_,zlg,by
 intro ρ H st x y v w Q E s rx ry h
 cases y with
 | non=>cases ry;exact ⟨rfl,by rw [zns rx];exact Out.now (x:=PV.bl (!isNon x)) h s _ rfl⟩
 | _=>exact h.elim⟩
def zeo {ρ:List Addr}{H:Hp}{xs:List PV}{vs:List V}{i:Int}{x:PV}(r:Rs K mg ρ H xs vs) (h:atI xs i=some x):∃v,atI vs i=some v/\R K mg ρ H x v:=by
 unfold atI at h ⊢
 rw [<-r.len]
 cases hj:ixN xs.length i with
 | none=>rw [hj] at h;cases h
 | some j =>
  rw [hj] at h
  obtain ⟨v,h1,h2⟩:=r.get (show xs[j]?=some x from h)
  exact ⟨v,h1,h2⟩
def optR:Option PV->Mo PV
 | some x,st=>.ok x st
 | none,_=>.stuck
def oIx:PV->PV->Mo PV
 | .tup xs,.int i,st=>optR (atI xs i) st
 | .frl xs,.int i,st=>optR (atI xs i) st
 | .str z,.int i,st=>if z.length<=lim then optR ((atI z.cps.toList i).map fun c=>.str ⟨#[c]⟩) st else .stuck
 | .ref n,.int i,st=>yo st n fun xs=>optR (atI xs i) st
 | _,_,_=>.stuck
def zbS {ρ:List Addr}{H:Hp}{o:Option PV}{st:Sto}{good}(h:Out K mg ρ H (optR o st) good Er):∃x,o=some x/\Out K mg ρ H (.ok x st) good Er:=by
 cases o with
 | some x=>exact ⟨x,rfl,h⟩
 | none=>exact h.elim
def znu:IxOk X oIx:=⟨_,zlX,by
 intro ρ H st x y v w Q E s rx ry h
 cases x with
 | tup xs =>
  cases y with
  | int i =>
   cases ry
   obtain ⟨p,vs,rfl,h1,h2⟩:=rx
   obtain ⟨x,e,h⟩:=zbS h
   obtain ⟨v,h3,h4⟩:=zeo h2 e
   exact .inr (.inl ⟨p,vs,i,v,rfl,rfl,h1,h3,h.now s _ h4⟩)
  | _=>exact h.elim
 | frl xs =>
  cases y with
  | int i =>
   cases ry
   obtain ⟨p,vs,rfl,h1,h2⟩:=rx
   obtain ⟨x,e,h⟩:=zbS h
   obtain ⟨v,h3,h4⟩:=zeo h2 e
   exact .inl ⟨p,vs,i,v,rfl,rfl,h1.sq,h3,h.now s _ h4⟩
  | _=>exact h.elim
 | str z =>
  cases y with
  | int i =>
   cases ry;cases rx
   obtain ⟨c,h⟩:=Out.ifp h
   obtain ⟨x,e,h⟩:=zbS h
   cases hc:atI z.cps.toList i with
   | none=>rw [hc] at e;cases e
   | some k =>
    rw [hc] at e
    cases e
    exact .inr (.inr ⟨z,i,k,rfl,rfl,jt c,hc,h.now s _ rfl⟩)
  | _=>exact h.elim
 | ref n =>
  cases y with
  | int i =>
   cases ry
   obtain ⟨p,rfl,hp⟩:=rx
   obtain ⟨xs,e1,h⟩:=jJ h
   obtain ⟨vs,h1,h2⟩:=s.addr e1 hp
   obtain ⟨x,e,h⟩:=zbS h
   obtain ⟨v,h3,h4⟩:=zeo h2 e
   exact .inl ⟨p,vs,i,v,rfl,rfl,SqL.of h1,h3,h.now s _ h4⟩
  | _=>exact h.elim
 | _=>exact h.elim⟩
end
mutual
def plain:PV->Bool
 | .non=>true
 | .bl _=>true
 | .int _=>true
 | .str _=>true
 | .tup xs=>plains xs
 | _=>false
def plains:List PV->Bool
 | []=>true
 | x::xs=>plain x&&plains xs
end
mutual
def dep:PV->Nat
 | .tup xs=>deps xs+1
 | _=>0
def deps:List PV->Nat
 | []=>0
 | x::xs=>max (dep x) (deps xs)
end
mutual
def eqP:PV->PV->Bool
 | .non,.non=>true
 | .bl a,.bl b=>a==b
 | .bl a,.int b=>(if a then 1 else 0)==b
 | .int a,.bl b=>a==(if b then 1 else 0)
 | .int a,.int b=>a==b
 | .str a,.str b=>a==b
 | .tup xs,.tup ys=>eqPs xs ys
 | _,_=>false
def eqPs:List PV->List PV->Bool
 | [],[]=>true
 | x::xs,y::ys=>eqP x y&&eqPs xs ys
 | _,_=>false
end
section
variable {X:Cx}{Er:XK}{K:Frag}{mg:Str->Option Value}{ρ:List Addr}{pins:List (Addr×Obj)}{σ:L2.St}{H:Hp}{s:Shared}
mutual
def zgS (I:Inv X pins σ H s):∀(x y:PV) {v:V},plain x=true->plain y=true->R X.K mg ρ H x v->R X.K mg ρ H y v->eqP x y=true
 | .non,y,v,_,py,rx,ry=>by
  cases rx
  cases y with
  | non=>rfl
  | tup ys=>obtain ⟨_,_,e,_⟩:=ry;cases e
  | bl _=>cases ry
  | int _=>cases ry
  | str _=>cases ry
  | _=>cases py
 | .bl a,y,v,_,py,rx,ry=>by
  cases rx
  cases y with
  | bl b=>cases ry;simp [eqP]
  | tup ys=>obtain ⟨_,_,e,_⟩:=ry;cases e
  | non=>cases ry
  | int _=>cases ry
  | str _=>cases ry
  | _=>cases py
 | .int a,y,v,_,py,rx,ry=>by
  cases rx
  cases y with
  | int b=>cases ry;simp [eqP]
  | tup ys=>obtain ⟨_,_,e,_⟩:=ry;cases e
  | non=>cases ry
  | bl _=>cases ry
  | str _=>cases ry
  | _=>cases py
 | .str a,y,v,_,py,rx,ry=>by
  cases rx
  cases y with
  | str b=>cases ry;simp [eqP]
  | tup ys=>obtain ⟨_,_,e,_⟩:=ry;cases e
  | non=>cases ry
  | bl _=>cases ry
  | int _=>cases ry
  | _=>cases py
 | .tup xs,y,v,px,py,rx,ry=>by
  obtain ⟨a,vs,rfl,h1,h2⟩:=rx
  cases y with
  | tup ys =>
   obtain ⟨b,ws,e,h3,h4⟩:=ry
   cases e
   have:=I.tuple_inj h1 h3
   subst this
   exact same_Ps I xs ys px py h2 h4
  | non=>cases ry
  | bl _=>cases ry
  | int _=>cases ry
  | str _=>cases ry
  | _=>cases py
 | .ty _,_,_,px,_,_,_=>by cases px
 | .frl _,_,_,px,_,_,_=>by cases px
 | .ref _,_,_,px,_,_,_=>by cases px
 | .fn _,_,_,px,_,_,_=>by cases px
 | .kd _ _,_,_,px,_,_,_=>by cases px
 | .exo _ _ _,_,_,px,_,_,_=>by cases px
def same_Ps (I:Inv X pins σ H s):∀(xs ys:List PV) {vs:List V},plains xs=true->plains ys=true->Rs X.K mg ρ H xs vs->Rs X.K mg ρ H ys vs->eqPs xs ys=true
 | [],ys,vs,_,py,rx,ry=>by
  cases rx
  cases ys with
  | nil=>rfl
  | cons y ys=>obtain ⟨_,_,e,_⟩:=ry;cases e
 | x::xs,ys,vs,px,py,rx,ry=>by
  obtain ⟨v,r,rfl,h1,h2⟩:=rx
  cases ys with
  | nil=>cases ry
  | cons y ys =>
   obtain ⟨v',r',e,h3,h4⟩:=ry
   cases e
   simp only [plains,we] at px py
   simp only [eqPs,we]
   exact ⟨zgS I x y px.1 py.1 h1 h3,same_Ps I xs ys px.2 py.2 h2 h4⟩
end
def eqJp (xs ys:List PV) (j:Nat):Bool:=match xs[j]?,ys[j]? with
 | some x,some y=>eqP x y
 | _,_=>true
def zgT:∀(xs ys:List PV),((List.range (min xs.length ys.length)).all (eqJp xs ys)&&xs.length==ys.length)=eqPs xs ys
 | [],[]=>rfl
 | [],y::ys=>by simp [eqPs]
 | x::xs,[]=>by simp [eqPs]
 | x::xs,y::ys=>by
  have ih:=zgT xs ys
  have e1:min (x::xs).length (y::ys).length=min xs.length ys.length+1:=by simp only [wq];omega
  have e2:((x::xs).length==(y::ys).length)=(xs.length==ys.length):=by
   rw [Bool.eq_iff_iff];simp
  rw [e1,e2,List.range_succ_eq_map,List.all_cons,List.all_map]
  have e3:(eqJp (x::xs) (y::ys)∘Nat.succ)=eqJp xs ys:=by
   funext j
   simp [eqJp]
  rw [e3,Bool.and_assoc,ih]
  simp [eqPs,eqJp]
def zeq:∀{xs:List PV}{i:Nat}{x:PV},xs[i]?=some x->dep x<=deps xs
 | [],_,_,e=>by simp at e
 | y::xs,0,x,e=>by simp at e;subst e;simp only [deps];omega
 | y::xs,i+1,x,e=>by
  simp at e
  have:=zeq e
  simp only [deps];omega
def zdq:∀{xs:List PV}{i:Nat}{x:PV},plains xs=true->xs[i]?=some x->plain x=true
 | [],_,_,_,e=>by simp at e
 | y::xs,0,x,p,e=>by simp at e;subst e;simp only [plains,we] at p;exact p.1
 | y::xs,i+1,x,p,e=>by
  simp at e
  simp only [plains,we] at p
  exact zdq p.2 e
def zdr (A:Around):A.in1.units=A.units+1:=rfl
def zer (I:Inv X pins σ H s):∀(n:Nat) (x y:PV) {v w:V}{u u':Value}(A:Around),dep x<=n->plain x=true->plain y=true->R X.K mg ρ H x v->R X.K mg ρ H y w->RelV v u->RelV w u'->A.units+n<cLine ->
  SeqAt.EqAt A s u u' (eqP x y)/\SeqAt.RcAt A s u u' (eqP x y)/\SeqAt.RcNeAt A s u u' (!eqP x y):=by
 intro n
 induction n with
 | zero =>
  intro x y v w u u' A hd px py rx ry rv rw hu
  cases x with
  | tup xs=>simp only [dep] at hd;omega
  | non =>
   cases rx;cases rv
   cases y with
   | non=>cases ry;cases rw;exact ⟨.same _,.none_none,.none_none⟩
   | bl b=>cases ry;cases rw;exact ⟨.none_bool b,.none_bool b,.none_bool b⟩
   | int b=>cases ry;obtain ⟨t,rfl⟩:=rw;exact ⟨.none_int b t,.none_int b t,.none_int b t⟩
   | str b=>cases ry;obtain ⟨t,rfl⟩:=rw;exact ⟨.none_str b t,.none_str b t,.none_str b t⟩
   | tup ys =>
    obtain ⟨p,ws,rfl,h1,h2⟩:=ry
    cases rw
    obtain ⟨its,_,pl,_⟩:=I.tuple h1
    exact ⟨.none_tuple pl (by omega),.none_tuple pl (by omega),.none_tuple pl (by omega)⟩
   | _=>cases py
  | bl a =>
   cases rx;cases rv
   cases y with
   | non=>cases ry;cases rw;exact ⟨.bool_none a,.bool_none a,.bool_none a⟩
   | bl b=>cases ry;cases rw;exact ⟨.bool_bool a b,.bool_bool a b,.bool_bool a b⟩
   | int b=>cases ry;obtain ⟨t,rfl⟩:=rw;exact ⟨.bool_int a b t,.bool_int a b t,.bool_int a b t⟩
   | str b=>cases ry;obtain ⟨t,rfl⟩:=rw;exact ⟨.bool_str a b t,.bool_str a b t,.bool_str a b t⟩
   | tup ys =>
    obtain ⟨p,ws,rfl,h1,h2⟩:=ry
    cases rw
    obtain ⟨its,_,pl,_⟩:=I.tuple h1
    exact ⟨.bool_tuple a pl (by omega),.bool_tuple a pl (by omega),.bool_tuple a pl (by omega)⟩
   | _=>cases py
  | int a =>
   cases rx;obtain ⟨t0,rfl⟩:=rv
   cases y with
   | non=>cases ry;cases rw;exact ⟨.int_none a t0,.int_none a t0,.int_none a t0⟩
   | bl b=>cases ry;cases rw;exact ⟨.int_bool a t0 b,.int_bool a t0 b,.int_bool a t0 b⟩
   | int b=>cases ry;obtain ⟨t,rfl⟩:=rw;exact ⟨.int_int a t0 b t,.int_int a t0 b t,.int_int a t0 b t⟩
   | str b=>cases ry;obtain ⟨t,rfl⟩:=rw;exact ⟨.int_str a t0 b t,.int_str a t0 b t,.int_str a t0 b t⟩
   | tup ys =>
    obtain ⟨p,ws,rfl,h1,h2⟩:=ry
    cases rw
    obtain ⟨its,_,pl,_⟩:=I.tuple h1
    exact ⟨.int_tuple a t0 pl (by omega),.int_tuple a t0 pl (by omega),.int_tuple a t0 pl (by omega)⟩
   | _=>cases py
  | str a =>
   cases rx;obtain ⟨t0,rfl⟩:=rv
   cases y with
   | non=>cases ry;cases rw;exact ⟨.str_none a t0,.str_none a t0,.str_none a t0⟩
   | bl b=>cases ry;cases rw;exact ⟨.str_bool a t0 b,.str_bool a t0 b,.str_bool a t0 b⟩
   | int b=>cases ry;obtain ⟨t,rfl⟩:=rw;exact ⟨.str_int a t0 b t,.str_int a t0 b t,.str_int a t0 b t⟩
   | str b=>cases ry;obtain ⟨t,rfl⟩:=rw;exact ⟨.str_str a t0 b t,.str_str a t0 b t,.str_str a t0 b t⟩
   | tup ys =>
    obtain ⟨p,ws,rfl,h1,h2⟩:=ry
    cases rw
    obtain ⟨its,_,pl,_⟩:=I.tuple h1
    exact ⟨.str_tuple a t0 pl (by omega),.str_tuple a t0 pl (by omega),.str_tuple a t0 pl (by omega)⟩
   | _=>cases py
  | _=>cases px
 | succ n ih =>
  intro x y v w u u' A hd px py rx ry rv rw hu
  cases x with
  | tup xs =>
   obtain ⟨a,vs,rfl,h1,h2⟩:=id rx
   cases rv
   obtain ⟨its,r1,p1,_⟩:=I.tuple h1
   cases y with
   | non=>cases ry;cases rw;exact ⟨.tuple_none p1 (by omega),.tuple_none p1 (by omega),.tuple_none p1 (by omega)⟩
   | bl b=>cases ry;cases rw;exact ⟨.tuple_bool b p1 (by omega),.tuple_bool b p1 (by omega),.tuple_bool b p1 (by omega)⟩
   | int b=>cases ry;obtain ⟨t,rfl⟩:=rw;exact ⟨.tuple_int b t p1 (by omega),.tuple_int b t p1 (by omega),.tuple_int b t p1 (by omega)⟩
   | str b=>cases ry;obtain ⟨t,rfl⟩:=rw;exact ⟨.tuple_str b t p1 (by omega),.tuple_str b t p1 (by omega),.tuple_str b t p1 (by omega)⟩
   | tup ys =>
    obtain ⟨b,ws,rfl,h3,h4⟩:=id ry
    cases rw
    obtain ⟨its2,r2,p2,_⟩:=I.tuple h3
    have l1:=h2.len
    have l2:=h4.len
    have l3:=r1.length
    have l4:=r2.length
    have item:∀j (g1:j<its.toArray.size) (g2:j<its2.toArray.size),SeqAt.EqAt A.in1 s its.toArray[j] its2.toArray[j] (eqJp xs ys j):=fun j g1 g2=>by
     have k1:j<xs.length:=by rw [l1,l3];simpa using g1
     have k2:j<ys.length:=by rw [l2,l4];simpa using g2
     obtain ⟨v1,e1,rr1⟩:=h2.get (zU k1)
     obtain ⟨v2,e2,rr2⟩:=h4.get (zU k2)
     obtain ⟨u1,f1,ru1⟩:=r1.get e1
     obtain ⟨u2,f2,ru2⟩:=r2.get e2
     have w1:its.toArray[j]=u1:=by
      obtain ⟨_,z⟩:=yI.mp f1
      simpa using z
     have w2:its2.toArray[j]=u2:=by
      obtain ⟨_,z⟩:=yI.mp f2
      simpa using z
     have ej:eqJp xs ys j=eqP xs[j] ys[j]:=by
      unfold eqJp
      rw [zU k1,zU k2]
     rw [w1,w2,ej]
     have hdj:=zeq (zU k1)
     simp only [dep] at hd
     exact (ih xs[j] ys[j] A.in1 (by omega) (zdq px (zU k1)) (zdq py (zU k2)) rr1 rr2 ru1 ru2 (by rw [zdr];omega)).1
    have eall:((List.range (min its.toArray.size its2.toArray.size)).all (eqJp xs ys)&&its.toArray.size==its2.toArray.size)=eqP (.tup xs) (.tup ys):=by
     have e:=zgT xs ys
     rw [l1,l2,l3,l4] at e
     simpa [eqP] using e
    have rc:SeqAt.RcAt A s (.ref a) (.ref b) (eqP (.tup xs) (.tup ys)):=by
     rw [<-eall]
     exact SeqAt.RcAt.tuples (show s.heap.IsTuple a its.toArray from p1) (show s.heap.IsTuple b its2.toArray from p2) (by omega) item
    refine ⟨?_,rc,?_⟩
    ·by_cases hab:a=b
     ·subst hab
      rw [zgS I (.tup xs) (.tup ys) px py rx ry]
      exact .same _
     ·exact .of_refs hab rc
    ·rw [<-eall]
     exact SeqAt.RcNeAt.tuples (show s.heap.IsTuple a its.toArray from p1) (show s.heap.IsTuple b its2.toArray from p2) (by omega) item
   | _=>cases py
  | non=>exact ih _ y A (yR _) px py rx ry rv rw (by omega)
  | bl a=>exact ih _ y A (yR _) px py rx ry rv rw (by omega)
  | int a=>exact ih _ y A (yR _) px py rx ry rv rw (by omega)
  | str a=>exact ih _ y A (yR _) px py rx ry rv rw (by omega)
  | _=>cases px
def ye:PV->PV->Mo PV:=fun x y st=>if plain x=true/\plain y=true/\dep x<=150 then .ok (.bl (eqP x y)) st else .stuck
def oNe:PV->PV->Mo PV:=fun x y st=>if plain x=true/\plain y=true/\dep x<=150 then .ok (.bl (!eqP x y)) st else .stuck
def zgU (K:Frag) (mg:Str->Option Value) (f:Bool->Bool):R2:=fun v w H Q=>∃ρ x y,plain x=true/\plain y=true/\dep x<=150/\R K mg ρ H x v/\R K mg ρ H y w/\Q (.bl (f (eqP x y))) H
def znv (hu:X.A.units+200<cLine):OpR X (compareOp .Eq) (zgU X.K X.mg id):=by
 intro pins s σ H x y v u Q I rx ry h
 obtain ⟨ρ,a,b,pa,pb,hd,ra,rb,q⟩:=h
 exact PySem.EqBoolInt.of_rc (zer I 150 a b X.A hd pa pb ra rb rx ry (by omega)).2.1 ⟨.bl _,H,I,rfl,q⟩
def znw (hu:X.A.units+200<cLine):OpR X (compareOp .NotEq) (zgU X.K X.mg not):=by
 intro pins s σ H x y v u Q I rx ry h
 obtain ⟨ρ,a,b,pa,pb,hd,ra,rb,q⟩:=h
 exact PySem.EqBoolInt.of_rcne (zer I 150 a b X.A hd pa pb ra rb rx ry (by omega)).2.2 ⟨.bl _,H,I,rfl,q⟩
def yB (hu:X.A.units+200<cLine):CmpOk X .Eq ye:=⟨_,znv hu,fun ρ H st x y v w Q E s rx ry h=>by
 obtain ⟨⟨p1,p2,p3⟩,h⟩:=Out.ifp h
 exact ⟨ρ,x,y,p1,p2,p3,rx,ry,h.now s _ rfl⟩⟩
def zgV (hu:X.A.units+200<cLine):CmpOk X .NotEq oNe:=⟨_,znw hu,fun ρ H st x y v w Q E s rx ry h=>by
 obtain ⟨⟨p1,p2,p3⟩,h⟩:=Out.ifp h
 exact ⟨ρ,x,y,p1,p2,p3,rx,ry,h.now s _ rfl⟩⟩
end
section
variable {X:Cx}{Er:XK}{K:Frag}{mg:Str->Option Value}{a b c e:Expr}{es:List Expr}{pos:Pos}{fa fb fc:zk->Mo PV}{fs:zk->Mo (List PV)}
def tMO (K:Frag) (mg:Str->Option Value) (Er:XK) (f:zk->Mo (Option Int)):TO:=fun σ H Q=>∃env st ρ,EnvR K mg ρ H env σ/\StR K mg ρ H st/\Out K mg ρ H (f env st) (fun _ H' o _=>Q o H') Er
def MO (X:Cx) (Er:XK) (e:Option Expr) (f:zk->Mo (Option Int)):Prop:=PO X e (tMO X.K X.mg Er f)
def pNone:zk->Mo (Option Int):=fun _ st=>.ok none st
def asI:PV->Mo (Option Int)
 | .int i,st=>.ok (some i) st
 | _,_=>.stuck
def pSome (f:zk->Mo PV):zk->Mo (Option Int):=fun env st=>(f env st).bind asI
def PO.weak {o:Option Expr}{t t':TO}(h:PO X o t) (w:∀σ H Q,t' σ H Q->t σ H Q):PO X o t':=fun pins s σ H Q I q=>h pins s σ H Q I (w σ H Q q)
def zbT:MO X Er none pNone:=PO.weak zlK fun σ H Q ⟨env,st,ρ,re,rs,h⟩=>h.now rs
def za7 (h:ME X Er e fa):MO X Er (some e) (pSome fa):=PO.weak (zlL h) fun σ H Q ⟨env,st,ρ,re,rs,h⟩=>⟨env,st,ρ,re,rs,h.then fun ag H1 x st1 e1 s1 h1 v rv=>by
 cases x with
 | int i=>cases rv;exact ⟨i,rfl,Out.now (x:=some i) h1 s1⟩
 | _=>exact h1.elim⟩
def cutP (xs:List PV) (lo hi:Option Int):List PV:=(xs.drop (HT.sIx xs.length 0 lo)).take (HT.sIx xs.length xs.length hi-HT.sIx xs.length 0 lo)
def oSl:PV->Option Int->Option Int->Mo PV
 | .tup xs,lo,hi,st=>.ok (.tup (cutP xs lo hi)) st
 | .frl xs,lo,hi,st=>.ok (.ref st.length) (st++[.lst (cutP xs lo hi)])
 | .ref n,lo,hi,st=>yo st n fun xs=>.ok (.ref st.length) (st++[.lst (cutP xs lo hi)])
 | .str z,lo,hi,st=>if z.length<=lim then .ok (.str (Txt.slice z lo hi)) st else .stuck
 | _,_,_,_=>.stuck
def Rs.cut {ρ:List Addr}{H:Hp}{xs:List PV}{vs:List V}(r:Rs K mg ρ H xs vs) (lo hi:Option Int):Rs K mg ρ H (cutP xs lo hi) (cutV vs lo hi):=by
 unfold cutP cutV
 rw [r.len]
 exact (r.drop _).take _
def zny (K:Frag):V->Option Int->Option Int->Hp->VK->Prop:=fun x lo hi H Q=>∃a xs,x=.ref a/\SqT K H a xs/\(HT.sIx xs.length 0 lo=0/\HT.sIx xs.length xs.length hi=xs.length)/\Q (.ref a) H
def znz:SlR X (zny X.K):=by
 intro pins s σ H x v vl vu lo hi sl Q I rx hs pl pu h
 obtain ⟨a,xs,rfl,hx,hw,q⟩:=h
 cases rx
 obtain ⟨its,r,ht,hz⟩:=I.tuple hx
 have hlen:its.toArray.size=xs.length:=by rw [yP];exact r.length.symm
 refine ⟨"tuple", _,PyProof.Rows.slot_tuple_getitem.lookup,ht.typeIs,?_⟩
 exact HT.getItem_tuple_all ht hs pl pu (by rw [hlen];exact hw) ⟨.ref a,H,I,rfl,q⟩ (by rw [hlen];exact hz)
def wP (fa:zk->Mo PV) (fl fu:zk->Mo (Option Int)):zk->Mo PV:=fun env st=>(fa env st).bind fun x st1=>(fl env st1).bind fun l st2=>(fu env st2).bind fun u st3=>oSl x l u st3
def zbU {lo hi:Option Expr}{fl fu:zk->Mo (Option Int)}{p2:Pos}(ha:ME X Er a fa) (hl:MO X Er lo fl) (hu:MO X Er hi fu):ME X Er (.Subscript a (.Slice lo hi none p2) pos) (wP fa fl fu) :=
 PE.weak (zlN (zlP.or (znz.or (zl4.or zmu))) ha hl hu) fun σ H Q ⟨env,st,ρ,re,rs,h⟩=>⟨env,st,ρ,re,rs,h.then fun ag H1 x st1 e1 s1 h1 v rv=>⟨env,st1,ag,re.ext e1,s1,h1.then fun au H2 l st2 e2 s2 h2 =>
  ⟨env,st2,au,(re.ext e1).ext e2,s2,h2.then fun ap H3 u st3 e3 s3 h3=>by
  have rv:=R.ext e3 x (R.ext e2 x rv)
  cases x with
  | tup xs =>
   obtain ⟨p,vs,rfl,k1,k2⟩:=rv
   by_cases hw:HT.sIx vs.length 0 l=0/\HT.sIx vs.length vs.length u=vs.length
   ·refine .inr (.inl ⟨p,vs,rfl,k1,hw,Out.now (x:=PV.tup (cutP xs l u)) h3 s3 _ ⟨p,vs,rfl,k1,?_⟩⟩)
    have:cutP xs l u=xs:=by
     unfold cutP
     rw [k2.len,hw.1,hw.2]
     simp [<-k2.len]
    rw [this];exact k2
   ·exact .inl ⟨p,vs,rfl,k1,hw,fun q hq=>h3 ap _ (Ext.new hq) (s3.new hq) _ (R.tup_of (k2.cut l u) hq)⟩
  | frl xs =>
   obtain ⟨p,vs,rfl,k1,k2⟩:=rv
   exact .inr (.inr (.inl ⟨p,vs,rfl,k1.sq,fun q hq=>Out.newList (xs:=cutP xs l u) h3 s3 (k2.cut l u) hq⟩))
  | ref n =>
   obtain ⟨p,rfl,hp⟩:=rv
   obtain ⟨xs,k0,h3⟩:=jJ h3
   obtain ⟨vs,k1,k2⟩:=s3.addr k0 hp
   exact .inr (.inr (.inl ⟨p,vs,rfl,SqL.of k1,fun q hq=>Out.newList (xs:=cutP xs l u) h3 s3 (k2.cut l u) hq⟩))
  | str z =>
   cases rv
   obtain ⟨k0,h3⟩:=Out.ifp h3
   exact .inr (.inr (.inr ⟨z,rfl,jt k0,h3.now s3 _ rfl⟩))
  | _=>exact h3.elim⟩⟩⟩
def CallM (K:Frag) (mg:Str->Option Value) (r:List V->Hp->VK->Prop) (op:List PV->Mo PV):Prop:=∀ρ H st xs vs (Q:VK) (E:XK),StR K mg ρ H st->Rs K mg ρ H xs vs->Out K mg ρ H (op xs st) (gV K mg Q) E->r vs H Q
def BltOk (X:Cx) (f:Value) (op:List PV->Mo PV):Prop:=∃r,CallR X f r/\CallM X.K X.mg r op
def zp (op:List PV->Mo PV) (fs:zk->Mo (List PV)):zk->Mo PV:=fun env st=>(fs env st).bind op
def yT {x:Str} {id:String} {op:List PV->Mo PV} {p:Pos} (h:BltOk X (.builtin id) op) (hm:X.mg x=none) (hv:bootBuiltins x=some (.builtin id)) (ha:MA X Er (e::es) fs) (hg:Gl X x:=by rfl) (hn:x ≠ "__name__" := by decide) (hdb:(x==("__debug__" : Str))=false:=by decide)
  (he:starEach (e::es) X.env=(false,eval e X.env)::starEach es X.env:=by rfl) (hpl:(backTo pos (starEach es X.env)).any (·.1)=false:=by rfl):ME X Er (.Call (.Name x p) (e::es) [] pos) (zp op fs):=by
 obtain ⟨r,h1,h2⟩:=h
 exact PE.weak (zlC h1 hg hm hv ha hn hdb he hpl) fun σ H Q ⟨env,st,ρ,re,rs,h⟩=>⟨env,st,ρ,re,rs,h.then fun ag H1 xs st1 e1 s1 k vs rv=>h2 ag H1 st1 xs vs Q Er s1 rv k⟩
def yX {x:Str} {T:String} {op:List PV->Mo PV} {p:Pos} (h:BltOk X (.type T) op) (hm:X.mg x=none) (hv:bootBuiltins x=some (.type T)) (ha:MA X Er (e::es) fs) (hg:Gl X x:=by rfl) (hn:x ≠ "__name__" := by decide) (hdb:(x==("__debug__" : Str))=false:=by decide)
  (he:starEach (e::es) X.env=(false,eval e X.env)::starEach es X.env:=by rfl) (hpl:(backTo pos (starEach es X.env)).any (·.1)=false:=by rfl):ME X Er (.Call (.Name x p) (e::es) [] pos) (zp op fs):=by
 obtain ⟨r,h1,h2⟩:=h
 exact PE.weak (zlD h1 hg hm hv ha hn hdb he hpl) fun σ H Q ⟨env,st,ρ,re,rs,h⟩=>⟨env,st,ρ,re,rs,h.then fun ag H1 xs st1 e1 s1 k vs rv=>h2 ag H1 st1 xs vs Q Er s1 rv k⟩
def za8 {x:Str} {n:String} (hm:X.mg x=none) (hv:bootBuiltins x=some (.type n)) (hg:Gl X x:=by rfl) (hn:x ≠ "__name__" := by decide) (hd:(x==("__debug__" : Str))=false:=by decide):ME X Er (.Name x pos) (mC (.ty n)) :=
 zcq (zkm (v:=.ty n) hg hm hv rfl hn hd) fun _ _=>rfl
def Rs.one {ρ:List Addr}{H:Hp}{x:PV}{vs:List V}(r:Rs K mg ρ H [x] vs):∃v,vs=[v]/\R K mg ρ H x v:=by
 obtain ⟨v,r',rfl,h,h'⟩:=r
 cases h'
 exact ⟨v,rfl,h⟩
def Rs.two {ρ:List Addr}{H:Hp}{x y:PV}{vs:List V}(r:Rs K mg ρ H [x,y] vs):∃v w,vs=[v,w]/\R K mg ρ H x v/\R K mg ρ H y w:=by
 obtain ⟨v,r',rfl,h,h'⟩:=r
 obtain ⟨w,rfl,h2⟩:=Rs.one h'
 exact ⟨v,w,rfl,h,h2⟩
def zds:List PV->Mo PV
 | [.tup xs],st=>.ok (.int xs.length) st
 | [.frl xs],st=>.ok (.int xs.length) st
 | [.str z],st=>if z.length<=lim then .ok (.int z.length) st else .stuck
 | [.ref n],st=>yo st n fun xs=>.ok (.int xs.length) st
 | _,_=>.stuck
def znA:BltOk X (.builtin "len") zds:=⟨_,zlp,fun ρ H st xs vs Q E s r h=>by
 match xs,r,h with
 | [.tup ys],r,h =>
  obtain ⟨v,rfl,p,ws,rfl,h1,h2⟩:=Rs.one r
  exact ⟨_,ws.length,rfl,.inr ⟨ws,h1,rfl⟩,by rw [<-h2.len];exact Out.now (x:=PV.int ys.length) h s _ rfl⟩
 | [.frl ys],r,h =>
  obtain ⟨v,rfl,p,ws,rfl,h1,h2⟩:=Rs.one r
  exact ⟨_,ws.length,rfl,.inl ⟨ws,h1.sq,rfl⟩,by rw [<-h2.len];exact Out.now (x:=PV.int ys.length) h s _ rfl⟩
 | [.str z],r,h =>
  obtain ⟨v,rfl,rfl⟩:=Rs.one r
  obtain ⟨c,h⟩:=Out.ifp h
  exact ⟨_,z.length,rfl,⟨jt c,rfl⟩,h.now s _ rfl⟩
 | [.ref n],r,h =>
  obtain ⟨v,rfl,p,rfl,hp⟩:=Rs.one r
  obtain ⟨ys,e,h⟩:=jJ h
  obtain ⟨ws,h1,h2⟩:=s.addr e hp
  exact ⟨_,ws.length,rfl,.inl ⟨ws,SqL.of h1,rfl⟩,by rw [<-h2.len];exact h.now s _ rfl⟩
 | [],r,h=>exact h.elim
 | [.non],r,h=>exact h.elim
 | [.bl _],r,h=>exact h.elim
 | [.int _],r,h=>exact h.elim
 | [.ty _],r,h=>exact h.elim
 | [.fn _],r,h=>exact h.elim
 | [.kd _ _],r,h=>exact h.elim
 | [.exo _ _ _],r,h=>exact h.elim
 | x::y::r',r,h=>cases x<;>exact h.elim⟩
def zgW:List PV->Mo PV
 | [.int i],st=>.ok (.int i) st
 | [.bl k],st=>.ok (.int (if k then 1 else 0)) st
 | _,_=>.stuck
def znB:BltOk X (.type "int") zgW:=⟨_,zln,fun ρ H st xs vs Q E s r h=>by
 match xs,r,h with
 | [.int i],r,h =>
  obtain ⟨v,rfl,rfl⟩:=Rs.one r
  exact .inl ⟨i,rfl,Out.now (x:=PV.int i) h s _ rfl⟩
 | [.bl k],r,h =>
  obtain ⟨v,rfl,rfl⟩:=Rs.one r
  exact .inr ⟨k,rfl,Out.now (x:=PV.int (if k then 1 else 0)) h s _ rfl⟩
 | [],r,h=>exact h.elim
 | [.non],r,h=>exact h.elim
 | [.str _],r,h=>exact h.elim
 | [.tup _],r,h=>exact h.elim
 | [.frl _],r,h=>exact h.elim
 | [.ref _],r,h=>exact h.elim
 | [.ty _],r,h=>exact h.elim
 | [.fn _],r,h=>exact h.elim
 | [.kd _ _],r,h=>exact h.elim
 | [.exo _ _ _],r,h=>exact h.elim
 | x::y::r',r,h=>cases x<;>exact h.elim⟩
def zcx:List PV->Mo PV
 | [.tup xs],st=>.ok (.ref st.length) (st++[.lst xs])
 | [.frl xs],st=>.ok (.ref st.length) (st++[.lst xs])
 | [.ref n],st=>yo st n fun xs=>.ok (.ref st.length) (st++[.lst xs])
 | _,_=>.stuck
def znC:BltOk X (.type "list") zcx:=⟨_,zl5,fun ρ H st xs vs Q E s r h=>by
 match xs,r,h with
 | [.tup ys],r,h =>
  obtain ⟨v,rfl,p,ws,rfl,h1,h2⟩:=Rs.one r
  exact ⟨p,ws,rfl,.inr h1,fun l hl=>Out.newList (xs:=ys) h s h2 hl⟩
 | [.frl ys],r,h =>
  obtain ⟨v,rfl,p,ws,rfl,h1,h2⟩:=Rs.one r
  exact ⟨p,ws,rfl,.inl h1.sq,fun l hl=>Out.newList (xs:=ys) h s h2 hl⟩
 | [.ref n],r,h =>
  obtain ⟨v,rfl,p,rfl,hp⟩:=Rs.one r
  obtain ⟨ys,e,h⟩:=jJ h
  obtain ⟨ws,h1,h2⟩:=s.addr e hp
  exact ⟨p,ws,rfl,.inl (SqL.of h1),fun l hl=>Out.newList (xs:=ys) h s h2 hl⟩
 | [],r,h=>exact h.elim
 | [.non],r,h=>exact h.elim
 | [.bl _],r,h=>exact h.elim
 | [.int _],r,h=>exact h.elim
 | [.str _],r,h=>exact h.elim
 | [.ty _],r,h=>exact h.elim
 | [.fn _],r,h=>exact h.elim
 | [.kd _ _],r,h=>exact h.elim
 | [.exo _ _ _],r,h=>exact h.elim
 | x::y::r',r,h=>cases x<;>exact h.elim⟩
def yL:List PV->Mo PV
 | [.tup xs],st=>.ok (.tup xs) st
 | [.frl xs],st=>.ok (.tup xs) st
 | [.ref n],st=>yo st n fun xs=>.ok (.tup xs) st
 | _,_=>.stuck
def jn:BltOk X (.type "tuple") yL:=⟨_,zl6,fun ρ H st xs vs Q E s r h=>by
 match xs,r,h with
 | [.tup ys],r,h =>
  obtain ⟨v,rfl,p,ws,rfl,h1,h2⟩:=Rs.one r
  exact ⟨p,ws,rfl,.inr ⟨h1,Out.now (x:=PV.tup ys) h s _ ⟨p,ws,rfl,h1,h2⟩⟩⟩
 | [.frl ys],r,h =>
  obtain ⟨v,rfl,p,ws,rfl,h1,h2⟩:=Rs.one r
  exact ⟨p,ws,rfl,.inl ⟨h1.sq,fun l hl=>h ρ _ (Ext.new hl) (s.new hl) _ (R.tup_of h2 hl)⟩⟩
 | [.ref n],r,h =>
  obtain ⟨v,rfl,p,rfl,hp⟩:=Rs.one r
  obtain ⟨ys,e,h⟩:=jJ h
  obtain ⟨ws,h1,h2⟩:=s.addr e hp
  exact ⟨p,ws,rfl,.inl ⟨SqL.of h1,fun l hl=>h ρ _ (Ext.new hl) (s.new hl) _ (R.tup_of h2 hl)⟩⟩
 | [],r,h=>exact h.elim
 | [.non],r,h=>exact h.elim
 | [.bl _],r,h=>exact h.elim
 | [.int _],r,h=>exact h.elim
 | [.str _],r,h=>exact h.elim
 | [.ty _],r,h=>exact h.elim
 | [.fn _],r,h=>exact h.elim
 | [.kd _ _],r,h=>exact h.elim
 | [.exo _ _ _],r,h=>exact h.elim
 | x::y::r',r,h=>cases x<;>exact h.elim⟩
def tyb (T n:String):Option Bool :=
 if T = "int" then (if n = "int" then some true else if n = "bool" \/ n = "str" \/ n = "tuple" \/ n = "dict" \/ n = "list" then some false else none)
 else if T = "bool" then (if n = "int" \/ n = "bool" then some true else if n = "str" \/ n = "tuple" \/ n = "dict" \/ n = "list" then some false else none)
 else if T = "str" then (if n = "str" then some true else if n = "int" \/ n = "bool" \/ n = "tuple" \/ n = "dict" \/ n = "list" then some false else none)
 else if T = "tuple" then (if n = "tuple" then some true else if n = "int" \/ n = "bool" \/ n = "str" \/ n = "dict" \/ n = "list" then some false else none)
 else if T = "list" then (if n = "list" then some true else if n = "int" \/ n = "bool" \/ n = "str" \/ n = "dict" \/ n = "tuple" then some false else none)
 else if T = "dict" then (if n = "dict" then some true else if n = "int" \/ n = "bool" \/ n = "str" \/ n = "list" \/ n = "tuple" then some false else none)
 else if T = "NoneType" then (if n = "int" \/ n = "bool" \/ n = "str" \/ n = "list" \/ n = "tuple" \/ n = "dict" then some false else none)
 else none
def znD (K:Frag) {T n:String}{b:Bool}(h:tyb T n=some b):PySem.W.kitOne K (.type T) (.type n)=some b:=by
 unfold tyb at h
 split at h
 ·rename_i e;subst e
  split at h
  ·rename_i e;subst e;cases h;first|rfl|kernel_rfl
  ·split at h
   ·rename_i e;cases h;rcases e with e|e|e|e|e<;>subst e<;>first|rfl|kernel_rfl
   ·cases h
 ·split at h
  ·rename_i e;subst e
   split at h
   ·rename_i e;cases h;rcases e with e|e<;>subst e<;>first|rfl|kernel_rfl
   ·split at h
    ·rename_i e;cases h;rcases e with e|e|e|e<;>subst e<;>first|rfl|kernel_rfl
    ·cases h
  ·split at h
   ·rename_i e;subst e
    split at h
    ·rename_i e;subst e;cases h;first|rfl|kernel_rfl
    ·split at h
     ·rename_i e;cases h;rcases e with e|e|e|e|e<;>subst e<;>first|rfl|kernel_rfl
     ·cases h
   ·split at h
    ·rename_i e;subst e
     split at h
     ·rename_i e;subst e;cases h;first|rfl|kernel_rfl
     ·split at h
      ·rename_i e;cases h;rcases e with e|e|e|e|e<;>subst e<;>first|rfl|kernel_rfl
      ·cases h
    ·split at h
     ·rename_i e;subst e
      split at h
      ·rename_i e;subst e;cases h;first|rfl|kernel_rfl
      ·split at h
       ·rename_i e;cases h;rcases e with e|e|e|e|e<;>subst e<;>first|rfl|kernel_rfl
       ·cases h
     ·split at h
      ·rename_i e;subst e
       split at h
       ·rename_i e;subst e;cases h;first|rfl|kernel_rfl
       ·split at h
        ·rename_i e;cases h;rcases e with e|e|e|e|e<;>subst e<;>first|rfl|kernel_rfl
        ·cases h
      ·split at h
       ·rename_i e;subst e
        split at h
        ·rename_i e;cases h;rcases e with e|e|e|e|e|e<;>subst e<;>first|rfl|kernel_rfl
        ·cases h
       ·cases h
end
def spM (K:Frag) (mg:Str->Option Value) (m:List PV->Mo PV):Sp:=fun vs H Q E=>∃xs st ρ,Rs K mg ρ H xs vs/\StR K mg ρ H st/\Out K mg ρ H (m xs st) (gV K mg Q) E
section
variable (P:Program) (w:World) (K:Frag) (mg:Str->Option Value) (base:Heap)
def FOk (x:Str) (k:Nat) (m:List PV->Mo PV):Prop:=∃f fd ps,mg x=some (.ref f)/\keepIn K (.ref f)=true/\Binds K fd ps []/\FnOk P w K mg base (CXe P w) k f fd ps (spM K mg m)
def MOk (c name:Str) (k:Nat) (m:List PV->Mo PV):Prop:=∃C f fd ps,mg c=some (.ref C)/\Cls K C/\Meth K C name f/\Binds K fd ps []/\FnOk P w K mg base (CXe P w) k f fd ps (spM K mg m)
def NOk (c:Str) (k:Nat) (m:List PV->Mo PV):Prop:=∃C f fd ps,mg c=some (.ref C)/\Mk K C f/\Binds K fd ps []/\FnOk P w K mg base (CXe P w) k f fd ps (spM K mg m)
def XOk (c fld:Str):Prop:=∃C f fd,mg c=some (.ref C)/\ExMk K C f/\FnOk P w K mg base (CXe P w) 1 f fd ["self", fld] (zmU C fld)/\Binds K fd ["self", fld] []
end
section
variable {X:Cx}{Er:XK}{K:Frag}{mg:Str->Option Value}{a b c e o:Expr}{es:List Expr}{pos p apos:Pos}{fa fb fc fo:zk->Mo PV}{fs:zk->Mo (List PV)}{k:Nat}{x:Str}{m:List PV->Mo PV}
def zD (C:FOk X.prog X.w X.K X.mg X.base x k m) (hr:Room k X.A) (ht:za4 X Er) (ha:MA X Er (e::es) fs) (hg:Gl X x:=by rfl) (hdb:(x==("__debug__" : Str))=false:=by decide)
  (he:starEach (e::es) X.env=(false,eval e X.env)::starEach es X.env:=by rfl) (hpl:(backTo pos (starEach es X.env)).any (·.1)=false:=by rfl):ME X Er (.Call (.Name x p) (e::es) [] pos) (zp m fs):=by
 obtain ⟨f,fd,ps,hm,hk,hb,F⟩:=C
 exact PE.weak (zlA F hr hg hm hk hb .nil (zmX ht) ha hdb he hpl) fun σ H Q ⟨env,st,ρ,re,rs,h⟩=>⟨env,st,ρ,re,rs,h.then fun ag H1 xs st1 e1 s1 k vs rv=>by
  show spM X.K X.mg m (vs++[]) H1 Q Er
  rw [List.append_nil]
  exact ⟨xs,st1,ag,rv,s1,k⟩⟩
def zbV {ρ:List Addr}{H:Hp}{f:Str}:∀{ks:List Str}{xs:List PV}{vs:List V}{x:PV},Rs K mg ρ H xs vs->(ks.zip xs).lookup f=some x->∃v,(ks.zip vs).lookup f=some v/\R K mg ρ H x v
 | [],_,_,_,_,h=>by simp at h
 | k::ks,[],_,_,_,h=>by simp at h
 | k::ks,y::xs,_,x,r,h=>by
  obtain ⟨v,r',rfl,h1,h2⟩:=r
  simp only [List.zip_cons_cons,wZ] at h ⊢
  split at h
  ·cases h;exact ⟨v,rfl,h1⟩
  ·exact zbV h2 h
def zes {f:Str}{β:Type}:∀{ks:List Str}{vs:List β},f∉ks->(ks.zip vs).lookup f=none
 | [],_,_=>by simp
 | k::ks,[],_=>by simp
 | k::ks,v::vs,h=>by
  simp only [yQ,not_or] at h
  simp only [List.zip_cons_cons,wZ]
  have:(f==k)=false:=by simpa using h.1
  rw [this]
  exact zes h.2
structure FldF (K:Frag) (mg:Str->Option Value) (f:Str) (ins exc:Str->Bool):Prop where
 i:∀c,ins c=true->∃C,mg c=some (.ref C)/\Cls K C/\NoAttr K C f
 x:∀c,exc c=true->∃C,mg c=some (.ref C)/\ExGa K C/\hasDictIn K C=true/\findIn K (.ref C) f=some none
def soCls:Option SO->Option (String ⊕ (Bool×Str))
 | some (.lst _)=>some (.inl "list")
 | some (.dic _ _)=>some (.inl "dict")
 | some (.ins c _ _)=>some (.inr (false,c))
 | some (.fdi _ _)=>none
 | none=>none
def clsP (st:Sto):PV->Option (String ⊕ (Bool×Str))
 | .non=>some (.inl "NoneType")
 | .bl _=>some (.inl "bool")
 | .int _=>some (.inl "int")
 | .str _=>some (.inl "str")
 | .tup _=>some (.inl "tuple")
 | .ref n=>soCls st[n]?
 | .exo c _ _=>some (.inr (true,c))
 | _=>none
def optB (o:Option Bool):Mo PV:=fun st=>match o with
 | some b=>.ok (.bl b) st
 | none=>.stuck
def zdt {ρ:List Addr}{H:Hp}{o:Option Bool}{st:Sto}{good}(h:Out K mg ρ H (optB o st) good Er):∃b,o=some b/\Out K mg ρ H (.ok (.bl b) st) good Er:=by
 cases o with
 | some x=>exact ⟨x,rfl,h⟩
 | none=>exact h.elim
structure IsT where
 isx:Str->Bool
 sub:Str->Str->Option Bool
 subT:Str->String->Option Bool
 tyC:String->Str->Option Bool
def isiA (t:IsT) (st:Sto):PV->Option (String ⊕ (Bool×Str))->Mo PV
 | .ty n,some (.inl T),st=>optB (tyb T n) st
 | .ty n,some (.inr (f,c)),st=>if t.isx c=f then optB (t.subT c n) st else .stuck
 | .fn B,some (.inl T),st=>optB (t.tyC T B) st
 | .fn B,some (.inr (f,c)),st=>if t.isx c=f then optB (t.sub c B) st else .stuck
 | _,_,_=>.stuck
def wy (t:IsT):List PV->Mo PV
 | [x,y],st=>isiA t st y (clsP st x) st
 | _,_=>.stuck
structure InIs (K:Frag) (C:Addr):Prop where
 cl:Cls K C
 ha:findIn K (.ref C) "__class__" = some (some (.builtin "object.__class__"))
 hn:specialIn K (.builtin "object.__class__") "__get__" = some (some (.builtin "getset_descriptor.__get__"))
 tk:takesIn K (.builtin "object.__class__")=some true
 hm:mroIn K C (.type "object")=some true
structure IsF (K:Frag) (mg:Str->Option Value) (t:IsT):Prop where
 s:∀c B b,t.sub c B=some b->∃C D,mg c=some (.ref C)/\mg B=some (.ref D)/\kitOne K (.ref C) (.ref D)=some b
 tt:∀c n b,t.subT c n=some b->∃C,mg c=some (.ref C)/\kitOne K (.ref C) (.type n)=some b
 u:∀T B b,t.tyC T B=some b->∃D,mg B=some (.ref D)/\kitOne K (.type T) (.ref D)=some b
 x:∀c C,t.isx c=true->mg c=some (.ref C)->((∃B b,t.sub c B=some b)\/∃n b,t.subT c n=some b)->ExIs K C
 i:∀c C,t.isx c=false->mg c=some (.ref C)->((∃B b,t.sub c B=some b)\/∃n b,t.subT c n=some b)->InIs K C
inductive TyA (K:Frag) (H:Hp):V->Value->Prop where
 | of {v:V} {t:Value} (h:TyOf K H v t):TyA K H v t
 | tup {a:Addr} {vs:List V} (h:SqT K H a vs):TyA K H (.ref a) (.type "tuple")
 | exc {a C d:Addr} {fs:List (Str×V)} (ha:H a=some (exC C (some d) a)) (hd:H d=some (.xd fs)) (k:ExIs K C):TyA K H (.ref a) (.ref C)
def znE {pins:List (Addr×Obj)}{σ:L2.St}{H:Hp}{s:Shared}{v:V}{u t c:Value}{b:Bool}{Q:Value->Shared->Prop}{A:Around}{E:Value->Shared->Prop}(I:Inv X pins σ H s) (r:RelV v u) (ty:TyA X.K H v t) (e:kitOne X.K t c=some b) (h:∀tk,Q (.bool b) { s with toks:=tk }) :
  wpAny (model X.prog X.w) A (call (.builtin "isinstance") [u,c]) Q E s:=by
 cases ty with
 | of ty=>exact zlr I r ty e h
 | @tup a vs hq =>
  obtain rfl:u=Value.ref a:=r
  obtain ⟨its,_,p,_⟩:=I.tuple hq
  obtain ⟨o,h1,h2,_⟩:=p
  exact PySem.W.kia_one PySem.W.kitx_tuple I.kIn ⟨o,h1,h2⟩ e (fun z=>nomatch z) h
 | @exc a C d fs ha hd k =>
  obtain rfl:u=Value.ref a:=r
  exact zm2 I ha hd k e h
def znF:CallR X (.builtin "isinstance") (fun xs H Q=>∃v w t c b,xs=[v,w]/\TyA X.K H v t/\RelV w c/\(∀c',RelV w c'->c'=c)/\kitOne X.K t c=some b/\Q (.bl b) H):=by
 intro pins s σ H xs us Q I r h
 obtain ⟨v,w,t,c,b,rfl,ty,rw,un,e,q⟩:=h
 obtain ⟨u,w',rfl,ru,rw'⟩:=zdc r
 obtain rfl:=un w' rw'
 exact znE I ru ty e fun tk=>⟨.bl b,H,I.tok _,rfl,q⟩
def zgX {ρ:List Addr}{H:Hp}{st:Sto}{x:PV}{v:V}{T:String}(s:StR K mg ρ H st) (r:R K mg ρ H x v) (h:clsP st x=some (.inl T)):TyA K H v (.type T):=by
 cases x with
 | non=>cases h;cases r;exact .of .non
 | bl b=>cases h;cases r;exact .of (.bl b)
 | int i=>cases h;cases r;exact .of (.int i)
 | str z=>cases h;cases r;exact .of (.str z)
 | tup xs=>cases h;obtain ⟨a,vs,rfl,h1,_⟩:=r;exact .tup h1
 | frl xs=>cases h
 | ref n =>
  obtain ⟨a,rfl,ha⟩:=r
  have h:soCls st[n]?=some (.inl T):=h
  cases e:st[n]? with
  | none=>rw [e] at h;cases h
  | some so =>
   rw [e] at h
   cases so with
   | lst xs=>cases h;obtain ⟨vs,h1,_⟩:=s.addr e ha;exact .of (.lst h1)
   | dic ks xs=>cases h;obtain ⟨vs,h1,_⟩:=s.addr e ha;exact .of (.dK h1)
   | ins c ks xs=>cases h
   | fdi ks xs=>cases h
 | ty _=>cases h
 | fn _=>cases h
 | kd _ _=>cases h
 | exo _ _ _=>cases h
def zgY {ρ:List Addr}{H:Hp}{st:Sto}{x:PV}{v:V}{f:Bool}{c:Str}(hx:∀C,f=true->mg c=some (.ref C)->ExIs K C) (hi:∀C,f=false->mg c=some (.ref C)->InIs K C) (s:StR K mg ρ H st) (r:R K mg ρ H x v) (h:clsP st x=some (.inr (f,c))):∃C,mg c=some (.ref C)/\TyA K H v (.ref C):=by
 cases x with
 | ref n =>
  obtain ⟨a,rfl,ha⟩:=r
  have h:soCls st[n]?=some (.inr (f,c)):=h
  cases e:st[n]? with
  | none=>rw [e] at h;cases h
  | some so =>
   rw [e] at h
   cases so with
   | lst xs=>cases h
   | dic ks xs=>cases h
   | fdi ks xs=>cases h
   | ins c' ks xs =>
    cases h
    obtain ⟨C,dx,vs,hC,hH,_⟩:=s.addr e ha
    have q:=hi C rfl hC
    exact ⟨C,hC,.of (.ins hH q.cl q.ha q.hn q.tk q.hm)⟩
 | exo c' ks xs =>
  cases h
  obtain ⟨a,C,d,vs,rfl,hC,hH,hd,_⟩:=r
  exact ⟨C,hC,.exc hH hd (hx C rfl hC)⟩
 | non=>cases h
 | bl _=>cases h
 | int _=>cases h
 | str _=>cases h
 | tup _=>cases h
 | frl _=>cases h
 | ty _=>cases h
 | fn _=>cases h
 | kd _ _=>cases h
def za9 {t:IsT} (F:IsF X.K X.mg t):BltOk X (.builtin "isinstance") (wy t):=⟨_,znF,fun ρ H st xs vs Q E s r h=>by
 match xs,r,h with
 | [x,y],r,h =>
  obtain ⟨v,w,rfl,rx,ry⟩:=Rs.two r
  have h:Out X.K X.mg ρ H (isiA t st y (clsP st x) st) (gV X.K X.mg Q) E:=h
  cases hc:clsP st x with
  | none=>rw [hc] at h;cases y<;>exact h.elim
  | some cc =>
   rw [hc] at h
   cases cc with
   | inl T =>
    cases y with
    | ty n =>
     cases ry
     obtain ⟨b,hb,h⟩:=zdt h
     exact ⟨v,_,_,_,b,rfl,zgX s rx hc,rfl,fun c' h=>h,znD X.K hb,h.now s _ rfl⟩
    | fn B =>
     obtain ⟨D,rfl,hD⟩:=ry
     obtain ⟨b,hb,h⟩:=zdt h
     obtain ⟨D',hD',k⟩:=F.u T B b hb
     rw [hD] at hD'
     cases hD'
     exact ⟨v,_,_,_,b,rfl,zgX s rx hc,rfl,fun c' h=>h,k,h.now s _ rfl⟩
    | _=>exact h.elim
   | inr fc =>
    obtain ⟨f,c⟩:=fc
    cases y with
    | ty n =>
     cases ry
     obtain ⟨hf,h⟩:=Out.ifp h
     obtain ⟨b,hb,h⟩:=zdt h
     obtain ⟨C,hC,k⟩:=F.tt c n b hb
     obtain ⟨C',hC',ty⟩:=zgY (fun C e hC=>F.x c C (hf.trans e) hC (.inr ⟨n,b,hb⟩)) (fun C e hC=>F.i c C (hf.trans e) hC (.inr ⟨n,b,hb⟩)) s rx hc
     rw [hC] at hC'
     cases hC'
     exact ⟨v,_,_,_,b,rfl,ty,rfl,fun c' h=>h,k,h.now s _ rfl⟩
    | fn B =>
     obtain ⟨D,rfl,hD⟩:=ry
     obtain ⟨hf,h⟩:=Out.ifp h
     obtain ⟨b,hb,h⟩:=zdt h
     obtain ⟨C,D',hC,hD',k⟩:=F.s c B b hb
     rw [hD] at hD'
     cases hD'
     obtain ⟨C',hC',ty⟩:=zgY (fun C e hC=>F.x c C (hf.trans e) hC (.inl ⟨B,b,hb⟩)) (fun C e hC=>F.i c C (hf.trans e) hC (.inl ⟨B,b,hb⟩)) s rx hc
     rw [hC] at hC'
     cases hC'
     exact ⟨v,_,_,_,b,rfl,ty,rfl,fun c' h=>h,k,h.now s _ rfl⟩
    | _=>exact h.elim
 | [],r,h=>exact h.elim
 | [_],r,h=>exact h.elim
 | _::_::_::_,r,h=>exact h.elim⟩
end
section
variable {X:Cx}{Er:XK}{K:Frag}{mg:Str->Option Value}{a b c e o:Expr}{es:List Expr}{st:Stmt}{sts:List Stmt}{pos p apos pos':Pos}{fa fb fc fo:zk->Mo PV}{fs:zk->Mo (List PV)}{k:Nat}{x:Str}{m:List PV->Mo PV}
variable {g g' gb:zk->Mo Fl}{ga:zk->Mo Bool}
def Out.fl {ρ:List Addr}{H:Hp}{st:Sto}{D:Ends}{fl:Fl}{E:XK}(h:Out K mg ρ H (.ok fl st) (gS K mg D) E) (s:StR K mg ρ H st):gS K mg D ρ H fl st:=h.now s
def yg:zk->Mo Fl:=fun env st=>.ok (.nx env) st
def flowOn (g:zk->Mo Fl):Fl->Mo Fl
 | .nx env,st=>g env st
 | fl,st=>.ok fl st
def zu (g g':zk->Mo Fl):zk->Mo Fl:=fun env st=>(g env st).bind (flowOn g')
def yp:MSs X Er [] yg:=PSs.weak zkD fun D σ H ⟨env,st,ρ,re,rs,h⟩=>h.now rs σ re
def zx (h1:MS X Er st g) (h2:MSs X Er sts g'):MSs X Er (st::sts) (zu g g') :=
 PSs.weak (zkE h1 h2) fun D σ H ⟨env,st,ρ,re,rs,h⟩=>⟨env,st,ρ,re,rs,h.then fun ag H1 fl st1 e1 s1 h1=>by
  cases fl with
  | nx env1=>exact fun aw re1=>⟨env1,st1,ag,re1,s1,h1⟩
  | rt v=>exact Out.fl (D:=D) (fl:=.rt v) (E:=Er) h1 s1
  | bk env1=>exact Out.fl (D:=D) (fl:=.bk env1) (E:=Er) h1 s1
  | ct env1=>exact Out.fl (D:=D) (fl:=.ct env1) (E:=Er) h1 s1⟩
def zJ (h1:MS X Er st g):MSs X Er [st] g:=zkF h1
def zC (i:Nat) (f:zk->Mo PV):zk->Mo Fl:=fun env st=>(f env st).bind fun x st1=>.ok (.nx (env.set i (some x))) st1
def zO (i:Nat) {x:Str}(he:ME X Er e fa) (hN:X.N.Nodup) (hi:X.N[i]?=some x:=by rfl) (hx:Loc X.env.scope x:=by first|exact Or.inl rfl|exact Or.inr rfl) (hs:swapsWith e (some (.Name x pos')) pos.line X.env=pure false:=by rfl)
  (hf:X.fn x=true\/X.env.scope.names.lookup x=some .local:=by first|exact .inl rfl|exact .inr rfl|assumption):MS X Er (.Assign [.Name x pos'] e pos) (zC i fa) :=
 PS.weak (zkQ hN hi hx he hs hf) fun D σ H ⟨env,st,ρ,re,rs,h⟩=>⟨env,st,ρ,re,rs,h.then fun ag H1 x st1 e1 s1 h1 v rv=>h1.now s1 _ ((re.ext e1).set i rv)⟩
def yH (f:zk->Mo PV):zk->Mo Fl:=fun env st=>(f env st).bind fun _ st1=>.ok (.nx env) st1
def jR (he:ME X Er e fa) (hs:swapsWith e none pos.line X.env=pure false:=by rfl):MS X Er (.Expr e pos) (yH fa) :=
 PS.weak (zkH he hs) fun D σ H ⟨env,st,ρ,re,rs,h⟩=>⟨env,st,ρ,re,rs,h.then fun ag H1 x st1 e1 s1 h1 v rv=>h1.now s1 _ (re.ext e1)⟩
def zS (f:zk->Mo PV):zk->Mo Fl:=fun env st=>(f env st).bind fun x st1=>.ok (.rt x) st1
def zV (he:ME X Er e fa):MS X Er (.Return (some e) pos) (zS fa) :=
 PS.weak (zkJ he) fun D σ H ⟨env,st,ρ,re,rs,h⟩=>⟨env,st,ρ,re,rs,h.then fun ag H1 x st1 e1 s1 h1 v rv=>h1.now s1 _ rv⟩
def yd (t:zk->Mo Bool) (g g':zk->Mo Fl):zk->Mo Fl:=fun env st=>(t env st).bind fun c st1=>if c=true then g env st1 else g' env st1
def yq {A B:List Stmt}(hc:MT X Er c ga) (ha:MSs X Er A g) (hb:MSs X Er B g'):MS X Er (.If c A B pos) (yd ga g g') :=
 PS.weak (zkL hc ha hb) fun D σ H ⟨env,st,ρ,re,rs,h⟩=>⟨env,st,ρ,re,rs,h.then fun ag H1 k st1 e1 s1 h1=>by
  cases k with
  | true=>exact ⟨env,st1,ag,re.ext e1,s1,h1⟩
  | false=>exact ⟨env,st1,ag,re.ext e1,s1,h1⟩⟩
def putK (f:Str) (x:PV):List Str->List PV->List Str×List PV
 | k::ks,y::ys=>if k=f then (k::ks,x::ys) else (k::(putK f x ks ys).1,y::(putK f x ks ys).2)
 | _,_=>([f],[x])
def putAt (f:Str) (ins:Str->Bool) (x:PV):PV->Mo Unit
 | .ref n,st=>znk st n fun c ks xs=>if ins c=true/\ks.length<1000 then .ok () (st.set n (.ins c (putK f x ks xs).1 (putK f x ks xs).2)) else .stuck
 | _,_=>.stuck
def sFld (f:Str) (ins:Str->Bool) (fo fv:zk->Mo PV):zk->Mo Fl:=fun env st=>(fv env st).bind fun x st1=>(fo env st1).bind fun o st2=>(putAt f ins x o st2).bind fun _ st3=>.ok (.nx env) st3
def MG (X:Cx) (Er:XK) (e:Expr) (g:PV->zk->Option zk):Prop:=PG X e fun v σ H Q=>∃x env env' ρ,R X.K X.mg ρ H x v/\EnvR X.K X.mg ρ H env σ/\g x env=some env'/\∀aj,EnvR X.K X.mg ρ H env' aj->Q aj H
def PG.weak {t t':TG}(h:PG X e t) (w:∀v σ H Q,t' v σ H Q->t v σ H Q):PG X e t':=fun pins s σ H v u Q I r q=>h pins s σ H v u Q I r (w v σ H Q q)
def gN (i:Nat):PV->zk->Option zk:=fun x env=>some (env.set i (some x))
def jS (i:Nat) {x:Str}(hN:X.N.Nodup) (hi:X.N[i]?=some x:=by rfl) (hx:Loc X.env.scope x:=by first|exact Or.inl rfl|exact Or.inr rfl) (hf:X.fn x=true\/X.env.scope.names.lookup x=some .local:=by first|exact .inl rfl|exact .inr rfl|assumption):MG X Er (.Name x pos) (gN i) :=
 PG.weak (za2 hN hi hx hf) fun v σ H Q ⟨x,env,env',ρ,rx,re,hg,q⟩=>by
  cases hg
  exact q _ (re.set i rx)
def g2 (i j:Nat):PV->zk->Option zk
 | .tup [x,y],env=>some ((env.set i (some x)).set j (some y))
 | _,_=>none
def znG {i j:Nat}{x:PV}{env env':zk}(h:g2 i j x env=some env'):∃y z,x=.tup [y,z]/\env'=(env.set i (some y)).set j (some z):=by
 unfold g2 at h
 split at h
 ·cases h;exact ⟨_,_,rfl,rfl⟩
 ·cases h
def zbW (i j:Nat) {x y:Str}{kt:Nat}{px py:Pos}(hc:X.calm=true) (hN:X.N.Nodup) (hi:X.N[i]?=some x:=by rfl) (hj:X.N[j]?=some y:=by rfl) (hx:Loc X.env.scope x:=by first|exact Or.inl rfl|exact Or.inr rfl) (hy:Loc X.env.scope y:=by first|exact Or.inl rfl|exact Or.inr rfl)
  (hf:X.fn x=true\/X.env.scope.names.lookup x=some .local:=by first|exact .inl rfl|exact .inr rfl|assumption) (hf':X.fn y=true\/X.env.scope.names.lookup y=some .local:=by first|exact .inl rfl|exact .inr rfl|assumption):MG X Er (.Tuple [.Name x px,.Name y py] kt pos) (g2 i j) :=
 PG.weak (zfW (n:=2) hc (zdb (za2 hN hi hx hf) (zdb (za2 hN hj hy hf') zfU))) fun v σ H Q ⟨x,env,env',ρ,rx,re,hg,q⟩=>by
  obtain ⟨y,z,rfl,rfl⟩:=znG hg
  obtain ⟨a,vs,rfl,h1,h2⟩:=rx
  obtain ⟨u,w,rfl,r1,r2⟩:=Rs.two h2
  exact ⟨a,_,rfl,h1,rfl,u,[w],rfl,w,[],rfl,rfl,q _ ((re.set i r1).set j r2)⟩
def g3 (i j k:Nat):PV->zk->Option zk
 | .tup [x,y,z],env=>some (((env.set i (some x)).set j (some y)).set k (some z))
 | _,_=>none
def sTo (g:PV->zk->Option zk) (f:zk->Mo PV):zk->Mo Fl:=fun env st=>(f env st).bind fun x st1=>match g x env with
 | some env'=>.ok (.nx env') st1
 | none=>.stuck
def zcy {tg:Expr}{gt:PV->zk->Option zk}(hg:MG X Er tg gt) (he:ME X Er e fa) (hs:swapsWithSole [tg] e pos.line X.env=pure false:=by rfl) (hw:swappedStores [tg] e X.env=pure none:=by rfl)
  (h1:(assignEach [tg] X.env).map (·.2)=[assign tg X.env]:=by rfl):MS X Er (.Assign [tg] e pos) (sTo gt fa) :=
 PS.weak (zfY he hg hs hw h1) fun D σ H ⟨env,st,ρ,re,rs,h⟩=>⟨env,st,ρ,re,rs,h.then fun ag H1 x st1 e1 s1 h1 v rv=>by
  cases hx:gt x env with
  | none=>simp only [hx] at h1;exact h1.elim
  | some env' =>
   simp only [hx] at h1
   exact ⟨x,env,env',ag,rv,re.ext e1,hx,fun aj r'=>Out.now (x:=Fl.nx env') h1 s1 aj r'⟩⟩
inductive Sq where
 | im (xs:List PV)|rf (n:Nat)
def Walk (K:Frag) (mg:Str->Option Value) (J:It) (ρ:List Addr) (H:Hp):Sq->Prop
 | .im xs=>(∀i ah H',Ext ρ H ah H'->i<xs.length->J.go i H')/\(∀i ah H',Ext ρ H ah H'->xs.length<=i->J.stop i H') /\
  ∀i ah H' st v H2,Ext ρ H ah H'->StR K mg ah H' st->i<xs.length->J.yld i H' v H2->∃x,xs[i]?=some x/\Ext ah H' ah H2/\StR K mg ah H2 st/\R K mg ah H2 x v
 | .rf n=>∃a,ρ[n]?=some a/\J=Itl K a
def MI (X:Cx) (Er:XK) (tg iter:Expr) (src:zk->Mo Sq):Prop:=PI X tg iter fun σ H R=>∃env st ρ,EnvR X.K X.mg ρ H env σ/\StR X.K X.mg ρ H st/\Out X.K X.mg ρ H (src env st) (fun ah H' q st'=>∀J,Walk X.K X.mg J ah H' q->R J H') Er
def forL (g:PV->zk->Option zk) (body:zk->Mo Fl):List PV->zk->Mo Fl
 | [],env,st=>.ok (.nx env) st
 | x::xs,env,st=>match g x env with
  | none=>.stuck
  | some env1=>(body env1 st).bind fun fl st2=>match fl with
   | .nx e=>forL g body xs e st2
   | .ct e=>forL g body xs e st2
   | .bk e=>.ok (.nx e) st2
   | .rt v=>.ok (.rt v) st2
def forR (g:PV->zk->Option zk) (body:zk->Mo Fl) (n:Nat):Nat->Nat->zk->Mo Fl
 | 0,_,_,_=>.stuck
 | m+1,i,env,st=>yo st n fun xs=>match xs[i]? with
  | none=>.ok (.nx env) st
  | some x=>match g x env with
   | none=>.stuck
   | some env1=>(body env1 st).bind fun fl st2=>match fl with
    | .nx e=>forR g body n m (i+1) e st2
    | .ct e=>forR g body n m (i+1) e st2
    | .bk e=>.ok (.nx e) st2
    | .rt v=>.ok (.rt v) st2
def forS (g:PV->zk->Option zk) (body:zk->Mo Fl):Sq->zk->Mo Fl
 | .im xs=>forL g body xs
 | .rf n=>forR g body n (lim+1) 0
def yU (src:zk->Mo Sq) (g:PV->zk->Option zk) (body:zk->Mo Fl):zk->Mo Fl:=fun env st=>(src env st).bind fun q st1=>forS g body q env st1
def jL {tg iter:Expr}{src:zk->Mo Sq}{gt:PV->zk->Option zk}(hp:PassesOwn (model X.prog X.w) X.A X.env X.xe) (hc:X.calm=true) (hi:MI X Er tg iter src) (hg:MG X Er tg gt) (hb:MSs X Er sts gb)
  (hs:∀x,foldedSetIterable iter X.env x=pure x:=by intro _;rfl):MS X Er (.For tg iter sts [] pos) (yU src gt gb) :=
 PS.weak (zk0 hp hc hi hg hb hs) fun D σ H ⟨env,st,ρ,re,rs,h⟩=>⟨env,st,ρ,re,rs,h.then fun av H0 q st0 e0 s0 h0 J wk=>by
  cases q with
  | im xs =>
   obtain ⟨w1,w2,w3⟩:=wk
   refine ⟨fun i m σ H=>m=xs.length-i/\i<=xs.length/\∃env st ρ,EnvR X.K X.mg ρ H env σ/\StR X.K X.mg ρ H st/\Ext av H0 ρ H/\Out X.K X.mg ρ H (forL gt gb (xs.drop i) env st) (gS X.K X.mg D) Er,⟨xs.length,by simp,yR _,env,st0,av,re.ext e0,s0,Ext.refl,h0⟩,?_⟩
   rintro i m σ H ⟨rfl,hi,env,st,ρ,re,rs,ex,h⟩
   by_cases hlt:i<xs.length
   ·refine .inr ⟨w1 i ρ H ex hlt,_,fun aj H' p'=>⟨xs.length-(i+1),by omega,rfl,hlt,p'⟩,fun v H' y=>?_⟩
    obtain ⟨x,hx,ex2,s2,rx⟩:=w3 i ρ H st v H' ex rs hlt y
    have hd:xs.drop i=x::xs.drop (i+1):=by
     rw [wc hlt]
     have:=(yI.mp hx).2
     rw [this]
    rw [hd] at h
    cases hgx:gt x env with
    | none=>simp only [forL,hgx] at h;exact h.elim
    | some env1 =>
     simp only [forL,hgx] at h
     refine ⟨x,env,env1,ρ,rx,re.ext ex2,hgx,fun aw r1=>⟨env1,st,ρ,r1,s2,Out.then (Out.ext h ex2) fun ap H3 fl st3 e3 s3 h3=>?_⟩⟩
     cases fl with
     | nx e=>exact fun aF r4=>⟨e,st3,ap,r4,s3,(ex.trans ex2).trans e3,h3⟩
     | ct e=>exact fun aF r4=>⟨e,st3,ap,r4,s3,(ex.trans ex2).trans e3,h3⟩
     | bk e=>exact Out.fl (D:=D) (fl:=.nx e) (E:=Er) h3 s3
     | rt v=>exact Out.fl (D:=D) (fl:=.rt v) (E:=Er) h3 s3
   ·have e:i=xs.length:=by omega
    subst e
    rw [List.drop_length] at h
    exact .inl ⟨w2 _ ρ H ex (yf _),Out.now (x:=Fl.nx env) h rs σ re⟩
  | rf n =>
   obtain ⟨a,ha,rfl⟩:=wk
   refine ⟨fun i m σ H=>∃env st ρ,EnvR X.K X.mg ρ H env σ/\StR X.K X.mg ρ H st/\ρ[n]?=some a/\Out X.K X.mg ρ H (forR gt gb n m i env st) (gS X.K X.mg D) Er,⟨lim+1,env,st0,av,re.ext e0,s0,ha,h0⟩,?_⟩
   rintro i m σ H ⟨env,st,ρ,re,rs,ha,h⟩
   cases m with
   | zero=>exact h.elim
   | succ m =>
    obtain ⟨xs,hn,h⟩:=jJ h
    obtain ⟨vs,hH,hR⟩:=rs.addr hn ha
    cases hx:xs[i]? with
    | none =>
     simp only [hx] at h
     have:vs.length<=i:=by rw [<-hR.len];exact zbo.mp hx
     exact .inl ⟨⟨vs,SqL.of hH,this⟩,Out.now (x:=Fl.nx env) h rs σ re⟩
    | some x =>
     simp only [hx] at h
     obtain ⟨v,hv,rv⟩:=hR.get hx
     refine .inr ⟨⟨vs,v,SqL.of hH,hv⟩,_,fun aj H' p'=>⟨m,za1 m,p'⟩,fun v' H' y=>?_⟩
     obtain ⟨e1,y⟩:=y
     subst e1
     have e2:=y vs (SqL.of hH)
     rw [hv] at e2
     cases e2
     cases hgx:gt x env with
     | none=>simp only [hgx] at h;exact h.elim
     | some env1 =>
      simp only [hgx] at h
      refine ⟨x,env,env1,ρ,rv,re,hgx,fun aw r1=>⟨env1,st,ρ,r1,rs,Out.then h fun ap H3 fl st3 e3 s3 h3=>?_⟩⟩
      cases fl with
      | nx e=>exact fun aF r4=>⟨e,st3,ap,r4,s3,e3.get ha,h3⟩
      | ct e=>exact fun aF r4=>⟨e,st3,ap,r4,s3,e3.get ha,h3⟩
      | bk e=>exact Out.fl (D:=D) (fl:=.nx e) (E:=Er) h3 s3
      | rt v=>exact Out.fl (D:=D) (fl:=.rt v) (E:=Er) h3 s3⟩
end
section
variable {X:Cx}{Er:XK}{K:Frag}{mg:Str->Option Value}{a b c e o tg:Expr}{es:List Expr}{st:Stmt}{sts:List Stmt}{pos p apos pos':Pos}{fa fb fc fo:zk->Mo PV}{fs:zk->Mo (List PV)}{k:Nat}{x:Str}{m:List PV->Mo PV}
variable {g g' gb:zk->Mo Fl}{ga:zk->Mo Bool}
def PI.weak {t t':TI}(h:PI X tg e t) (w:∀σ H Q,t' σ H Q->t σ H Q):PI X tg e t':=fun pins s σ H Q I q=>h pins s σ H Q I (w σ H Q q)
def znH (K:Frag) (tl:TE):TI:=fun σ H R=>tl σ H fun x H1=>(∃a,x=.ref a/\(∃xs,SqL K H1 a xs)/\R (Itl K a) H1)\/(∃a,x=.ref a/\(∃xs,SqT K H1 a xs)/\R (Itt K a) H1)\/∃z,x=.str z/\R (Its z) H1
def znI {l:Expr}{tl:TE}(hl:PE X l tl):PI X tg l (znH X.K tl):=by
 intro pins s σ H R I h
 refine thn (hl pins s σ H _ I h) fun v s1 ⟨x,H1,I1,r1,q1⟩=>?_
 have fin:∀b∈[s1.heap.objs.size],FpOk X pins H1 b:=fun b hb=>by
  have e:b=s1.heap.objs.size:=by simpa using hb
  subst e
  exact I1.fpOk (yf _) (I1.hok.fresh (yf _))
 rcases q1 with ⟨a,e,⟨xs,hq⟩,q⟩|⟨a,e,⟨xs,hq⟩,q⟩|⟨z,rfl,q⟩
 ·subst e
  cases r1
  obtain ⟨its,rv,p,hz⟩:=I1.list hq
  exact wpAny_pyIter_list p.isList ⟨s1.heap.objs.size,[s1.heap.objs.size],_,_,H1,rfl,I1.kept (t':=s1.toks) (fun b o e=>yv _ e),zkT a _,⟨_,jv _ rfl,rfl,rfl⟩,fin,q⟩
 ·subst e
  cases r1
  obtain ⟨its,rv,p,hz⟩:=I1.tuple hq
  exact wpAny_pyIter_tuple (show s1.heap.IsTuple a its.toArray from p) ⟨s1.heap.objs.size,[s1.heap.objs.size],_,_,H1,rfl,I1.kept (t':=s1.toks) (fun b o e=>yv _ e),zkU a _,⟨_,jv _ rfl,rfl,rfl⟩,fin,q⟩
 ·obtain ⟨t,rfl⟩:=r1
  cases ha:z.cps.all (·<128) with
  | false=>exact wpAny_pyIter_wide ha ⟨s1.heap.objs.size,[s1.heap.objs.size],_,_,H1,rfl,I1.kept (t':=s1.toks) (fun b o e=>yv _ e),zgw z t _ "str_iterator" (.inr rfl),⟨_,jv _ rfl,rfl,rfl⟩,fin,q⟩
  | true=>exact wpAny_pyIter_ascii ha ⟨s1.heap.objs.size,[s1.heap.objs.size],_,_,H1,rfl,I1.kept (t':=s1.toks) (fun b o e=>yv _ e),zgw z t _ "str_ascii_iterator" (.inl rfl),⟨_,jv _ rfl,rfl,rfl⟩,fin,q⟩
def znJ {ρ:List Addr}{H:Hp}{a:Addr}{xs:List PV}{vs:List V}(h:SqT K H a vs) (r:Rs K mg ρ H xs vs):Walk K mg (Itt K a) ρ H (.im xs):=by
 refine ⟨fun i ah H' e hi=>?_,fun i ah H' e hi=>⟨vs,e.sqT h,by rw [<-r.len];exact hi⟩,fun i ah H' st v H2 e s hi y=>?_⟩
 ·obtain ⟨v,hv,_⟩:=r.get (zU hi)
  exact ⟨vs,v,e.sqT h,hv⟩
 ·obtain ⟨e1,y⟩:=y
  subst e1
  obtain ⟨v',hv,rv⟩:=r.get (zU hi)
  have:=y vs (e.sqT h)
  rw [hv] at this
  cases this
  exact ⟨_,zU hi,Ext.refl,s,R.ext e _ rv⟩
def znK {ρ:List Addr}{H:Hp}{a:Addr}{xs:List PV}{vs:List V}(h:FrL K H a vs) (r:Rs K mg ρ H xs vs):Walk K mg (Itl K a) ρ H (.im xs):=by
 have hs:∀{ah H'},Ext ρ H ah H'->SqL K H' a vs:=fun e=>(e.frl h).sq
 refine ⟨fun i ah H' e hi=>?_,fun i ah H' e hi=>⟨vs,hs e,by rw [<-r.len];exact hi⟩,fun i ah H' st v H2 e s hi y=>?_⟩
 ·obtain ⟨v,hv,_⟩:=r.get (zU hi)
  exact ⟨vs,v,hs e,hv⟩
 ·obtain ⟨e1,y⟩:=y
  subst e1
  obtain ⟨v',hv,rv⟩:=r.get (zU hi)
  have:=y vs (hs e)
  rw [hv] at this
  cases this
  exact ⟨_,zU hi,Ext.refl,s,R.ext e _ rv⟩
def signs (z:Str):List PV:=z.cps.toList.map fun c=>.str ⟨#[c]⟩
def znL {ρ:List Addr}{H:Hp}(z:Str):Walk K mg (Its z) ρ H (.im (signs z)):=by
 have hl:(signs z).length=z.cps.size:=by simp [signs]
 refine ⟨fun i ah H' e hi=>by rw [hl] at hi;exact hi,fun i ah H' e hi=>by rw [hl] at hi;exact hi,fun i ah H' st v H2 e s hi y=>?_⟩
 obtain ⟨e1,c,hc,e2⟩:=y
 subst e1 e2
 refine ⟨.str ⟨#[c]⟩,?_,Ext.refl,s,rfl⟩
 simp [signs,hc]
def nums (lo:Int) (n:Nat):List PV:=(List.range n).map fun i=>.int (lo+(i:Nat))
def znM {ρ:List Addr}{H:Hp}(lo:Int) (n:Nat):Walk K mg (Itr lo n) ρ H (.im (nums lo n)):=by
 have hl:(nums lo n).length=n:=by simp [nums]
 refine ⟨fun i ah H' e hi=>by rw [hl] at hi;exact hi,fun i ah H' e hi=>by rw [hl] at hi;exact hi,fun i ah H' st v H2 e s hi y=>?_⟩
 obtain ⟨e1,e2⟩:=y
 subst e1 e2
 rw [hl] at hi
 exact ⟨.int (lo+i),by simp [nums,hi],Ext.refl,s,rfl⟩
def seqOf:PV->Mo Sq
 | .tup xs,st=>.ok (.im xs) st
 | .frl xs,st=>.ok (.im xs) st
 | .str z,st=>.ok (.im (signs z)) st
 | .ref n,st=>yo st n fun _=>.ok (.rf n) st
 | _,_=>.stuck
def yO (f:zk->Mo PV):zk->Mo Sq:=fun env st=>(f env st).bind seqOf
def j6 (h:ME X Er e fa):MI X Er tg e (yO fa):=PI.weak (znI h) fun σ H Q ⟨env,st,ρ,re,rs,h⟩=>⟨env,st,ρ,re,rs,h.then fun ag H1 x st1 e1 s1 h1 v rv=>by
 cases x with
 | tup xs =>
  obtain ⟨a,vs,rfl,k1,k2⟩:=rv
  exact .inr (.inl ⟨a,rfl,⟨vs,k1⟩,Out.now (x:=Sq.im xs) h1 s1 _ (znJ k1 k2)⟩)
 | frl xs =>
  obtain ⟨a,vs,rfl,k1,k2⟩:=rv
  exact .inl ⟨a,rfl,⟨vs,k1.sq⟩,Out.now (x:=Sq.im xs) h1 s1 _ (znK k1 k2)⟩
 | str z =>
  cases rv
  exact .inr (.inr ⟨z,rfl,Out.now (x:=Sq.im (signs z)) h1 s1 _ (znL z)⟩)
 | ref n =>
  obtain ⟨a,rfl,ha⟩:=rv
  obtain ⟨xs,hn,h1⟩:=jJ h1
  obtain ⟨vs,k1,k2⟩:=s1.addr hn ha
  exact .inl ⟨a,rfl,⟨vs,SqL.of k1⟩,h1.now s1 _ ⟨a,ha,rfl⟩⟩
 | _=>exact h1.elim⟩
abbrev cR (j:Int):Bool:=decide (-(2 ^ 62)<=j)&&decide (j<2 ^ 62)
def zbu:List PV->Mo Sq
 | [.int j],st=>if cR j=true then .ok (.im (nums 0 j.toNat)) st else .stuck
 | _,_=>.stuck
def znN:List PV->Mo Sq
 | [.int i,.int j],st=>if cR i=true/\cR j=true then .ok (.im (nums i (j-i).toNat)) st else .stuck
 | _,_=>.stuck
def znO {ρ:List Addr}{H:Hp}{xs:List PV}{st:Sto}{good:List Addr->Hp->Sq->Sto->Prop}(h:Out K mg ρ H (zbu xs st) good Er):∃j,xs=[.int j] /\ -(2 ^ 62)<=j/\j<2 ^ 62/\Out K mg ρ H (.ok (.im (nums 0 j.toNat)) st) good Er:=by
 unfold zbu at h
 split at h
 ·obtain ⟨c,h⟩:=Out.ifp h
  simp [cR] at c
  exact ⟨_,rfl,c.1,c.2,h⟩
 ·exact h.elim
def iRng1 (fs:zk->Mo (List PV)):zk->Mo Sq:=fun env st=>(fs env st).bind zbu
def iRng2 (fs:zk->Mo (List PV)):zk->Mo Sq:=fun env st=>(fs env st).bind znN
def jC {a:Expr} (hm:X.mg "range" = none) (ha:MA X Er [a] fs) (hg:Gl X "range" := by rfl) (hs:starEach [a] X.env=[(false,eval a X.env)]:=by rfl):MI X Er tg (.Call (.Name "range" p) [a] [] pos) (iRng1 fs) :=
 PI.weak (zkX hg hm ha hs) fun σ H Q ⟨env,st,ρ,re,rs,h⟩=>⟨env,st,ρ,re,rs,h.then fun ag H1 xs st1 e1 s1 h1 vs rv=>by
  obtain ⟨j,rfl,c1,c2,h1⟩:=znO h1
  obtain ⟨v,rfl,rfl⟩:=Rs.one rv
  exact ⟨j,rfl,c1,c2,h1.now s1 _ (znM 0 j.toNat)⟩⟩
def zbv (xs ys:List PV):List PV:=(xs.zip ys).map fun q=>.tup [q.1,q.2]
def zcz:List PV->Mo Sq
 | [.tup xs,.tup ys],st=>.ok (.im (zbv xs ys)) st
 | _,_=>.stuck
def znP {ρ:List Addr}{H:Hp}{xs:List PV}{st:Sto}{good:List Addr->Hp->Sq->Sto->Prop}(h:Out K mg ρ H (zcz xs st) good Er):∃ys zs,xs=[.tup ys,.tup zs]/\Out K mg ρ H (.ok (.im (zbv ys zs)) st) good Er:=by
 unfold zcz at h
 split at h
 ·exact ⟨_,_,rfl,h⟩
 ·exact h.elim
def znQ {ρ:List Addr}{H:Hp}{a b:Addr}{xs ys:List PV}{vs ws:List V}(h:SqT K H a vs) (r:Rs K mg ρ H xs vs) (h':SqT K H b ws) (r':Rs K mg ρ H ys ws):Walk K mg (Itz K a b) ρ H (.im (zbv xs ys)):=by
 have hl:(zbv xs ys).length=min xs.length ys.length:=by simp [zbv]
 have l1:=r.len
 have l2:=r'.len
 refine ⟨fun i ah H' e hi=>?_,fun i ah H' e hi=>⟨vs,ws,e.sqT h,e.sqT h',by rw [hl] at hi;omega⟩,fun i ah H' st v H2 e s hi y=>?_⟩
 ·rw [hl] at hi
  obtain ⟨v,hv,_⟩:=r.get (zU (show i<xs.length by omega))
  obtain ⟨w,hw,_⟩:=r'.get (zU (show i<ys.length by omega))
  exact ⟨vs,ws,v,w,e.sqT h,e.sqT h',hv,hw⟩
 ·rw [hl] at hi
  obtain ⟨T,v',w',hT,rfl,rfl,y1,y2⟩:=y
  have k1:i<xs.length:=by omega
  have k2:i<ys.length:=by omega
  obtain ⟨v,hv,rv⟩:=r.get (zU k1)
  obtain ⟨w,hw,rw'⟩:=r'.get (zU k2)
  have q1:=y1 vs (e.sqT h)
  have q2:=y2 ws (e.sqT h')
  rw [hv] at q1
  rw [hw] at q2
  cases q1;cases q2
  refine ⟨.tup [xs[i],ys[i]],?_,Ext.new hT,s.new hT,R.tup_of ⟨_,[_],rfl,R.ext e _ rv,_,[],rfl,R.ext e _ rw',rfl⟩ hT⟩
  rw [zbv,jk,zU (by simp;omega)]
  simp
def zet (fs:zk->Mo (List PV)):zk->Mo Sq:=fun env st=>(fs env st).bind zcz
def znR {elts:List Expr} {kt:Nat} {tp:Pos} {x y:Expr} (hm:X.mg "zip" = none) (ha:MA X Er [x,y] fs) (hg:Gl X "zip" := by rfl) (hs:starEach [x,y] X.env=[(false,eval x X.env),(false,eval y X.env)]:=by rfl) (hs2:starEach [y] X.env=[(false,eval y X.env)]:=by rfl) :
  MI X Er (.Tuple elts kt tp) (.Call (.Name "zip" p) [x,y] [] pos) (zet fs) :=
 PI.weak (zna hg hm ha hs hs2) fun σ H Q ⟨env,st,ρ,re,rs,h⟩=>⟨env,st,ρ,re,rs,h.then fun ag H1 xs st1 e1 s1 h1 vs rv=>by
  obtain ⟨ys,zs,rfl,h1⟩:=znP h1
  obtain ⟨v,w,rfl,⟨a,us,rfl,k1,k2⟩,⟨b,ws,rfl,k3,k4⟩⟩:=Rs.two rv
  exact ⟨a,b,rfl,⟨us,k1⟩,⟨ws,k3⟩,h1.now s1 _ (znQ k1 k2 k3 k4)⟩⟩
def whileF (t:zk->Mo Bool) (b:zk->Mo Fl):Nat->zk->Mo Fl
 | 0,_,_=>.stuck
 | n+1,env,st=>(t env st).bind fun c st1=>if c=true then (b env st1).bind fun fl st2=>match fl with
   | .nx e=>whileF t b n e st2
   | .ct e=>whileF t b n e st2
   | .bk e=>.ok (.nx e) st2
   | .rt v=>.ok (.rt v) st2
  else .ok (.nx env) st1
def zgZ (t:zk->Mo Bool) (b:zk->Mo Fl):zk->Mo Fl:=whileF t b lim
def znS (hp:PassesOwn (model X.prog X.w) X.A X.env X.xe) (hc:MT X Er c ga) (hb:MSs X Er sts gb):MS X Er (.While c sts [] pos) (zgZ ga gb) :=
 PS.weak (zkS hp hc hb) fun D σ H ⟨env,st,ρ,re,rs,h⟩=>by
  refine ⟨fun m σ H=>∃env st ρ,EnvR X.K X.mg ρ H env σ/\StR X.K X.mg ρ H st/\Out X.K X.mg ρ H (whileF ga gb m env st) (gS X.K X.mg D) Er,⟨lim,env,st,ρ,re,rs,h⟩,?_⟩
  rintro m σ H ⟨env,st,ρ,re,rs,h⟩
  cases m with
  | zero=>exact h.elim
  | succ m =>
   refine ⟨env,st,ρ,re,rs,Out.then h fun ag H1 k st1 e1 s1 h1=>?_⟩
   cases k with
   | true =>
    change (if true=true then _ else D.nx σ H1)
    rw [zH rfl]
    refine ⟨_,fun aj H' p'=>⟨m,za1 m,p'⟩,env,st1,ag,re.ext e1,s1,Out.then h1 fun ap H3 fl st3 e3 s3 h3=>?_⟩
    cases fl with
    | nx e=>exact fun aF r4=>⟨e,st3,ap,r4,s3,h3⟩
    | ct e=>exact fun aF r4=>⟨e,st3,ap,r4,s3,h3⟩
    | bk e=>exact Out.fl (D:=D) (fl:=.nx e) (E:=Er) h3 s3
    | rt v=>exact Out.fl (D:=D) (fl:=.rt v) (E:=Er) h3 s3
   | false =>
    have z:D.nx σ H1:=Out.fl (D:=D) (fl:=.nx env) (E:=Er) h1 s1 σ (re.ext e1)
    exact z
def sRaise0 (cn:Str):zk->Mo Fl:=fun _ st=>.err cn [] [] st
def noErr {α:Type}:Res α->Res α
 | .err _ _ _ _=>.stuck
 | r=>r
def zaQ {α β:Type}{ρ:List Addr}{H:Hp}{r:Res β}{f:β->Mo α}{good:List Addr->Hp->α->Sto->Prop}{good':List Addr->Hp->β->Sto->Prop}{E E':XK}(h:Out K mg ρ H ((noErr r).bind f) good E) (g:∀ah H' x st,Ext ρ H ah H'->StR K mg ah H' st->Out K mg ah H' (f x st) good E->good' ah H' x st):Out K mg ρ H r good' E':=by
 cases r with
 | ok x st=>exact fun ah H' e s=>g ah H' x st e s (Out.ext h e)
 | err=>exact h.elim
 | stuck=>exact h.elim
def yM:PV->PV->Mo PV
 | .ref n,y,st=>yo st n fun xs=>if xs.length<lim then .ok .non (st.set n (.lst (xs++[y]))) else .stuck
 | _,_,_=>.stuck
def zdu:PV->PV->Mo PV
 | .ref n,.ref k,st=>yo st n fun xs=>yo st k fun ys=>if xs.length+ys.length<=lim then .ok .non (st.set n (.lst (xs++ys))) else .stuck
 | _,_,_=>.stuck
def R.refL {ρ:List Addr}{H:Hp}{st:Sto}{n:Nat}{xs:List PV}{v:V}(s:StR K mg ρ H st) (r:R K mg ρ H (.ref n) v) (h:st[n]?=some (.lst xs)):∃a vs,v=.ref a/\ρ[n]?=some a/\H a=some (.lst vs)/\Rs K mg ρ H xs vs:=by
 obtain ⟨a,rfl,ha⟩:=r
 obtain ⟨vs,h1,h2⟩:=s.addr h ha
 exact ⟨a,vs,rfl,ha,h1,h2⟩
def recL:PV->Mo PV
 | .ref n,st=>yo st n fun _=>.ok (.ref n) st
 | _,_=>.stuck
def yC (op:PV->PV->Mo PV) (fo fv:zk->Mo PV):zk->Mo PV:=fun env st=>(fo env st).bind fun o st1=>(recL o st1).bind fun o st1=>(fv env st1).bind fun y st2=>op o y st2
def zeu {α:Type}{ρ:List Addr}{H:Hp}{x:PV}{st:Sto}{f:PV->Mo α}{good:List Addr->Hp->α->Sto->Prop}(h:Out K mg ρ H ((recL x st).bind f) good Er):∃n xs,x=.ref n/\st[n]?=some (.lst xs)/\Out K mg ρ H (f (.ref n) st) good Er:=by
 cases x with
 | ref n =>
  unfold recL yo at h
  cases hn:st[n]? with
  | none=>simp only [hn] at h;exact h.elim
  | some so =>
   cases so with
   | lst xs=>simp only [hn] at h;exact ⟨n,xs,rfl,hn,h⟩
   | _=>simp only [hn] at h;exact h.elim
 | _=>exact h.elim
def j2 {cpos:Pos} (ho:ME X Er o fo) (he:ME X Er e fa) (hbase:attributeBase o "append" X.env (eval o X.env)=eval o X.env:=by rfl)
  (hfew:((backTo cpos (starEach [e] X.env)).all (fun x=>!x.1)&&(backToKw cpos (keywordEach [] X.env)).all (fun x=>x.1.isSome)&&decide ([e].length+([]:List Keyword).length+(if ([]:List Keyword).isEmpty then 0 else 1)<30))=true:=by rfl)
  (hline:(apos.endLine==cpos.line)=true:=by rfl) (hs:starEach [e] X.env=(false,eval e X.env)::starEach [] X.env:=by rfl) (hpl:(backTo cpos (starEach [] X.env)).any (·.1)=false:=by rfl):ME X Er (.Call (.Attribute o "append" apos) [e] [] cpos) (yC yM fo fa) :=
 PE.weak (zdd PySem.F.plainAttrs_list PySem.F.slot_list_append PySem.F.type_list_append zmc ho (zcn he zcm hs) hbase hfew hline hs hpl) fun σ H Q ⟨env,st,ρ,re,rs,h⟩=>⟨env,st,ρ,re,rs,h.then fun ag H1 x st1 e1 s1 h1 v rv=>by
  obtain ⟨n,xs,rfl,hn,h1⟩:=zeu h1
  obtain ⟨p,vs,rfl,hp,k1,k2⟩:=R.refL s1 rv hn
  refine ⟨.inl ⟨rfl,vs,SqL.of k1⟩,env,st1,ag,re.ext e1,s1,h1.then fun au H2 y st2 e2 s2 h2 w rw=>?_⟩
  obtain ⟨xs2,hn2,h2⟩:=jJ h2
  obtain ⟨c,h2⟩:=Out.ifp h2
  obtain ⟨p',vs2,e3,hp2,k3,k4⟩:=R.refL s2 (R.ext e2 _ rv) hn2
  cases e3
  have ew:Ext au H2 au (upd H2 p (.lst (vs2++[w]))):=Ext.write k3 rfl
  refine ⟨p,vs2,w,rfl,rfl,k3,?_,h2 au _ ew (s2.write hp2 ew ⟨vs2++[w],jA,Rs.ext ew _ (k4.append ⟨w,[],rfl,rw,rfl⟩)⟩) _ rfl⟩
  rw [<-k4.len,sizeLine_eq];have:xs2.length<1000000:=c;omega⟩
def znT {cpos:Pos} (ho:ME X Er o fo) (he:ME X Er e fa) (hbase:attributeBase o "extend" X.env (eval o X.env)=eval o X.env:=by rfl)
  (hfew:((backTo cpos (starEach [e] X.env)).all (fun x=>!x.1)&&(backToKw cpos (keywordEach [] X.env)).all (fun x=>x.1.isSome)&&decide ([e].length+([]:List Keyword).length+(if ([]:List Keyword).isEmpty then 0 else 1)<30))=true:=by rfl)
  (hline:(apos.endLine==cpos.line)=true:=by rfl) (hs:starEach [e] X.env=(false,eval e X.env)::starEach [] X.env:=by rfl) (hpl:(backTo cpos (starEach [] X.env)).any (·.1)=false:=by rfl):ME X Er (.Call (.Attribute o "extend" apos) [e] [] cpos) (yC zdu fo fa) :=
 PE.weak (zdd PySem.F.plainAttrs_list PySem.F.slot_list_extend PySem.F.type_list_extend zme ho (zcn he zcm hs) hbase hfew hline hs hpl) fun σ H Q ⟨env,st,ρ,re,rs,h⟩=>⟨env,st,ρ,re,rs,h.then fun ag H1 x st1 e1 s1 h1 v rv=>by
  obtain ⟨n,xs,rfl,hn,h1⟩:=zeu h1
  obtain ⟨p,vs,rfl,hp,k1,k2⟩:=R.refL s1 rv hn
  refine ⟨.inl ⟨rfl,vs,SqL.of k1⟩,env,st1,ag,re.ext e1,s1,h1.then fun au H2 y st2 e2 s2 h2 w rw=>?_⟩
  cases y with
  | ref m =>
   obtain ⟨xs2,hn2,h2⟩:=jJ h2
   obtain ⟨ys2,hm2,h2⟩:=jJ h2
   obtain ⟨c,h2⟩:=Out.ifp h2
   obtain ⟨p',vs2,e3,hp2,k3,k4⟩:=R.refL s2 (R.ext e2 _ rv) hn2
   cases e3
   obtain ⟨q,ws2,rfl,hq2,k5,k6⟩:=R.refL s2 rw hm2
   have ew:Ext au H2 au (upd H2 p (.lst (vs2++ws2))):=Ext.write k3 rfl
   exact ⟨p,q,vs2,ws2,rfl,rfl,k3,k5,by rw [<-k4.len,<-k6.len];exact jt c,h2 au _ ew (s2.write hp2 ew ⟨vs2++ws2,jA,Rs.ext ew _ (k4.append k6)⟩) _ rfl⟩
  | _=>exact h2.elim⟩
end
def endOf:Fl->Mo PV
 | .rt v,st=>.ok v st
 | .nx _,st=>.ok .non st
 | _,_=>.stuck
def yr (np nN:Nat) (g:zk->Mo Fl):List PV->Mo PV:=fun xs st=>if xs.length=np then (g (xs.map some++List.replicate (nN-np) none) st).bind endOf else .stuck
section
variable {P:Program}{w:World}{K:Frag}{mg:Str->Option Value}{base:Heap}
abbrev cxD (P:Program) (w:World) (K:Frag) (mg:Str->Option Value) (base:Heap) (N:List Str) (qual:Str) (scope:Scope) (f:Addr) (cd:Value) (A:Around) (outer:List Env) (s:Shared) (H:Hp) (E:XK):Cx :=
 (cxOf (CXe P w) P w K mg base N qual scope f cd A outer s H E).wish (XA (cxOf (CXe P w) P w K mg base N qual scope f cd A outer s H E) E)
def znU {N:List Str}{np:Nat}{ρ:List Addr}{H:Hp}{xs:List PV}{vs:List V}(r:Rs K mg ρ H xs vs) (h:xs.length=np):EnvR K mg ρ H (xs.map some++List.replicate (N.length-np) none) (L2.start N vs):=by
 have hl:=r.len
 refine ⟨by simp [L2.start,<-hl,h],fun i x hx=>?_⟩
 by_cases hi:i<xs.length
 ·rw [zaG (by simpa using hi)] at hx
  simp only [jk] at hx
  cases hq:xs[i]? with
  | none=>rw [hq] at hx;cases hx
  | some y =>
   rw [hq] at hx
   cases hx
   obtain ⟨v,hv,rv⟩:=r.get hq
   refine ⟨v,?_,rv⟩
   unfold L2.start
   rw [zaG (by simp;omega)]
   simp [hv]
 ·rw [zaW (by simpa using hi)] at hx
  rw [List.getElem?_replicate] at hx
  split at hx<;>cases hx
def zdv {x qual:Str}{sm:Stmt}{f:Addr}{fd:FuncData}{N ps:List Str}{k:Nat}{g:zk->Mo Fl}(F:Fun K x qual sm f fd) (S:FnScope N ps (zT sm))
  (hb:∀(cdv:Value) (A:Around) (outer:List Env) (s:Shared) (H:Hp) (E:XK),Room k (A.deeper (PyProof.Rows.envOfC qual (zT sm) s.heap.objs.size f cdv))->MSs (cxD P w K mg base N qual (zT sm) f cdv A outer s H E) E (wf sm) g) :
  FnOk P w K mg base (CXe P w) (k+1) f fd ps (spM K mg (yr ps.length N.length g)):=by
 refine F.okT S (fun vs H Q E h=>?_) fun cdv A outer s H vs Q E hr h=>⟨_,hb cdv A outer s H E hr,?_⟩
 ·obtain ⟨xs,st,ρ,r,_,h⟩:=h
  obtain ⟨hl,_⟩:=Out.ifp h
  rw [<-r.len];exact hl
 ·obtain ⟨xs,st,ρ,r,rs,h⟩:=h
  obtain ⟨hl,h⟩:=Out.ifp h
  refine ⟨_,st,ρ,znU r hl,rs,h.then fun ag H1 fl st1 e1 s1 h1=>?_⟩
  cases fl with
  | rt v=>exact fun u ru=>Out.now (x:=v) h1 s1 u ru
  | nx e=>exact fun aj _=>Out.now (x:=PV.non) h1 s1 _ rfl
  | _=>exact h1.elim
def fok {x:Str}{f:Addr}{fd:FuncData}{ps:List Str}{k:Nat}{m:List PV->Mo PV}{sm:Stmt}{qual nm:Str}(hm:mg x=some (.ref f)) (F:Fun K nm qual sm f fd) (hb:Binds K fd ps []) (h:FnOk P w K mg base (CXe P w) k f fd ps (spM K mg m)):FOk P w K mg base x k m:=⟨f,fd,ps,hm,F.kp,hb,h⟩
end
section
variable {X:Cx}{Er:XK}{P:Program}{w:World}{K:Frag}{mg:Str->Option Value}{base:Heap}{pos:Pos}{x:Str}{st:Stmt}
def yn {k:Nat}{A:Around}(hr:Room k A):A.units+200<cLine:=by have:=hr.un;omega
def zbw:zk->Mo Fl:=fun _ _=>.stuck
def FnF (K:Frag) (mg:Str->Option Value) (x:Str) (sm:Stmt) (ps:List Str):Prop:=∃f fd,mg x=some (.ref f)/\Fun K x x sm f fd/\Binds K fd ps []
def MtF (K:Frag) (mg:Str->Option Value) (c name qual:Str) (sm:Stmt) (ps:List Str):Prop:=∃C f fd,mg c=some (.ref C)/\Cls K C/\Meth K C name f/\Fun K name qual sm f fd/\Binds K fd ps []
def NwF (K:Frag) (mg:Str->Option Value) (c qual:Str) (sm:Stmt) (ps:List Str):Prop:=∃C f fd,mg c=some (.ref C)/\Mk K C f/\Fun K "__init__" qual sm f fd/\Binds K fd ps []
def XnF (K:Frag) (mg:Str->Option Value) (c fld qual:Str) (sm:Stmt):Prop:=∃C f fd,mg c=some (.ref C)/\ExMk K C f/\ExCls K C fld/\Fun K "__init__" qual sm f fd/\Binds K fd ["self", fld] []
def FnF.ok {sm:Stmt}{N ps:List Str}{k:Nat}{g:zk->Mo Fl}(h:FnF K mg x sm ps) (S:FnScope N ps (zT sm))
  (hb:∀(f:Addr) (cdv:Value) (A:Around) (outer:List Env) (s:Shared) (H:Hp) (E:XK),Room k (A.deeper (PyProof.Rows.envOfC x (zT sm) s.heap.objs.size f cdv))->MSs (cxD P w K mg base N x (zT sm) f cdv A outer s H E) E (wf sm) g) :
  FOk P w K mg base x (k+1) (yr ps.length N.length g):=by
 obtain ⟨f,fd,hm,F,b⟩:=h
 exact fok hm F b (zdv F S (hb f))
def MtF.ok {c name qual:Str}{sm:Stmt}{N ps:List Str}{k:Nat}{g:zk->Mo Fl}(h:MtF K mg c name qual sm ps) (S:FnScope N ps (zT sm))
  (hb:∀(f:Addr) (cdv:Value) (A:Around) (outer:List Env) (s:Shared) (H:Hp) (E:XK),Room k (A.deeper (PyProof.Rows.envOfC qual (zT sm) s.heap.objs.size f cdv))->MSs (cxD P w K mg base N qual (zT sm) f cdv A outer s H E) E (wf sm) g) :
  MOk P w K mg base c name (k+1) (yr ps.length N.length g):=by
 obtain ⟨C,f,fd,hm,cl,mt,F,b⟩:=h
 exact ⟨C,f,fd,ps,hm,cl,mt,b,zdv F S (hb f)⟩
def NwF.ok {c qual:Str}{sm:Stmt}{N ps:List Str}{k:Nat}{g:zk->Mo Fl}(h:NwF K mg c qual sm ps) (S:FnScope N ps (zT sm))
  (hb:∀(f:Addr) (cdv:Value) (A:Around) (outer:List Env) (s:Shared) (H:Hp) (E:XK),Room k (A.deeper (PyProof.Rows.envOfC qual (zT sm) s.heap.objs.size f cdv))->MSs (cxD P w K mg base N qual (zT sm) f cdv A outer s H E) E (wf sm) g) :
  NOk P w K mg base c (k+1) (yr ps.length N.length g):=by
 obtain ⟨C,f,fd,hm,mk,F,b⟩:=h
 exact ⟨C,f,fd,ps,hm,mk,b,zdv F S (hb f)⟩
def XnF.ok {c fld qual:Str} {sm:Stmt} (h:XnF K mg c fld qual sm) (S:FnScope ["self", fld] ["self", fld] (zT sm))
  (hb:∀(C f:Addr) (cdv:Value) (A:Around) (outer:List Env) (s:Shared) (H:Hp) (E:XK),ExCls K C fld->PSs (cxOf (CXe P w) P w K mg base ["self", fld] qual (zT sm) f cdv A outer s H E) (wf sm) (zmT K (zda 0) (zda 1) fld)) :
  XOk P w K mg base c fld:=by
 obtain ⟨C,f,fd,hm,M,xc,F,b⟩:=h
 refine ⟨C,f,fd,hm,M,F.okX S (fun vs H Q E h=>?_) (fun cdv A outer s H vs Q E hr h=>⟨_,hb C f cdv A outer s H E xc,?_⟩),b⟩
 ·obtain ⟨a,t,y,rfl,_⟩:=h;rfl
 ·obtain ⟨a,t,y,rfl,ha,q⟩:=h
  exact ⟨y,rfl,.ref a,rfl,a,C,t,rfl,ha,xc,fun d hd=>q d hd⟩
def jM:bootBuiltins "len" = some (.builtin "len"):=by decide +kernel
def zba:bootBuiltins "isinstance" = some (.builtin "isinstance"):=by decide +kernel
def zdw:bootBuiltins "int" = some (.type "int"):=by decide +kernel
def znV:bootBuiltins "bool" = some (.type "bool"):=by decide +kernel
def zev:bootBuiltins "str" = some (.type "str"):=by decide +kernel
def jf:bootBuiltins "tuple" = some (.type "tuple"):=by decide +kernel
def znW:bootBuiltins "dict" = some (.type "dict"):=by decide +kernel
def zcA:bootBuiltins "list" = some (.type "list"):=by decide +kernel
end
def FOk.mono {P:Program}{w:World}{K:Frag}{mg:Str->Option Value}{base:Heap}{x:Str}{j k:Nat}{m:List PV->Mo PV}(h:FOk P w K mg base x j m) (hjk:j<=k):FOk P w K mg base x k m:=by
 obtain ⟨f,fd,ps,h1,h2,h3,h4⟩:=h
 exact ⟨f,fd,ps,h1,h2,h3,h4.mono hjk⟩
def MOk.mono {P:Program}{w:World}{K:Frag}{mg:Str->Option Value}{base:Heap}{c x:Str}{j k:Nat}{m:List PV->Mo PV}(h:MOk P w K mg base c x j m) (hjk:j<=k):MOk P w K mg base c x k m:=by
 obtain ⟨C,f,fd,ps,h1,h2,h3,h4,h5⟩:=h
 exact ⟨C,f,fd,ps,h1,h2,h3,h4,h5.mono hjk⟩
def spLaw (K:Frag):Sp:=fun vs H Q _=>∃(a:Addr) (ns:List Int),vs=[.ref a]/\SqL K H a (ns.map V.int)/\Only H/\ns.length<=63/\∀H',Q (.bl true) H'
def zg0 {K:Frag}{mg:Str->Option Value}{ρ:List Addr}{H:Hp}:∀ns:List Int,Rs K mg ρ H (ns.map PV.int) (ns.map V.int)
 | []=>rfl
 | n::ns=>⟨_,_,rfl,rfl,zg0 ns⟩
def znX {K:Frag}{H:Hp}{a:Addr}{vs:List V}(h:SqL K H a vs) (o:Only H):FrL K H a vs:=by
 rcases h with (h|⟨ob,h⟩)|h
 ·rcases o a with z|⟨ob,xs,z⟩
  ·rw [h] at z;cases z
  ·rw [h] at z;cases z
 ·exact .inl ⟨ob,h⟩
 ·exact .inr h
def znY {P:Program}{w:World}{K:Frag}{mg:Str->Option Value}{base:Heap}{k:Nat}{f:Addr}{fd:FuncData}{ps:List Str}{m:List PV->Mo PV}(F:FnOk P w K mg base (CXe P w) k f fd ps (spM K mg m)) (h:∀ns:List Int,ns.length<=63->∃st,m [.frl (ns.map PV.int)] []=.ok (.bl true) st):FnOk P w K mg base (CXe P w) k f fd ps (spLaw K) :=
 F.imp fun vs H Q E ⟨a,ns,e,hs,ho,hl,q⟩=>by
  subst e
  obtain ⟨st,hm⟩:=h ns hl
  refine ⟨[.frl (ns.map PV.int)],[],[],⟨_,[],rfl,⟨a,_,rfl,znX hs ho,zg0 ns⟩,rfl⟩,⟨rfl,List.nodup_nil,fun n so e=>by simp at e⟩,?_⟩
  rw [hm]
  intro ah H' _ _ v rv
  cases rv
  exact q H'
def walkM {l:PySem.W.OpenLaw}{k:Nat}{x:Str}{q:Program}{loose:List Str}{XP:(Str->Option Value)->Heap->Prop}{YP:World->Heap->Prop}{d:DefRec}{K:Params->PySem.W.Frag}(hn:l.most=some 63) (hdf:d.params.defaults=[]) (hr:Room k callerA)
  (hY:∀(w:World) (h:Heap),YP w h->(K w.params).In h)
  (F:∀(w:World) (mg:Str->Option Value) (fa:Addr) (h:Heap),(K w.params).In h->h.Ns mainGlobals mg->mg d.name=some (.ref fa) ->
   ∃fd:FuncData,(∀(s:Shared) (u:Value),BindsTo s fd ⟨[u],[]⟩ [(x,u)])/\∀base:Heap,(K w.params).In base->base.Ns mainGlobals mg->FnOk l.prog w (K w.params) mg base (CXe l.prog w) k fa fd [x] (spLaw (K w.params))) :
  PySem.W.WalkO q loose XP YP l.row.toRowW d [] (fun f vs=>PySem.call f vs) :=
 L2.zmp (n:=63) (k:=k) (x:=x) (CX:=fun w=>CXe l.prog w) (sp:=fun w=>spLaw (K w.params)) hn (by decide) hdf hr hY F (fun _ _ a ns hl ho hS=>⟨a,ns,rfl,hS,ho,hl,fun _=>rfl⟩) fun w H s e s' ⟨_,_,_,_,_,_,_,_,_,_,_,_,_,_,_,z⟩=>z
section
variable {α β:Type}{env:zk}{st st1:Sto}{fa fb fc fo fv:zk->Mo PV}{fs:zk->Mo (List PV)}{ga gb:zk->Mo Bool}{g g':zk->Mo Fl}{op op':PV->PV->Mo PV}{o1:PV->Mo PV}{m:List PV->Mo PV}
@[simp] def zP (a:α) (f:α->Mo β):(Res.ok a st).bind f=f a st:=(rfl)
@[simp] def znZ (i:Nat):zd i env st=(match env[i]? with|some (some x)=>.ok x st|_=>.stuck):=(rfl)
@[simp] def zss (x:PV):mC x env st=.ok x st:=(rfl)
@[simp] def zn0:zj op fa fb env st=(fa env st).bind fun x st1=>(fb env st1).bind fun y st2=>op x y st2:=(rfl)
@[simp] def zn1:ju o1 fa env st=(fa env st).bind o1:=(rfl)
@[simp] def zn2:mB fa env st=(fa env st).bind asB:=(rfl)
@[simp] def zg1 (b:Bool):asB (.bl b) st=.ok b st:=(rfl)
@[simp] def zg2:w8 ga gb env st=(ga env st).bind fun c st1=>if c=true then gb env st1 else .ok false st1:=(rfl)
@[simp] def zg3:j1 ga gb env st=(ga env st).bind fun c st1=>if c=true then .ok true st1 else gb env st1:=(rfl)
@[simp] def zn3:wg ga env st=(ga env st).bind fun c st1=>.ok (!c) st1:=(rfl)
@[simp] def zn4:zam fa fb env st=(fa env st).bind fun x st1=>(asB x st1).bind fun c st2=>if c=true then fb env st2 else .ok (.bl false) st2:=(rfl)
@[simp] def zst:zem fa env st=(fa env st).bind fun x st1=>(asB x st1).bind fun c st2=>.ok (.bl (!c)) st2:=(rfl)
@[simp] def zsu:zh env st=.ok [] st:=(rfl)
@[simp] def zn5:zc fa fs env st=(fa env st).bind fun x st1=>(fs env st1).bind fun xs st2=>.ok (x::xs) st2:=(rfl)
@[simp] def zn6:zA fs env st=(fs env st).bind fun xs st1=>if xs.length<=lim then .ok (.tup xs) st1 else .stuck:=(rfl)
@[simp] def zn7:y8 fs env st=(fs env st).bind fun xs st1=>if xs.length<=lim then .ok (.ref st1.length) (st1++[.lst xs]) else .stuck:=(rfl)
@[simp] def zn8 (fl fu:zk->Mo (Option Int)):wP fa fl fu env st=(fa env st).bind fun x st1=>(fl env st1).bind fun l st2=>(fu env st2).bind fun u st3=>oSl x l u st3:=(rfl)
@[simp] def zn9:pSome fa env st=(fa env st).bind asI:=(rfl)
@[simp] def zoa (i:Int):asI (.int i) st=.ok (some i) st:=(rfl)
@[simp] def zob:zp m fs env st=(fs env st).bind m:=(rfl)
@[simp] def zoc (x y:Str):zZ (.str x) (.str y) st=if x.length+y.length<=lim then .ok (.str (x++y)) st else .stuck:=(rfl)
@[simp] def zsv (x:PV):optR (some x) st=.ok x st:=(rfl)
@[simp] def zod (xs:List PV) (l u:Option Int):oSl (.frl xs) l u st=.ok (.ref st.length) (st++[.lst (cutP xs l u)]):=(rfl)
@[simp] def zsw (x y:PV):ye x y st=if plain x=true/\plain y=true/\dep x<=150 then .ok (.bl (eqP x y)) st else .stuck:=(rfl)
@[simp] def zsx (x y:PV):oNe x y st=if plain x=true/\plain y=true/\dep x<=150 then .ok (.bl (!eqP x y)) st else .stuck:=(rfl)
@[simp] def zoe:yg env st=.ok (.nx env) st:=(rfl)
@[simp] def zg4:zu g g' env st=(g env st).bind (flowOn g'):=(rfl)
@[simp] def zof:flowOn g (.nx env) st=g env st:=(rfl)
@[simp] def zog (x:PV):flowOn g (.rt x) st=.ok (.rt x) st:=(rfl)
@[simp] def zoh (i:Nat):zC i fa env st=(fa env st).bind fun x st1=>.ok (.nx (env.set i (some x))) st1:=(rfl)
@[simp] def zoi:yH fa env st=(fa env st).bind fun _ st1=>.ok (.nx env) st1:=(rfl)
@[simp] def zoj:zS fa env st=(fa env st).bind fun x st1=>.ok (.rt x) st1:=(rfl)
@[simp] def zg5:yd ga g g' env st=(ga env st).bind fun c st1=>if c=true then g env st1 else g' env st1:=(rfl)
@[simp] def zok (x:PV):endOf (.rt x) st=.ok x st:=(rfl)
@[simp] def j7:yO fa env st=(fa env st).bind seqOf:=(rfl)
@[simp] def zol:zet fs env st=(fs env st).bind zcz:=(rfl)
@[simp] def zan (src:zk->Mo Sq) (gt:PV->zk->Option zk):yU src gt g env st=(src env st).bind fun q st1=>forS gt g q env st1:=(rfl)
@[simp] def zom (gt:PV->zk->Option zk) (xs:List PV):forS gt g (.im xs) env st=forL gt g xs env st:=(rfl)
@[simp] def zsy (gt:PV->zk->Option zk):forL gt g [] env st=.ok (.nx env) st:=(rfl)
@[simp] def zao (a:α):noErr (Res.ok a st)=.ok a st:=(rfl)
def yb {n:Nat}{xs:List PV}(h:st[n]?=some (.lst xs)) (k:List PV->Res α):yo st n k=k xs:=by unfold yo;rw [h]
@[simp] def zon:yC op fo fv env st=(fo env st).bind fun o st1=>(recL o st1).bind fun o st1=>(fv env st1).bind fun y st2=>op o y st2:=(rfl)
@[simp] def zoo (n:Nat):recL (.ref n) st=yo st n fun _=>.ok (.ref n) st:=(rfl)
def zg6 (n:Nat):whileF ga g (n+1) env st=(ga env st).bind fun c st1=>if c=true then (g env st1).bind fun fl st2=>match fl with
   | .nx e=>whileF ga g n e st2
   | .ct e=>whileF ga g n e st2
   | .bk e=>.ok (.nx e) st2
   | .rt v=>.ok (.rt v) st2
  else .ok (.nx env) st1:=rfl
@[simp] def zop:lim=1000000:=(rfl)
end
section
variable {K:Frag}{mg:Str->Option Value}{h:Heap}{x:Str}{f C:Addr}{oc:Value}{od an:Option Addr}{osl:Array (Option Value)}{kV doc pm cdv ct:Value}{sm:Stmt}{ps:List Str}
def zcB (X:K.In h) (G:h.Ns mainGlobals mg) (a:nsIn K mainGlobals x=some (some (.ref f))) (l:K.lookup f=some ⟨oc,od,.func (fnOf x x (zbq sm) (wf sm) (zT sm) .none kV doc pm an cdv ct),osl⟩) (c:codeIn K cdv x=true) (k:keepIn K (.ref f)=true)
  (b:∀(kV doc pm:Value) (an:Option Addr) (cdv ct:Value) (us:List Value),us.length=ps.length->bindArgs (fnOf x x (zbq sm) (wf sm) (zT sm) .none kV doc pm an cdv ct) ⟨us,[]⟩=pure (ps.zip us)):FnF K mg x sm ps :=
 ⟨f,_,mg_of X G a,zgk l c k,(zgk l c k).binds b⟩
def all_cons {α:Type}{P:α->Prop}{a:α}{l:List α}(h:P a) (t:∀p∈l,P p):∀p∈a::l,P p:=fun p hp=>by
 rcases yQ.mp hp with rfl|hp
 ·exact h
 ·exact t p hp
end
def zoq {P:Program}{w:World}{K:Frag}{mg:Str->Option Value}{x y:Str}{sm:Stmt}{fa:Addr}{k:Nat}{m:List PV->Mo PV}(h:FnF K mg x sm [y]) (hmg:mg x=some (.ref fa))
  (hb:∀(kV doc pm:Value) (an:Option Addr) (cdv ct:Value) (u:Value),bindArgs (fnOf x x (zbq sm) (wf sm) (zT sm) .none kV doc pm an cdv ct) ⟨[u],[]⟩=pure [(y,u)])
  (hok:∀(f:Addr) (fd:FuncData),Fun K x x sm f fd->∀base:Heap,FnOk P w K mg base (CXe P w) k f fd [y] (spM K mg m)) (hp:∀ns:List Int,ns.length<=63->∃st,m [.frl (ns.map PV.int)] []=.ok (.bl true) st) :
  ∃fd:FuncData,(∀(s:Shared) (u:Value),BindsTo s fd ⟨[u],[]⟩ [(y,u)])/\∀base:Heap,K.In base->base.Ns mainGlobals mg->FnOk P w K mg base (CXe P w) k fa fd [y] (spLaw K):=by
 obtain ⟨f,fd,hm,F,_⟩:=h
 rw [hmg] at hm
 cases hm
 refine ⟨fd,fun s u=>?_,fun base _ _=>znY (hok fa fd F base) hp⟩
 obtain ⟨oc,od,kV,doc,pm,an,cdv,ct,osl,rfl,_⟩:=F.ex
 exact .of_eq (hb kV doc pm an cdv ct u)
def zor {K:Frag}{mg:Str->Option Value}{h:Heap}{x:Str}(X:K.In h) (G:h.Ns mainGlobals mg) (a:nsIn K mainGlobals x=some none):mg x=none:=mg_none_of X G a
section
variable {X:Cx}{Er:XK}{K:Frag}{mg:Str->Option Value}{a b c e o:Expr}{es:List Expr}{pos p apos pos':Pos}{fa fb fc fo:zk->Mo PV}{fs:zk->Mo (List PV)}
abbrev kz (ks:List Str) (vs:List V):List (Key×V):=(ks.map Sum.inr).zip vs
def zcC {z:Str}:∀{ks:List Str}{vs:List V},valV (kz ks vs) (Sum.inr z)=(ks.zip vs).lookup z
 | [],_=>by simp [kz,valV]
 | k::ks,[]=>by simp [kz,valV]
 | k::ks,v::vs=>by
  have ih:=zcC (z:=z) (ks:=ks) (vs:=vs)
  by_cases h:k=z
  ·subst h
   rw [show kz (k::ks) (v::vs)=(Sum.inr k,v)::kz ks vs from rfl,zde rfl]
   simp [wZ]
  ·rw [show kz (k::ks) (v::vs)=(Sum.inr k,v)::kz ks vs from rfl,zdf (by simpa using h),ih]
   have:(z==k)=false:=by simpa using fun q=>h q.symm
   simp [wZ,this]
def zg7 {z:Str}:∀{ks:List Str}{vs:List V},ks.length=vs.length->((kz ks vs).any fun kv=>decide (kv.1=Sum.inr z))=ks.contains z
 | [],_,_=>by simp [kz]
 | k::ks,[],h=>by simp at h
 | k::ks,v::vs,h=>by
  have ih:=zg7 (z:=z) (ks:=ks) (vs:=vs) (by simpa using h)
  rw [show kz (k::ks) (v::vs)=(Sum.inr k,v)::kz ks vs from rfl,List.any_cons,ih,List.contains_cons]
  congr 1
  by_cases hz:k=z
  ·subst hz;simp
  ·have:(z==k)=false:=by simpa using fun q=>hz q.symm
   simp [hz,this]
def repl {α:Type}(z:Str) (x:α):List Str->List α->List α
 | k::ks,y::ys=>(if k=z then x else y)::repl z x ks ys
 | _,ys=>ys
def wH (z:Str) (x:PV) (ks:List Str) (xs:List PV):List Str×List PV:=if ks.contains z=true then (ks,repl z x ks xs) else (ks++[z],xs++[x])
def zg8 {z:Str}{v:V}:∀{ks:List Str}{vs:List V},(kz ks vs).map (fun kv=>if kv.1=Sum.inr z then (kv.1,v) else kv)=kz ks (repl z v ks vs)
 | [],_=>by simp [kz]
 | k::ks,[]=>by simp [kz,repl]
 | k::ks,w::vs=>by
  rw [show kz (k::ks) (w::vs)=(Sum.inr k,w)::kz ks vs from rfl,jH,zg8,show repl z v (k::ks) (w::vs)=(if k=z then v else w)::repl z v ks vs from rfl,show ∀u us,kz (k::ks) (u::us)=(Sum.inr k,u)::kz ks us from fun _ _=>rfl]
  by_cases h:k=z
  ·subst h;simp
  ·rw [zX (by simpa using h),zX h]
def zg9 {ρ:List Addr}{H:Hp}{z:Str}{x:PV}{v:V}(r:R K mg ρ H x v):∀{ks:List Str}{xs:List PV}{vs:List V},Rs K mg ρ H xs vs->Rs K mg ρ H (repl z x ks xs) (repl z v ks vs)
 | [],xs,vs,h=>by cases xs<;>cases vs<;>exact h
 | k::ks,[],vs,h=>by cases h;exact rfl
 | k::ks,y::ys,vs,h=>by
  obtain ⟨w,ws,rfl,h1,h2⟩:=h
  refine ⟨_,_,rfl,?_,zg9 r h2⟩
  split
  ·exact r
  ·exact h1
def repl_len {α:Type}{z:Str}{x:α}:∀{ks:List Str}{xs:List α},(repl z x ks xs).length=xs.length
 | [],xs=>by cases xs<;>rfl
 | k::ks,[]=>rfl
 | k::ks,y::ys=>by simp [repl,repl_len (ks:=ks)]
def zha {ρ:List Addr}{H:Hp}{z:Str}{x:PV}{v:V}(r:R K mg ρ H x v) {ks:List Str}{xs:List PV}{vs:List V}(hl:ks.length=vs.length) (h:Rs K mg ρ H xs vs):∃ws,L2.putK (kz ks vs) (Sum.inr z) v=kz (wH z x ks xs).1 ws/\Rs K mg ρ H (wH z x ks xs).2 ws/\(wH z x ks xs).1.length=ws.length:=by
 unfold L2.putK wH
 rw [zg7 hl]
 by_cases hc:ks.contains z=true
 ·rw [zH hc,zH hc]
  exact ⟨repl z v ks vs,zg8,zg9 r h,by rw [repl_len];exact hl⟩
 ·rw [zX hc,zX hc]
  refine ⟨vs++[v],?_,h.append ⟨v,[],rfl,r,rfl⟩,by simp [hl]⟩
  show _=(List.map Sum.inr (ks++[z])).zip (vs++[v])
  rw [jz,List.zip_append (by simpa using hl)]
  rfl
def zew:zk->Mo PV:=fun _ st=>.ok (.ref st.length) (st++[.dic [] []])
def zhb:ME X Er (.Dict [] [] pos) zew:=PE.weak zmI fun σ H Q ⟨env,st,ρ,re,rs,h⟩=>fun q hq =>
 h (ρ++[q]) _ (Ext.push hq) (rs.push hq ⟨[],jA,rfl,rfl⟩) _ ⟨q,rfl,by rw [<-rs.len];simp⟩
def zhc:PV->PV->Mo PV
 | .ref n,.str z,st=>wj st n fun ks xs=>optR ((ks.zip xs).lookup z) st
 | _,_,_=>.stuck
def zw:PV->PV->Mo PV
 | .ref n,.str z,st=>zhc (.ref n) (.str z) st
 | x,y,st=>oIx x y st
def zos:R2:=fun x y H Q=>∃a v,x=.ref a/\DGet H a y (some v)/\Q v H
def zhd (hu:X.A.units+1<cLine):IxR X zos:=by
 intro value slice pins s σ H x y v u Q I rx ry h hs
 obtain ⟨a,w,rfl,g,q⟩:=h
 obtain rfl:v=Value.ref a:=rx
 exact PyProof.Rows.tail_any (zmE I g) PySem.F.slot_dict_getitem.lookup (zmA hu I g ry fun w' s' I' rw'=>⟨w,H,I',rw',q⟩) hs
def R.refD {ρ:List Addr}{H:Hp}{st:Sto}{n:Nat}{ks:List Str}{xs:List PV}{v:V}(s:StR K mg ρ H st) (r:R K mg ρ H (.ref n) v) (h:st[n]?=some (.dic ks xs)):∃a vs,v=.ref a/\ρ[n]?=some a/\H a=some (.dK (kz ks vs))/\Rs K mg ρ H xs vs/\ks.length=vs.length:=by
 obtain ⟨a,rfl,ha⟩:=r
 obtain ⟨vs,h1,h2,h3⟩:=s.addr h ha
 exact ⟨a,vs,rfl,ha,h1,h2,h3⟩
def zhe {H:Hp}{a:Addr}{ks:List Str}{vs:List V}{z:Str}(h:H a=some (.dK (kz ks vs))):DGet H a (.str z) ((ks.zip vs).lookup z):=by
 have g:=DGet.k (k:=Sum.inr z) h
 rw [zcC] at g
 exact g
def zhf (hu:X.A.units+200<cLine):IxOk X zw:=by
 obtain ⟨r,h1,h2⟩:=znu (X:=X)
 refine ⟨_,h1.or (zhd (by omega)),fun ρ H st x y v w Q E s rx ry h=>?_⟩
 by_cases hx:∃n z,x=.ref n/\y=.str z
 ·obtain ⟨n,z,rfl,rfl⟩:=hx
  obtain ⟨ks,xs,e,h⟩:=zgN (show Out X.K X.mg ρ H (wj st n fun ks xs=>optR ((ks.zip xs).lookup z) st) (gV X.K X.mg Q) E from h)
  obtain ⟨q,hq,h⟩:=zbS h
  obtain ⟨a,vs,rfl,_,k1,k2,_⟩:=R.refD s rx e
  cases ry
  obtain ⟨v,hv,rv⟩:=zbV k2 hq
  refine .inr ⟨a,v,rfl,?_,h.now s _ rv⟩
  have g:=zhe (z:=z) k1
  rw [hv] at g
  exact g
 ·refine .inl (h2 ρ H st x y v w Q E s rx ry ?_)
  have:zw x y st=oIx x y st:=by
   unfold zw
   split
   ·rename_i n z;exact absurd ⟨n,z,rfl,rfl⟩ hx
   ·rfl
  rw [this] at h
  exact h
def zbX (z x:PV):PV->Mo Unit
 | .ref n,st=>match z with
  | .str z=>wj st n fun ks xs=>if ks.length<lim then .ok () (st.set n (.dic (wH z x ks xs).1 (wH z x ks xs).2)) else .stuck
  | _=>.stuck
 | _,_=>.stuck
def zbx (fo fi fv:zk->Mo PV):zk->Mo Fl:=fun env st=>(fv env st).bind fun x st1=>(fo env st1).bind fun o st2=>(fi env st2).bind fun z st3=>(zbX z x o st3).bind fun _ st4=>.ok (.nx env) st4
def zhg {i value:Expr}{fi fv:zk->Mo PV}(hu:X.A.units+200<cLine) (ho:ME X Er o fo) (hi:ME X Er i fi) (hv:ME X Er value fv) (hs:swapsWith value (some (.Subscript o i pos')) pos.line X.env=pure false:=by rfl):MS X Er (.Assign [.Subscript o i pos'] value pos) (zbx fo fi fv) :=
 PS.weak (zmG (by omega) ho hi hv hs) fun D σ H ⟨env,st,ρ,re,rs,h⟩=>⟨env,st,ρ,re,rs,h.then fun ag H1 x st1 e1 s1 h1 v rv=>⟨env,st1,ag,re.ext e1,s1,h1.then fun au H2 y st2 e2 s2 h2 w rw=>⟨env,st2,au,(re.ext e1).ext e2,s2,h2.then fun ap H3 zz st3 e3 s3 h3 u ru=>by
  cases y with
  | ref n =>
   cases zz with
   | str z =>
    cases hn:st3[n]? with
    | none=>simp only [zbX,wj,hn] at h3;exact h3.elim
    | some so =>
     cases so with
     | lst _=>simp only [zbX,wj,hn] at h3;exact h3.elim
     | ins _ _ _=>simp only [zbX,wj,hn] at h3;exact h3.elim
     | fdi _ _=>simp only [zbX,wj,hn] at h3;exact h3.elim
     | dic ks xs =>
      simp only [zbX,wj,hn] at h3
      by_cases hc:ks.length<lim
      ·rw [zH hc] at h3
       obtain ⟨a,vs,e4,ha,k1,k2,k3⟩:=R.refD s3 (R.ext e3 _ rw) hn
       subst e4
       cases ru
       obtain ⟨ws,q1,q2,q3⟩:=zha (z:=z) (R.ext e3 x (R.ext e2 x rv)) k3 k2
       have hlen:(kz ks vs).length<sizeLine:=by
        have:(kz ks vs).length=ks.length:=by simp [kz,k3]
        rw [this,sizeLine_eq]
        have:ks.length<1000000:=hc
        omega
       have g:=DPut.k (k:=Sum.inr z) (v:=v) k1 hlen
       have ew:Ext ap H3 ap (upd H3 a (.dK (L2.putK (kz ks vs) (Sum.inr z) v))):=Ext.write k1 rfl
       refine ⟨a,_,rfl,g,h3 ap _ ew (s3.write ha ew ⟨ws,by rw [jA,q1],Rs.ext ew _ q2,q3⟩) σ ((((re.ext e1).ext e2).ext e3).ext ew)⟩
      ·rw [zX hc] at h3;exact h3.elim
   | _=>exact h3.elim
  | _=>exact h3.elim⟩⟩⟩
end
open Classical in
noncomputable def eIn (K:Frag) (mg:Str->Option Value) (ρ:List Addr) (H:Hp) (ys:List PV) (x:PV) (u:Value):Bool:=decide (∃y v,y∈ys/\R K mg ρ H y v/\RelV v u/\eqP y x=true)
section
variable {X:Cx}{Er:XK}{K:Frag}{mg:Str->Option Value}{ρ:List Addr}{pins:List (Addr×Obj)}{σ:L2.St}{H:Hp}{s:Shared}
def okIn (x:PV) (ys:List PV):Prop:=Mi.plain x=true/\plains ys=true/\deps ys<=150
instance (x:PV) (ys:List PV):Decidable (okIn x ys):=by unfold okIn;infer_instance
def Rs.mem:∀{xs:List PV}{vs:List V}{us:List Value}{u:Value},Rs K mg ρ H xs vs->Vals vs us->u∈us->∃y v,y∈xs/\R K mg ρ H y v/\RelV v u
 | [],_,_,_,h,hv,hu=>by cases h;cases hv;cases hu
 | x::xs,_,_,u,h,hv,hu=>by
  obtain ⟨v,r,rfl,h1,h2⟩:=h
  cases hv with
  | cons r1 r2 =>
   rcases yQ.mp hu with rfl|hu
   ·exact ⟨x,v,by simp,h1,r1⟩
   ·obtain ⟨y,w,q1,q2,q3⟩:=Rs.mem h2 r2 hu
    exact ⟨y,w,by simp [q1],q2,q3⟩
def Rs.mem':∀{xs:List PV}{vs:List V}{us:List Value}{y:PV},Rs K mg ρ H xs vs->Vals vs us->y∈xs->∃u v,u∈us/\R K mg ρ H y v/\RelV v u
 | [],_,_,_,_,_,hy=>by cases hy
 | x::xs,_,_,y,h,hv,hy=>by
  obtain ⟨v,r,rfl,h1,h2⟩:=h
  cases hv with
  | cons r1 r2 =>
   rcases yQ.mp hy with rfl|hy
   ·exact ⟨_,v,by simp,h1,r1⟩
   ·obtain ⟨u,w,q1,q2,q3⟩:=Rs.mem' h2 r2 hy
    exact ⟨u,w,by simp [q1],q2,q3⟩
def zot {ys:List PV}{y:PV}(h:plains ys=true) (hy:y∈ys):Mi.plain y=true:=by
 obtain ⟨i,hi⟩:=List.getElem?_of_mem hy
 exact zdq h hi
def zou {ys:List PV}{y:PV}(hy:y∈ys):dep y<=deps ys:=by
 obtain ⟨i,hi⟩:=List.getElem?_of_mem hy
 exact zeq hi
open Classical in
def zhh (I:Inv X pins σ H s) {A:Around}(hu:A.units+200<cLine) {ys:List PV}{vs:List V}{us:List Value}{x:PV}{w:V}{v:Value}(ok:okIn x ys) (ry:Rs X.K mg ρ H ys vs) (rv:Vals vs us) (rx:R X.K mg ρ H x w) (rw:RelV w v) :
  (∀u∈us,SeqAt.EqAt A.in1 s u v (eIn X.K mg ρ H ys x u))/\us.any (eIn X.K mg ρ H ys x)=ys.any fun y=>eqP y x:=by
 obtain ⟨px,py,hd⟩:=ok
 have one:∀y v' u,y∈ys->R X.K mg ρ H y v'->RelV v' u->SeqAt.EqAt A.in1 s u v (eqP y x):=fun y v' u hy r1 r2 =>
  (zer I 150 y x A.in1 (yS (zou hy) hd) (zot py hy) px r1 rx r2 rw (by rw [zdr];omega)).1
 refine ⟨fun u hu'=>?_,?_⟩
 ·obtain ⟨y,v',q1,q2,q3⟩:=Rs.mem ry rv hu'
  by_cases h:∃y v,y∈ys/\R X.K mg ρ H y v/\RelV v u/\eqP y x=true
  ·have e:eIn X.K mg ρ H ys x u=true:=by simpa [eIn] using h
   obtain ⟨y2,v2,z1,z2,z3,z4⟩:=h
   rw [e,<-z4]
   exact one y2 v2 u z1 z2 z3
  ·have e:eIn X.K mg ρ H ys x u=false:=by unfold eIn;exact wu h
   rw [e]
   have:eqP y x=false:=by
    cases hq:eqP y x with
    | false=>rfl
    | true=>exact absurd ⟨y,v',q1,q2,q3,hq⟩ h
   rw [<-this]
   exact one y v' u q1 q2 q3
 ·rw [Bool.eq_iff_iff]
  simp only [List.any_eq_true]
  constructor
  ·rintro ⟨u,hu',he⟩
   have h:∃y v,y∈ys/\R X.K mg ρ H y v/\RelV v u/\eqP y x=true:=by unfold eIn at he;exact of_decide_eq_true he
   obtain ⟨y,v',z1,_,_,z4⟩:=h
   exact ⟨y,z1,z4⟩
  ·rintro ⟨y,hy,he⟩
   obtain ⟨u,v',q1,q2,q3⟩:=Rs.mem' ry rv hy
   exact ⟨u,q1,by unfold eIn;exact zbN ⟨y,v',hy,q2,q3,he⟩⟩
def j8 (neg:Bool):PV->PV->Mo PV
 | x,.tup ys,st=>if okIn x ys then .ok (.bl (neg.xor (ys.any fun y=>eqP y x))) st else .stuck
 | x,.frl ys,st=>if okIn x ys then .ok (.bl (neg.xor (ys.any fun y=>eqP y x))) st else .stuck
 | x,.ref n,st=>match st[n]?,x with
  | some (.lst ys),x=>if okIn x ys then .ok (.bl (neg.xor (ys.any fun y=>eqP y x))) st else .stuck
  | some (.dic ks xs),.str z=>.ok (.bl (neg.xor ((ks.zip xs).lookup z).isSome)) st
  | _,_=>.stuck
 | .str ⟨⟨[c]⟩⟩,.str z,st=>.ok (.bl (neg.xor (decide (c∈z.cps.toList)))) st
 | _,_,_=>.stuck
def zex (K:Frag) (mg:Str->Option Value) (neg:Bool):R2:=fun v w H Q =>
 (∃ρ x ys vs p,okIn x ys/\w=.ref p/\(SqL K H p vs\/SqT K H p vs)/\Rs K mg ρ H ys vs/\R K mg ρ H x v/\Q (.bl (neg.xor (ys.any fun y=>eqP y x))) H) \/
 (∃p o,w=.ref p/\DGet H p v o/\Q (.bl (neg.xor o.isSome)) H)\/∃(c:Nat) (z:Str),v=.str ⟨#[c]⟩/\w=.str z/\Q (.bl (neg.xor (decide (c∈z.cps.toList)))) H
def zhi (hu:X.A.units+200<cLine):OpR X (compareOp .In) (zex X.K X.mg false):=by
 intro pins s σ H x y v u Q I rx ry h
 rcases h with ⟨ρ,a,ys,vs,p,ok,rfl,hq,rys,ra,q⟩|⟨p,o,rfl,g,q⟩|⟨c,z,rfl,rfl,q⟩
 ·obtain rfl:u=Value.ref p:=ry
  rcases hq with hq|hq
  ·obtain ⟨its,r,pl,_⟩:=I.list hq
   obtain ⟨f1,f2⟩:=zhh I hu ok rys r ra rx
   refine SeqAt.in_listAt (eIn X.K X.mg ρ H ys a) pl.isList (fun w hw=>f1 w (by simpa using hw)) ⟨.bl _,H,I,rfl,?_⟩
   rw [show its.toArray.any (eIn X.K X.mg ρ H ys a)=its.any (eIn X.K X.mg ρ H ys a) by simp,f2]
   simpa using q
  ·obtain ⟨its,r,pl,_⟩:=I.tuple hq
   obtain ⟨f1,f2⟩:=zhh I hu ok rys r ra rx
   refine SeqAt.in_tupleAt (eIn X.K X.mg ρ H ys a) pl (fun w hw=>f1 w (by simpa using hw)) ⟨.bl _,H,I,rfl,?_⟩
   rw [show its.toArray.any (eIn X.K X.mg ρ H ys a)=its.any (eIn X.K X.mg ρ H ys a) by simp,f2]
   simpa using q
 ·obtain rfl:u=Value.ref p:=ry
  exact zmB (by omega) I g rx fun s' I'=>⟨.bl o.isSome,H,I',rfl,by simpa using q⟩
 ·exact zmy pins s σ H _ _ v u Q I rx ry ⟨c,z,rfl,rfl,by simpa using q⟩
def zhj {neg:Bool}:OpM K mg (zex K mg neg) (j8 neg):=by
 intro ρ H st x y v w Q E s rx ry h
 cases y with
 | tup ys =>
  obtain ⟨p,vs,rfl,k1,k2⟩:=ry
  obtain ⟨ok,h⟩:=Out.ifp (show Out K mg ρ H (if okIn x ys then .ok (.bl (neg.xor (ys.any fun y=>eqP y x))) st else .stuck) (gV K mg Q) E from by cases x<;>exact h)
  exact .inl ⟨ρ,x,ys,vs,p,ok,rfl,.inr k1,k2,rx,h.now s _ rfl⟩
 | frl ys =>
  obtain ⟨p,vs,rfl,k1,k2⟩:=ry
  obtain ⟨ok,h⟩:=Out.ifp (show Out K mg ρ H (if okIn x ys then .ok (.bl (neg.xor (ys.any fun y=>eqP y x))) st else .stuck) (gV K mg Q) E from by cases x<;>exact h)
  exact .inl ⟨ρ,x,ys,vs,p,ok,rfl,.inl k1.sq,k2,rx,h.now s _ rfl⟩
 | ref n =>
  cases hn:st[n]? with
  | none=>exfalso;cases x<;>(simp only [j8,hn] at h;exact h)
  | some so =>
   cases so with
   | lst ys =>
    obtain ⟨p,vs,rfl,_,k1,k2⟩:=R.refL s ry hn
    obtain ⟨ok,h⟩:=Out.ifp (show Out K mg ρ H (if okIn x ys then .ok (.bl (neg.xor (ys.any fun y=>eqP y x))) st else .stuck) (gV K mg Q) E from by cases x<;>(simp only [j8,hn] at h;exact h))
    exact .inl ⟨ρ,x,ys,vs,p,ok,rfl,.inl (SqL.of k1),k2,rx,h.now s _ rfl⟩
   | dic ks xs =>
    obtain ⟨p,vs,rfl,_,k1,k2,k3⟩:=R.refD s ry hn
    cases x with
    | str z =>
     simp only [j8,hn] at h
     cases rx
     refine .inr (.inl ⟨p,_,rfl,zhe k1,?_⟩)
     have e:((ks.zip vs).lookup z).isSome=((ks.zip xs).lookup z).isSome:=by
      cases hq:(ks.zip xs).lookup z with
      | some q=>obtain ⟨v,hv,_⟩:=zbV k2 hq;rw [hv];rfl
      | none =>
       have:z∉ks:=by
        intro hz
        obtain ⟨i,hi⟩:=List.getElem?_of_mem hz
        have hl:i<xs.length:=by rw [k2.len,<-k3];exact (yI.mp hi).1
        have:=List.lookup_eq_none_iff.mp hq (z,xs[i]) (List.mem_iff_getElem?.mpr ⟨i,by simp [List.getElem?_zip_eq_some,hi,hl]⟩)
        simp at this
       rw [zes this];rfl
     rw [e]
     exact h.now s _ rfl
    | _=>simp only [j8,hn] at h;exact h.elim
   | ins c ks xs=>exfalso;cases x<;>(simp only [j8,hn] at h;exact h)
   | fdi ks xs=>exfalso;cases x<;>(simp only [j8,hn] at h;exact h)
 | str z =>
  cases x with
  | str q =>
   obtain ⟨⟨l⟩⟩:=q
   match l,rx,h with
   | [c],rx,h=>cases rx;cases ry;exact .inr (.inr ⟨c,z,rfl,rfl,Out.now (x:=PV.bl _) h s _ rfl⟩)
   | [],rx,h=>exact h.elim
   | _::_::_,rx,h=>exact h.elim
  | _=>exact h.elim
 | non=>exfalso;cases x<;>exact h
 | bl _=>exfalso;cases x<;>exact h
 | int _=>exfalso;cases x<;>exact h
 | ty _=>exfalso;cases x<;>exact h
 | fn _=>exfalso;cases x<;>exact h
 | kd _ _=>exfalso;cases x<;>exact h
 | exo _ _ _=>exfalso;cases x<;>exact h
def zov (hu:X.A.units+200<cLine):CmpOk X .In (j8 false):=⟨_,zhi hu,zhj⟩
abbrev zbY:=opI c0 fun i j=>Builtin.bitAnd i j
abbrev cNn:Int->Int->Bool:=fun _ j=>decide (0<=j)
abbrev zbZ:=opI cNn fun i j=>i/2 ^ j.toNat
def zow:BinOk X .BitAnd zbY:=⟨_,zgO zlb,zbs fun _ _ _=>trivial⟩
def zox:BinOk X .RShift zbZ:=⟨_,zla,zbs fun i j h=>by simpa [cNn] using h⟩
end
section
variable {X:Cx}{Er:XK}{pos:Pos}
abbrev XN:XK:=fun _ _ _=>False
def zap:za4 X XN:=fun _ _ _ _ _ _ _ _ _ q=>q.elim
def compL (fe:zk->Mo PV) (env:zk):List PV->List PV->Mo PV
 | [],ys,st=>.ok (.ref st.length) (st++[.lst ys])
 | x::xs,ys,st=>(noErr (fe (some x::env) st)).bind fun y st1=>compL fe env xs (ys++[y]) st1
def compR (fe:zk->Mo PV) (env:zk) (n:Nat):Nat->Nat->List PV->Mo PV
 | 0,_,_,_=>.stuck
 | m+1,i,ys,st=>yo st n fun xs=>match xs[i]? with
  | none=>.ok (.ref st.length) (st++[.lst ys])
  | some x=>(noErr (fe (some x::env) st)).bind fun y st1=>compR fe env n m (i+1) (ys++[y]) st1
def compS (fe:zk->Mo PV) (env:zk):Sq->Mo PV
 | .im xs,st=>if xs.length<=lim then compL fe env xs [] st else .stuck
 | .rf n,st=>compR fe env n (lim+1) 0 [] st
def jh (src:zk->Mo Sq) (fe:zk->Mo PV):zk->Mo PV:=fun env st=>(src env st).bind fun q st1=>compS fe env q st1
def Rs.snoc {K:Frag}{mg:Str->Option Value}{ρ:List Addr}{H:Hp}{x:PV}{v:V}(r:R K mg ρ H x v):∀{xs:List PV}{vs:List V},Rs K mg ρ H xs vs->Rs K mg ρ H (xs++[x]) (vs++[v])
 | [],_,h=>by cases h;exact ⟨v,[],rfl,r,rfl⟩
 | y::xs,_,h=>by
  obtain ⟨w,q,rfl,h1,h2⟩:=h
  exact ⟨w,q++[v],rfl,h1,Rs.snoc r h2⟩
def zdx {elt iter:Expr} {x:Str} {px:Pos} {scope:Scope} {src:zk->Mo Sq} {fe:zk->Mo PV} {M:List Str} (hc:X.calm=true) (S:CompSc X.env.scope scope x) (eN:Hid scope M X.N) (hN0:((".0" : Str)::x::M).Nodup)
  (hi:MI X Er (.Name x px) iter src) (he:∀cl C af ai fp,ME (cxH X M scope cl x C af ai fp (fun _ _=>False)) XN elt fe)
  (hs:∀v,foldedSetIterable iter X.env v=pure v:=by intro _;rfl):ME X Er (.ListComp elt [⟨.Name x px,iter,[],0⟩] scope pos) (jh src fe) :=
 PE.weak (zgv (te:=tM X.K X.mg XN fe) hc S eN hN0 hi (fun cl C af ai fp=>he cl C af ai fp) hs) fun σ H Q ⟨env,st,ρ,re,rs,h⟩=>⟨env,st,ρ,re,rs,h.then fun av H0 q st0 e0 s0 h0 J wk=>by
  cases q with
  | im xs =>
   obtain ⟨hl,h0⟩:=Out.ifp h0
   obtain ⟨w1,w2,w3⟩:=wk
   refine ⟨fun i m ys H=>m=xs.length-i/\i<=xs.length/\ys.length=i/\∃ps st ρ,Rs X.K X.mg ρ H ps ys/\StR X.K X.mg ρ H st/\Ext av H0 ρ H/\Out X.K X.mg ρ H (compL fe env (xs.drop i) ps st) (gV X.K X.mg Q) Er,⟨xs.length,by simp,yR _,rfl,[],st0,av,rfl,s0,Ext.refl,h0⟩,?_⟩
   rintro i m ys H ⟨rfl,hi,hy,ps,st,ρ,rps,rs,ex,h⟩
   by_cases hlt:i<xs.length
   ·refine .inr ⟨w1 i ρ H ex hlt,jt (by omega),fun v H' y=>?_⟩
    obtain ⟨x,hx,ex2,s2,rx⟩:=w3 i ρ H st v H' ex rs hlt y
    have hd:xs.drop i=x::xs.drop (i+1):=by
     rw [wc hlt]
     have:=(yI.mp hx).2
     rw [this]
    rw [hd] at h
    simp only [compL] at h
    refine ⟨some x::env,st,ρ,(re.ext (e0.trans (ex.trans ex2))).cons rx,s2,zaQ (Out.ext h ex2) fun ap H3 y st3 e3 s3 h3 v ry=>⟨xs.length-(i+1),by omega,rfl,hlt,by simp [hy],ps++[y],st3,ap,Rs.snoc ry (Rs.ext (ex2.trans e3) ps rps),s3,(ex.trans ex2).trans e3,h3⟩⟩
   ·have e:i=xs.length:=by omega
    subst e
    rw [List.drop_length] at h
    exact .inl ⟨w2 _ ρ H ex (yf _),jt (by omega),fun l hl=>Out.newList h rs rps hl⟩
  | rf n =>
   obtain ⟨a,ha,rfl⟩:=wk
   refine ⟨fun i m ys H=>m+i=lim+1/\ys.length=i/\∃ps st ρ,Rs X.K X.mg ρ H ps ys/\StR X.K X.mg ρ H st/\Ext av H0 ρ H/\ρ[n]?=some a/\Out X.K X.mg ρ H (compR fe env n m i ps st) (gV X.K X.mg Q) Er,⟨lim+1,rfl,rfl,[],st0,av,rfl,s0,Ext.refl,ha,h0⟩,?_⟩
   rintro i m ys H ⟨hm,hy,ps,st,ρ,rps,rs,ex,ha,h⟩
   cases m with
   | zero=>exact h.elim
   | succ m =>
    obtain ⟨xs,hn,h⟩:=jJ h
    obtain ⟨vs,hH,hR⟩:=rs.addr hn ha
    cases hx:xs[i]? with
    | none =>
     simp only [hx] at h
     have:vs.length<=i:=by rw [<-hR.len];exact zbo.mp hx
     exact .inl ⟨⟨vs,SqL.of hH,this⟩,jt (by omega),fun l hl=>Out.newList h rs rps hl⟩
    | some x =>
     simp only [hx] at h
     obtain ⟨v,hv,rv⟩:=hR.get hx
     refine .inr ⟨⟨vs,v,SqL.of hH,hv⟩,jt (by omega),fun v' H' y=>?_⟩
     obtain ⟨e1,y⟩:=y
     subst e1
     have e2:=y vs (SqL.of hH)
     rw [hv] at e2
     cases e2
     exact ⟨some x::env,st,ρ,(re.ext (e0.trans ex)).cons rv,rs,zaQ h fun ap H3 y st3 e3 s3 h3 v ry=>⟨m,za1 m,by omega,by simp [hy],ps++[y],st3,ap,Rs.snoc ry (Rs.ext e3 ps rps),s3,ex.trans e3,e3.get ha,h3⟩⟩⟩
def zcD {elt iter:Expr} {x:Str} {px:Pos} {scope:Scope} {src:zk->Mo Sq} {fe:zk->Mo PV} {N:List Str} (hc:X.calm=true) (S:CompSc X.env.scope scope x) (eN:X.N=N) (hN0:((".0" : Str)::x::N).Nodup)
  (hi:MI X Er (.Name x px) iter src) (he:∀cl C af ai fp,ME (cxC X scope cl x C af ai fp (fun _ _=>False)) XN elt fe)
  (hs:∀v,foldedSetIterable iter X.env v=pure v:=by intro _;rfl):ME X Er (.ListComp elt [⟨.Name x px,iter,[],0⟩] scope pos) (jh src fe) :=
 zdx hc S Hid.refl (eN▸hN0) hi he hs
end
section
variable {env:Env}{es:List Expr}{pos:Pos}
abbrev St1 (e:Expr) (es:List Expr) (env:Env):Prop:=starEach (e::es) env=(false,eval e env)::starEach es env
def zoy {c j}:St1 (.Constant c j pos) es env:=(rfl)
end
end Mi
namespace L2
open PySem PySem.Spec PyProof.Rows PySem.W
abbrev ZB (h:Heap) (z TI TO T:Addr) (f:Bool):Prop:=h.get? z=some { cls:=.type "zip", dict:=none,data:=.fields #[rawInt T,.bool f,.bool false,.ref TI,.ref TO],slots:=#[] }
section
variable {prog:Program}{w:World}{A:Around}{E:Value->Shared->Prop}{s:Shared}{z TI TO T i1 i2 t1 t2:Addr}{k:Nat}{xs ys:Array Value}{x y a b:Value}{S1 S2:Nat->Heap->Prop}{f:Bool}{o:Obj}
end
structure ZS (z TI TO i1 i2 a b:Addr) (xs ys:Array Value) (k:Nat) (h:Heap):Prop where
 zi:(IsZip h z TI TO .none/\∃u v,IsPair h TO u v)\/∃T f o,ZB h z TI TO T f/\h.get? T=some o
 ti:IsPair h TI (.ref i1) (.ref i2)
 s1:StT i1 a xs k h
 s2:StT i2 b ys k h
section
variable {prog:Program}{w:World}{A:Around}{E:Value->Shared->Prop}{s:Shared}{z TI TO i1 i2 a b:Addr}{k:Nat}{xs ys:Array Value}{x y:Value}
end
def putAll (ps:List (Key×V)) (kvs:List (Key×V)):List (Key×V):=ps.foldl (fun m p=>putK m p.1 p.2) kvs
structure Ap (d z TI TO i1 i2 a b:Addr):Prop where
 z:d≠z
 TI:d≠TI
 TO:d≠TO
 i1:d≠i1
 i2:d≠i2
 a:d≠a
 b:d≠b
section
variable {prog:Program}{w:World}{A:Around}{R:Result->Shared->Prop}{z TI TO i1 i2 a b d:Addr}{xs ys:Array Value}{keys:List Key}{vals:List V}
def ZS.keep {k:Nat}{h h':Heap}(st:ZS z TI TO i1 i2 a b xs ys k h) (P:Ap d z TI TO i1 i2 a b) (hs:Heap.SameBut d h h') (hd:∃o,h'.get? d=some o):ZS z TI TO i1 i2 a b xs ys k h':=by
 have up:∀c o,c≠d->h.get? c=some o->h'.get? c=some o:=fun c o n e=>hs.extBut _ _ n e
 obtain ⟨⟨⟨o1,g1,r1⟩,⟨p1,e1,t1⟩⟩,⟨⟨o2,g2,r2⟩,⟨p2,e2,t2⟩⟩⟩:=And.intro st.s1 st.s2
 refine ⟨?_,up _ _ P.TI.symm st.ti,⟨⟨o1,up _ _ P.i1.symm g1,r1⟩,⟨p1,up _ _ P.a.symm e1,t1⟩⟩,⟨⟨o2,up _ _ P.i2.symm g2,r2⟩,⟨p2,up _ _ P.b.symm e2,t2⟩⟩⟩
 rcases st.zi with ⟨hz,u,v,hTO⟩|⟨T,f,o,hz,hT⟩
 ·exact .inl ⟨up _ _ P.z.symm hz,u,v,up _ _ P.TO.symm hTO⟩
 ·by_cases e:T=d
  ·obtain ⟨o',ho'⟩:=hd
   exact .inr ⟨T,f,o',up _ _ P.z.symm hz,by rw [e];exact ho'⟩
  ·exact .inr ⟨T,f,o,up _ _ P.z.symm hz,up _ _ e hT⟩
end
section
variable {prog:Program}{w:World}{A:Around}{E:Value->Shared->Prop}{s:Shared}{z TI TO i1 i2 a b:Addr}{xs ys:Array Value}{keys:List Key}{vals:List V}
end
end L2
namespace Mi
open PySem L2 PySem.W PySem.Spec
section
variable {X:Cx}{K:Frag}{mg:Str->Option Value}{Er:XK}{e o:Expr}{es:List Expr}{pos p apos:Pos}{k:Nat}{x:Str}{m:List PV->Mo PV}{fs:zk->Mo (List PV)}{fo fa:zk->Mo PV}
end
section
variable {X:Cx}{K:Frag}{mg:Str->Option Value}{Er:XK}{e o:Expr}{es:List Expr}{pos p apos:Pos}{fs:zk->Mo (List PV)}{fo fa:zk->Mo PV}
def zby:PV->Mo PV
 | .ref n,st=>yo st n fun xs=>match xs[xs.length-1]? with
  | some y=>.ok y (st.set n (.lst xs.dropLast))
  | none=>.stuck
 | _,_=>.stuck
def Rs.dropLast:∀{ρ:List Addr}{H:Hp}{xs:List PV}{vs:List V},Rs K mg ρ H xs vs->Rs K mg ρ H xs.dropLast vs.dropLast:=by
 intro ρ H xs vs h
 rw [List.dropLast_eq_take,List.dropLast_eq_take,h.len]
 exact h.take _
def zhl {cpos:Pos} (ho:ME X Er o fo) (hbase:attributeBase o "pop" X.env (eval o X.env)=eval o X.env:=by rfl) (hline:(apos.endLine==cpos.line)=true:=by rfl):ME X Er (.Call (.Attribute o "pop" apos) [] [] cpos) (ju zby fo) :=
 PE.weak (zl9 PySem.F.plainAttrs_list PySem.F.slot_list_pop PySem.F.type_list_pop zmg ho hbase hline) fun σ H Q ⟨env,st,ρ,re,rs,h⟩=>⟨env,st,ρ,re,rs,h.then fun ag H1 x st1 e1 s1 h1 v rv=>by
  cases x with
  | ref n =>
   obtain ⟨xs,hn,h1⟩:=jJ h1
   obtain ⟨a,vs,rfl,ha,k1,k2⟩:=R.refL s1 rv hn
   cases hy:xs[xs.length-1]? with
   | none=>simp only [hy] at h1;exact h1.elim
   | some y =>
    simp only [hy] at h1
    obtain ⟨w,hw,rw'⟩:=k2.get hy
    have ew:Ext ag H1 ag (upd H1 a (.lst vs.dropLast)):=Ext.write k1 rfl
    refine ⟨.inl ⟨rfl,vs,SqL.of k1⟩,a,vs,w,rfl,rfl,k1,by rw [<-k2.len];exact hw,h1 ag _ ew (s1.write ha ew ⟨_,jA,Rs.ext ew _ k2.dropLast⟩) _ (R.ext ew y rw')⟩
  | _=>exact h1.elim⟩
def strsOf:List PV->Option (List Str)
 | []=>some []
 | .str z::r=>(strsOf r).map (z::·)
 | _::_=>none
def zb0:List (Str×PV)->List Str->List PV->List Str×List PV
 | [],ks,xs=>(ks,xs)
 | q::r,ks,xs=>zb0 r (wH q.1 q.2 ks xs).1 (wH q.1 q.2 ks xs).2
def zhm {ρ:List Addr}{H:Hp}:∀{xs:List PV}{zs:List Str}{vs:List V},strsOf xs=some zs->Rs K mg ρ H xs vs->vs=(zs.map Sum.inr:List Key).map kV
 | [],zs,vs,e,h=>by cases e;cases h;rfl
 | .str z::r,zs,vs,e,h=>by
  simp only [strsOf,Option.map_eq_some_iff] at e
  obtain ⟨zr,e1,rfl⟩:=e
  obtain ⟨v,r',rfl,h1,h2⟩:=h
  cases h1
  rw [zhm e1 h2]
  rfl
 | .non::_,_,_,e,_=>by cases e
 | .bl _::_,_,_,e,_=>by cases e
 | .int _::_,_,_,e,_=>by cases e
 | .ty _::_,_,_,e,_=>by cases e
 | .tup _::_,_,_,e,_=>by cases e
 | .frl _::_,_,_,e,_=>by cases e
 | .ref _::_,_,_,e,_=>by cases e
 | .fn _::_,_,_,e,_=>by cases e
 | .kd _ _::_,_,_,e,_=>by cases e
 | .exo _ _ _::_,_,_,e,_=>by cases e
def zhn {ρ:List Addr}{H:Hp}:∀{zs:List Str}{ys:List PV}{us:List V}{ks:List Str}{xs:List PV}{vs:List V},Rs K mg ρ H ys us->Rs K mg ρ H xs vs->ks.length=vs.length ->
  ∃ws,putAll ((zs.map Sum.inr:List Key).zip us) (kz ks vs)=kz (zb0 (zs.zip ys) ks xs).1 ws/\Rs K mg ρ H (zb0 (zs.zip ys) ks xs).2 ws/\(zb0 (zs.zip ys) ks xs).1.length=ws.length
 | [],ys,us,ks,xs,vs,_,h,hl=>⟨vs,rfl,h,hl⟩
 | z::zs,[],us,ks,xs,vs,hy,h,hl=>by
  cases hy
  exact ⟨vs,rfl,h,hl⟩
 | z::zs,y::ys,us,ks,xs,vs,hy,h,hl=>by
  obtain ⟨u,r,rfl,h1,h2⟩:=hy
  obtain ⟨ws,q1,q2,q3⟩:=zha (z:=z) h1 hl h
  obtain ⟨ws',p1,p2,p3⟩:=zhn (zs:=zs) h2 q2 q3
  refine ⟨ws',?_,p2,p3⟩
  show putAll _ (L2.putK (kz ks vs) (Sum.inr z) u)=_
  rw [q1]
  exact p1
end
end Mi
namespace L2
open PySem PySem.Spec PyProof.Rows PySem.W
end L2
namespace Mi
open PySem L2 PySem.W PySem.Spec
section
variable {X:Cx}{Er:XK}{pos:Pos}{sts:List Stmt}{gb:zk->Mo Fl}{fs:zk->Mo (List PV)}
def zdy:List PV->Mo Nat
 | [.ref n],st=>yo st n fun _=>.ok n st
 | _,_=>.stuck
def zoz {α:Type}{K:Frag}{mg:Str->Option Value}{ρ:List Addr}{H:Hp}{vs:List PV}{st:Sto}{f:Nat->Mo α}{good:List Addr->Hp->α->Sto->Prop}(h:Out K mg ρ H ((zdy vs st).bind f) good Er):∃n xs,vs=[.ref n]/\st[n]?=some (.lst xs)/\Out K mg ρ H (f n st) good Er:=by
 unfold zdy at h
 split at h
 ·rename_i n
  unfold yo at h
  cases hn:st[n]? with
  | none=>simp only [hn] at h;exact h.elim
  | some so =>
   cases so with
   | lst xs=>simp only [hn] at h;exact ⟨n,xs,rfl,hn,h⟩
   | _=>simp only [hn] at h;exact h.elim
 ·exact h.elim
end
section
variable {X:Cx}{Er:XK}{pos:Pos}{fs:zk->Mo (List PV)}
end
end Mi
namespace L2
open PySem PySem.Spec PyProof.Rows PySem.W
def repS (z:Str) (n:Int):Str:=if n<1 then Str.empty else if (n==1||z.length==0)=true then z else ⟨(List.replicate n.toNat z.cps).foldl (·++·) #[]⟩
def zho (c:Array Nat):∀(k:Nat) (a:Array Nat),((List.replicate k c).foldl (·++·) a).size=a.size+k*c.size
 | 0,a=>by simp
 | k+1,a=>by
  rw [List.replicate_succ,List.foldl_cons,zho c k,Array.size_append,Nat.succ_mul]
  omega
def zoA (z:Str) (n:Int):(repS z n).length=n.toNat*z.length:=by
 unfold repS
 split
 ·rename_i h
  have:n.toNat=0:=by omega
  rw [this,Nat.zero_mul];rfl
 ·rename_i h
  split
  ·rename_i h2
   simp only [Bool.or_eq_true,beq_iff_eq] at h2
   rcases h2 with h2|h2
   ·subst h2;simp
   ·rw [h2];simp
  ·show ((List.replicate n.toNat z.cps).foldl (·++·) #[]).size=_
   rw [zho]
   show 0+n.toNat*z.cps.size=_
   rw [Nat.zero_add];rfl
def zhp:R2:=fun x y H Q=>∃z n,x=.str z/\y=.int n/\(0<=n/\n<=1000/\z.length<=1000)/\Q (.str (repS z n)) H
def zoB {X:Cx}:OpR X (binaryOp .Mult) zhp:=by
 intro pins s σ H x y v u Q I rx ry h
 obtain ⟨z,n,rfl,rfl,⟨h0,h1,h2⟩,q⟩:=h
 obtain ⟨t,rfl⟩:=rx
 obtain ⟨t',rfl⟩:=ry
 have hb:n.toNat*z.length<=1000000:=by
  have:n.toNat<=1000:=by omega
  calc n.toNat*z.length<=1000*1000:=Nat.mul_le_mul this h2
   _=1000000:=rfl
 have hsz:=sizeLine_eq
 refine PySem.P.mul_str (by rw [wu (by omega),wu (by omega)];rfl) (fun ha _=>?_) (fun _ _=>?_) ?_
 ·have:(2 ^ 63-1:Int)/n>=1000:=by
   rw [ge_iff_le,Int.le_ediv_iff_mul_le (by omega)]
   omega
  omega
 ·show decide _=false
  rw [decide_eq_false_iff_not]
  have:z.length*n.toNat<=1000000:=by rw [Nat.mul_comm];exact hb
  rw [sizeLine_eq];omega
 ·by_cases c1:n<1
  ·rw [zH c1]
   have e:repS z n=Str.empty:=by unfold repS;rw [zH c1]
   rw [e] at q
   exact ⟨by decide,.str Str.empty,H,I.tok _,⟨_,rfl⟩,q⟩
  ·rw [zX c1]
   by_cases c2:(n==1||z.length==0)=true
   ·rw [zH c2]
    have e:repS z n=z:=by unfold repS;rw [zX c1,zH c2]
    rw [e] at q
    exact ⟨.str z,H,I,⟨_,rfl⟩,q⟩
   ·rw [zX c2]
    have e:repS z n=⟨(List.replicate n.toNat z.cps).foldl (·++·) #[]⟩:=by unfold repS;rw [zX c1,zX c2]
    have hl:=zoA z n
    rw [e] at q hl
    exact ⟨by rw [hl,sizeLine_eq];omega,.str _,H,I.tok _,⟨_,rfl⟩,q⟩
end L2
namespace Mi
open PySem L2 PySem.W PySem.Spec
section
variable {X:Cx}{K:Frag}{mg:Str->Option Value}{Er:XK}{e o:Expr}{es:List Expr}{pos apos:Pos}{fs:zk->Mo (List PV)}{fo fa:zk->Mo PV}
def yD:PV->PV->Mo PV
 | .int i,.int j,st=>zgP (.int i) (.int j) st
 | .str z,.int n,st=>if 0<=n/\n<=1000/\z.length<=1000 then .ok (.str (repS z n)) st else .stuck
 | _,_,_=>.stuck
def jT:BinOk X .Mult yD:=by
 obtain ⟨r,h1,h2⟩:=znn (X:=X)
 refine ⟨fun x y H Q=>r x y H Q\/zhp x y H Q,h1.or zoB,fun ρ H st x y v w Q E s rx ry h=>?_⟩
 cases x with
 | int i =>
  cases y with
  | int j=>exact .inl (h2 ρ H st (.int i) (.int j) v w Q E s rx ry h)
  | _=>exact h.elim
 | str z =>
  cases y with
  | int n =>
   obtain ⟨c,h⟩:=Out.ifp h
   cases rx;cases ry
   exact .inr ⟨z,n,rfl,rfl,c,Out.now (x:=PV.str (repS z n)) h s _ rfl⟩
  | _=>exact h.elim
 | _=>exact h.elim
def zcE:List PV->Mo PV
 | [.int i],st=>if i.natAbs.log2<1920 then .ok (.str (toString i)) st else .stuck
 | _,_=>.stuck
def zoC:BltOk X (.type "str") zcE:=⟨_,zlo,fun ρ H st xs vs Q E s r h=>by
 unfold zcE at h
 split at h
 ·rename_i i
  obtain ⟨c,h⟩:=Out.ifp h
  obtain ⟨v,rfl,rfl⟩:=r.one
  exact ⟨i,rfl,c,Out.now (x:=PV.str (toString i)) h s _ rfl⟩
 ·exact h.elim⟩
def strE:List Expr->Option (List Str)
 | []=>some []
 | .Constant (.str z) _ _::r=>(strE r).map (z::·)
 | _::_=>none
def zdz (zs:List Str):zk->Mo (List PV):=fun _ st=>.ok (zs.map PV.str) st
def zey:∀{es:List Expr}{zs:List Str},strE es=some zs->MA X Er es (zdz zs):=by
 intro es
 induction es with
 | nil=>intro zs h;cases h;exact zn
 | cons e r ih =>
  intro zs h
  cases e with
  | Constant c j p =>
   cases c with
   | str z =>
    simp only [strE,Option.map_eq_some_iff] at h
    obtain ⟨zr,h1,rfl⟩:=h
    exact zgM zY (ih h1) zoy
   | _=>cases h
  | _=>cases h
end
section
variable {env:zk}{st:Sto}{fa fb fo fi fv fe:zk->Mo PV}{fs:zk->Mo (List PV)}{ft:zk->Mo Bool}{g:zk->Mo Fl}{src:zk->Mo Sq}
@[simp] def zhq (xs:List PV) (i:Int):zw (.tup xs) (.int i) st=optR (atI xs i) st:=(rfl)
@[simp] def wo (n:Nat) (i:Int):zw (.ref n) (.int i) st=yo st n fun xs=>optR (atI xs i) st:=(rfl)
@[simp] def zez (z:Str) (i:Int):zw (.str z) (.int i) st=if z.length<=lim then optR ((atI z.cps.toList i).map fun c=>.str ⟨#[c]⟩) st else .stuck:=(rfl)
@[simp] def zdA:jh src fe env st=(src env st).bind fun q st1=>compS fe env q st1:=(rfl)
@[simp] def zeA (xs:List PV):compS fe env (.im xs) st=if xs.length<=lim then compL fe env xs [] st else .stuck:=(rfl)
@[simp] def zhr:iRng1 fs env st=(fs env st).bind zbu:=(rfl)
@[simp] def zoD (j:Int):zbu [.int j] st=if cR j=true then .ok (.im (nums 0 j.toNat)) st else .stuck:=(rfl)
@[simp] def zoE (i:Int):zcE [.int i] st=if i.natAbs.log2<1920 then .ok (.str (toString i)) st else .stuck:=(rfl)
@[simp] def zoF (i j:Int):yD (.int i) (.int j) st=if cMul i j=true then .ok (.int (i*j)) st else .stuck:=(rfl)
@[simp] def zoG (neg:Bool) (x:PV) (ys:List PV):j8 neg x (.tup ys) st=if okIn x ys then .ok (.bl (neg.xor (ys.any fun y=>eqP y x))) st else .stuck:=by unfold j8;cases x<;>rfl
@[simp] def zoH (n:Nat) (l u:Option Int):oSl (.ref n) l u st=yo st n fun xs=>.ok (.ref st.length) (st++[.lst (cutP xs l u)]):=(rfl)
@[simp] def jo (n:Nat):yL [.ref n] st=yo st n fun xs=>.ok (.tup xs) st:=(rfl)
@[simp] def zeB (n:Nat) (y:PV):yM (.ref n) y st=yo st n fun xs=>if xs.length<lim then .ok .non (st.set n (.lst (xs++[y]))) else .stuck:=(rfl)
end
def Pre (a b:Sto):Prop:=∃d,b=a++d
def Pre.of (st d:Sto):Pre st (st++d):=⟨d,rfl⟩
def Pre.get {a b:Sto}(h:Pre a b) {n:Nat}{so:SO}(e:a[n]?=some so):b[n]?=some so:=by
 obtain ⟨d,rfl⟩:=h
 rw [zaG (yI.mp e).1]
 exact e
def yi (st:Sto) (so:SO):(st++[so])[st.length]?=some so:=by simp
def zeC {fe:zk->Mo PV}{env:zk}{f:PV->PV}{st:Sto}:∀(xs:List PV),(∀x∈xs,fe (some x::env) st=.ok (f x) st)->∀(ys:List PV),compL fe env xs ys st=.ok (.ref st.length) (st++[.lst (ys++xs.map f)])
 | [],_,ys=>by simp [compL]
 | x::xs,h,ys=>by
  simp only [compL,h x (yY ..),zao,zP]
  rw [zeC xs (fun x' hx'=>h x' (jc _ hx'))]
  simp
def zoI {K:Frag}{mg:Str->Option Value}{t:IsT}(hs:t.sub=fun _ _=>none) (hT:t.subT=fun _ _=>none) (hC:t.tyC=fun _ _=>none):IsF K mg t where
 s c B b h:=by rw [hs] at h;cases h
 tt c n b h:=by rw [hT] at h;cases h
 u T B b h:=by rw [hC] at h;cases h
 x c C h hm z:=by
  rcases z with ⟨B,b,z⟩|⟨n,b,z⟩
  ·rw [hs] at z;cases z
  ·rw [hT] at z;cases z
 i c C h hm z:=by
  rcases z with ⟨B,b,z⟩|⟨n,b,z⟩
  ·rw [hs] at z;cases z
  ·rw [hT] at z;cases z
section
variable {X:Cx}{Er:XK}{pos:Pos}
inductive MPs (X:Cx) (Er:XK):List (Option Expr)->List Expr->List Str->List (zk->Mo PV)->Prop
 | nil:MPs X Er [] [] [] []
 | cons {z:Str} {j} {p:Pos} {v:Expr} {f:zk->Mo PV} {ks:List (Option Expr)} {vs:List Expr} {zs:List Str} {fs:List (zk->Mo PV)} (hv:ME X Er v f) (hr:MPs X Er ks vs zs fs):MPs X Er (some (.Constant (.str z) j p)::ks) (v::vs) (z::zs) (f::fs)
def MPs.len {ks:List (Option Expr)}{vs:List Expr}{zs:List Str}{fs:List (zk->Mo PV)}(h:MPs X Er ks vs zs fs):ks.length=vs.length/\zs.length=fs.length/\ks.length=zs.length/\ks.all (·.isSome)=true:=by
 induction h with
 | nil=>exact ⟨rfl,rfl,rfl,rfl⟩
 | cons hv hr ih=>exact ⟨by simp [ih.1],by simp [ih.2.1],by simp [ih.2.2.1],by simpa using ih.2.2.2⟩
def isEmp:Option SO->Bool
 | some (.dic [] [])=>true
 | _=>false
def zoJ {o:Option SO}(h:isEmp o=true):o=some (.dic [] []):=by
 unfold isEmp at h
 split at h
 ·rfl
 ·cases h
def zhs:∀{zs:List Str}{vs:List V},(zs.map V.str).zip vs=((zs.map Sum.inr:List Key).zip vs).map fun kv=>(kV kv.1,kv.2)
 | [],_=>rfl
 | _::_,[]=>rfl
 | z::zs,v::vs=>by simp only [jH,List.zip_cons_cons,zhs (zs:=zs) (vs:=vs)];rfl
end
section
variable {X:Cx}
def zcF:List PV->Mo PV
 | [.int i,.int j],st=>.ok (.int (if j<i then j else i)) st
 | _,_=>.stuck
def zaR:List PV->Mo PV
 | [.int i,.int j],st=>.ok (.int (if j>i then j else i)) st
 | _,_=>.stuck
def zoK (hc:X.calm=true):BltOk X (.builtin "min") zcF:=⟨_,zlm hc,fun ρ H st xs vs Q E s r h=>by
 unfold zcF at h
 split at h
 ·rename_i st' i j
  obtain ⟨v,w,rfl,r1,r2⟩:=r.two
  cases r1;cases r2
  exact ⟨i,j,rfl,Out.now (x:=PV.int (if j<i then j else i)) h s _ rfl⟩
 ·exact h.elim⟩
def zeD (hc:X.calm=true):BltOk X (.builtin "max") zaR:=⟨_,zll hc,fun ρ H st xs vs Q E s r h=>by
 unfold zaR at h
 split at h
 ·rename_i st' i j
  obtain ⟨v,w,rfl,r1,r2⟩:=r.two
  cases r1;cases r2
  exact ⟨i,j,rfl,Out.now (x:=PV.int (if j>i then j else i)) h s _ rfl⟩
 ·exact h.elim⟩
def zoL:bootBuiltins "min" = some (.builtin "min"):=by decide +kernel
def zeE:bootBuiltins "max" = some (.builtin "max"):=by decide +kernel
end
section
variable {X:Cx}
def zoM:OpR X (compareOp .IsNot) (fun x y H Q=>∃a b,x=.bl a/\y=.bl b/\Q (.bl (!(a==b))) H):=by
 intro pins s σ H x y v u Q I rx ry h
 obtain ⟨a,b,rfl,rfl,q⟩:=h
 cases rx;cases ry
 exact PyProof.Rows.isnot_bool ⟨.bl (!(a==b)),H,I,rfl,q⟩
def zb1:PV->PV->Mo PV
 | .bl a,.bl b,st=>.ok (.bl (!(a==b))) st
 | x,y,st=>zgR x y st
def zoN:CmpOk X .IsNot zb1:=by
 obtain ⟨r,h1,h2⟩:=znt (X:=X)
 refine ⟨fun x y H Q=>r x y H Q\/_,h1.or zoM,fun ρ H st x y v w Q E s rx ry h=>?_⟩
 unfold zb1 at h
 split at h
 ·rename_i a b
  cases rx;cases ry
  exact .inr ⟨_,_,rfl,rfl,Out.now (x:=PV.bl (!(a==b))) h s _ rfl⟩
 ·exact .inl (h2 ρ H st _ _ v w Q E s rx ry h)
end
def allE (f:PV->PV->Option Bool):List PV->List PV->Option Bool
 | [],[]=>some true
 | x::xs,y::ys=>match f x y,allE f xs ys with
  | some a,some b=>some (a&&b)
  | _,_=>none
 | _,_=>some false
def hitsE (f:PV->PV->Option Bool) (ks':List Str) (xs':List PV):List Str->List PV->Option Bool
 | k::ks,x::xs=>match (ks'.zip xs').lookup k with
  | none=>some false
  | some y=>match f x y,hitsE f ks' xs' ks xs with
   | some a,some b=>some (a&&b)
   | _,_=>none
 | _,_=>some true
def zht {f:PV->PV->Option Bool}:∀{xs ys:List PV}{b:Bool},allE f xs ys=some b->∃e:Nat->Bool,(∀j x y,xs[j]?=some x->ys[j]?=some y->f x y=some (e j))/\((List.range (min xs.length ys.length)).all e&&xs.length==ys.length)=b
 | [],[],b,h=>by cases h;exact ⟨fun _=>true,fun j x y h=>by simp at h,by simp⟩
 | [],y::ys,b,h=>by cases h;exact ⟨fun _=>true,fun j x y h=>by simp at h,by simp⟩
 | x::xs,[],b,h=>by cases h;exact ⟨fun _=>true,fun j x y _ h=>by simp at h,by simp⟩
 | x::xs,y::ys,b,h=>by
  simp only [allE] at h
  cases hf:f x y with
  | none=>rw [hf] at h;cases h
  | some a =>
   cases hr:allE f xs ys with
   | none=>rw [hf,hr] at h;cases h
   | some c =>
    rw [hf,hr] at h
    cases h
    obtain ⟨e,h1,h2⟩:=zht hr
    refine ⟨fun j=>match j with|0=>a|j+1=>e j,fun j u v hu hv=>?_,?_⟩
    ·cases j with
     | zero=>simp at hu hv;subst hu;subst hv;exact hf
     | succ j=>simp at hu hv;exact h1 j u v hu hv
    ·have e1:min (x::xs).length (y::ys).length=min xs.length ys.length+1:=by simp only [wq];omega
     have e2:((x::xs).length==(y::ys).length)=(xs.length==ys.length):=by
      rw [Bool.eq_iff_iff];simp
     rw [e1,e2,List.range_succ_eq_map,List.all_cons,List.all_map,<-h2,Bool.and_assoc]
     rfl
section
variable {X:Cx}{Er:XK}{K:Frag}{mg:Str->Option Value}{ρ:List Addr}{pins:List (Addr×Obj)}{σ:L2.St}{H:Hp}{s:Shared}{st:Sto}
def zoO {ρ:List Addr}(nd:ρ.Nodup) {n m:Nat}{a:Addr}(h:ρ[n]?=some a) (h':ρ[m]?=some a):n=m:=by
 obtain ⟨h1,h2⟩:=yI.mp h
 obtain ⟨h3,h4⟩:=yI.mp h'
 have pw:=List.pairwise_iff_getElem.mp nd
 rcases Nat.lt_trichotomy n m with c|c|c
 ·exact absurd (h2.trans h4.symm) (pw n m h1 h3 c)
 ·exact c
 ·exact absurd (h4.trans h2.symm) (pw m n h3 h1 c)
def zhu {f:PV->PV->Option Bool}(hf:∀x y v b,f x y=some b->R K mg ρ H x v->R K mg ρ H y v->b=true):∀{xs ys:List PV}{vs:List V}{b:Bool},allE f xs ys=some b->Rs K mg ρ H xs vs->Rs K mg ρ H ys vs->b=true
 | [],[],vs,b,h,_,_=>by cases h;rfl
 | [],y::ys,vs,b,h,rx,ry=>by cases rx;obtain ⟨_,_,e,_⟩:=ry;cases e
 | x::xs,[],vs,b,h,rx,ry=>by cases ry;obtain ⟨_,_,e,_⟩:=rx;cases e
 | x::xs,y::ys,vs,b,h,rx,ry=>by
  obtain ⟨v,r,rfl,r1,r2⟩:=rx
  obtain ⟨v',r',e,r3,r4⟩:=ry
  cases e
  simp only [allE] at h
  cases h1:f x y with
  | none=>rw [h1] at h;cases h
  | some a =>
   cases h2:allE f xs ys with
   | none=>rw [h1,h2] at h;cases h
   | some c =>
    rw [h1,h2] at h
    cases h
    rw [hf x y v a h1 r1 r3,zhu hf h2 r2 r4]
    rfl
def zhv {f:PV->PV->Option Bool}(hf:∀x v b,f x x=some b->R K mg ρ H x v->b=true) {ks0:List Str}{xs0:List PV}:∀{ks:List Str}{xs:List PV}{vs:List V}{b:Bool},(∀k x,(k,x)∈ks.zip xs->(ks0.zip xs0).lookup k=some x)->hitsE f ks0 xs0 ks xs=some b->Rs K mg ρ H xs vs->b=true
 | [],xs,vs,b,_,h,_=>by cases xs<;>(cases h;rfl)
 | k::ks,[],vs,b,_,h,_=>by cases h;rfl
 | k::ks,x::xs,vs,b,hm,h,rx=>by
  obtain ⟨v,r,rfl,r1,r2⟩:=rx
  simp only [hitsE] at h
  rw [hm k x (by simp)] at h
  simp only at h
  cases h1:f x x with
  | none=>rw [h1] at h;cases h
  | some a =>
   cases h2:hitsE f ks0 xs0 ks xs with
   | none=>rw [h1,h2] at h;cases h
   | some c =>
    rw [h1,h2] at h
    cases h
    rw [hf x v a h1 r1,zhv hf (fun k' x' h'=>hm k' x' (by simp [h'])) h2 r2]
    rfl
def zhw:∀{ks:List Str}{xs:List PV},ks.Nodup->∀k x,(k,x)∈ks.zip xs->(ks.zip xs).lookup k=some x
 | [],_,_,k,x,h=>by simp at h
 | _::_,[],_,k,x,h=>by simp at h
 | k0::ks,x0::xs,nd,k,x,h=>by
  rw [wt] at nd
  rw [List.zip_cons_cons] at h ⊢
  rcases yQ.mp h with e|h'
  ·cases e;simp [wZ]
  ·have hk:k∈ks:=(List.of_mem_zip h').1
   have ne:(k==k0)=false:=by
    simp only [beq_eq_false_iff_ne]
    intro e;subst e;exact nd.1 hk
   rw [wZ,ne]
   exact zhw nd.2 k x h'
end
def EqW (P:Program) (W:World) (A:Around) (s:Shared) (u u':Value) (b:Bool):Prop:=∀(E:Value->Shared->Prop) (Q:Bool->Shared->Prop),Q b s->wpAny (model P W) A (eqBool u u') Q E s
def RcW (P:Program) (W:World) (A:Around) (s:Shared) (u u':Value) (b:Bool):Prop:=∀(E Q:Value->Shared->Prop),Q (.bool b) s->wpAny (model P W) A (richCompare .Eq u u') Q E s
section
variable {P:Program}{W:World}{A:Around}{s:Shared}
def EqW.of_refs {l b:Addr}{k:Bool}(hne:l≠b) (h:RcW P W A s (.ref l) (.ref b) k):EqW P W A s (.ref l) (.ref b) k:=fun E Q hq=>by
 unfold eqBool
 refine wb (wpAny_ite_split (fun hab=>absurd (by have:=eq_of_beq hab;injection this) hne) fun _=>?_)
 exact zv (h E _ (zaF hq))
def zoP {l b:Addr}{its its2:Array Value}{n n2:Nat}{dd dd2:Option Addr}{sl sl2:Array (Option Value)}{e:Nat->Bool}{E Q:Value->Shared->Prop}
  (hl:s.heap.get? l=some { cls:=.type "tuple", dict:=dd,data:=.seq its n,slots:=sl }) (hb:s.heap.get? b=some { cls:=.type "tuple", dict:=dd2,data:=.seq its2 n2,slots:=sl2 })
  (he:∀j (h1:j<its.size) (h2:j<its2.size),EqW P W A.in1 s its[j] its2[j] (e j)) (h:Q (.bool ((List.range (min its.size its2.size)).all e&&its.size==its2.size)) s) :
  wpAny (model P W) A.in1 (Builtin.«tuple.__eq__» ⟨[.ref l,.ref b],[]⟩) (fun fin s'=>∃v,fin=.done (.ret v)/\Q v s') E s:=by
 obtain ⟨hp,g,d,tk,os⟩:=s
 have f2:=AutoSeq1.sub_tuple_tuple
 have hZ:(its.toList.zip its2.toList).length=min its.size its2.size:=by simp
 wp_walk using AutoSeq1.wpAny_loadPart' hl,AutoSeq1.wpAny_loadPart' hb,wpAny_forIn_list _ (fun rest b s'=>b.1=none/\s'=⟨hp,g,d,tk,os⟩/\∃i,rest=(its.toList.zip its2.toList).drop i/\Q (.bool (((List.range (min its.size its2.size)).drop i).all e&&its.size==its2.size)) ⟨hp,g,d,tk,os⟩) _
 case turn =>
  rintro ⟨y,x⟩ rest b s' ⟨hb',rfl,i,hz,hR⟩
  have hlt:i<(its.toList.zip its2.toList).length:=by
   rcases Nat.lt_or_ge i (its.toList.zip its2.toList).length with h'|h'
   ·exact h'
   ·rw [zaX h'] at hz;cases hz
  have hm:i<min its.size its2.size:=hZ▸hlt
  have h1:i<its.size:=by omega
  have h2:i<its2.size:=by omega
  rw [wc hlt] at hz
  injection hz with hyx hrest
  have hy:y=its[i]:=by have:=congrArg Prod.fst hyx;simpa using this
  have hx:x=its2[i]:=by have:=congrArg Prod.snd hyx;simpa using this
  subst hy hx
  have hd:(List.range (min its.size its2.size)).drop i=i::(List.range (min its.size its2.size)).drop (i+1):=by simp [wc,hm]
  rw [hd,List.all_cons] at hR
  refine zv (he i h1 h2 _ _ ?_)
  cases hy:e i with
  | true =>
   rw [hy] at hR
   wp_walk
   exact ⟨rfl,rfl,i+1,hrest,by simpa using hR⟩
  | false =>
   rw [hy] at hR
   wp_walk
   exact ⟨_,rfl,by simpa using hR⟩
 case fin =>
  rintro ⟨b1,b2⟩ s' ⟨hb',rfl,i,hz,hR⟩
  simp only at hb'
  subst hb'
  have hge:min its.size its2.size<=i:=by
   rcases Nat.lt_or_ge i (its.toList.zip its2.toList).length with h'|h'
   ·rw [wc h'] at hz;cases hz
   ·exact hZ▸h'
  rw [zaX (by simpa using hge)] at hR
  wp_walk
  exact ⟨_,rfl,by simpa [Builtin.Tuple.tupleCompareSizes] using hR⟩
 case h=>exact ⟨rfl,rfl,0,rfl,by simpa using h⟩
def RcW.tuples {l b:Addr}{its its2:Array Value}{e:Nat->Bool}(hl:s.heap.IsTuple l its) (hb:s.heap.IsTuple b its2) (hu:A.units<cLine)
  (he:∀j (h1:j<its.size) (h2:j<its2.size),EqW P W A.in1 s its[j] its2[j] (e j)):RcW P W A s (.ref l) (.ref b) ((List.range (min its.size its2.size)).all e&&its.size==its2.size):=fun E Q h=>by
 obtain ⟨⟨cls,dd,data,sl⟩,ho,hc,n,hd⟩:=id hl
 obtain ⟨⟨cls2,dd2,data2,sl2⟩,ho2,hc2,n2,hd2⟩:=id hb
 simp only at hc hd hc2 hd2
 subst hc hd hc2 hd2
 refine wpAny_richCompare_same_room (op:=.Eq) ⟨_,ho,rfl⟩ ⟨_,ho2,rfl⟩ F.slot_tuple_eq (wC F.slot_tuple_eq ⟨_,ho,rfl⟩ F.entry_tuple_eq (zoP (Q:=fun v s'=>v ≠ .notImplemented/\Q v s') ho ho2 he (show Value.bool ((List.range (min its.size its2.size)).all e&&its.size==its2.size)≠Value.notImplemented/\Q (.bool ((List.range (min its.size its2.size)).all e&&its.size==its2.size)) s from ⟨(fun x=>nomatch x),h⟩)) (F.args_tuple_eq_2 _ _)) hu
end
section
variable {X:Cx}{Er:XK}{K:Frag}{mg:Str->Option Value}{ρ:List Addr}{pins:List (Addr×Obj)}{σ:L2.St}{H:Hp}{s:Shared}{st:Sto}
def zoQ {k:Str}{ks:List Str}{v:V}{vs:List V}{us:List (Key×Value)}(h:KV (kz (k::ks) (v::vs)) us):∃u r,us=(Sum.inr k,u)::r/\RelV v u/\KV (kz ks vs) r:=by
 cases h with
 | @cons p q ps qs h t =>
  obtain ⟨h1,h2⟩:=h
  obtain ⟨k',u⟩:=q
  have:k'=Sum.inr k:=h1.symm
  subst this
  exact ⟨u,qs,rfl,h2,t⟩
def zhx {f:Str}:∀{ks:List Str}{xs:List PV}{vs:List V},Rs K mg ρ H xs vs->(ks.zip xs).lookup f=none->(ks.zip vs).lookup f=none
 | [],_,_,_,_=>by simp
 | k::ks,[],_,r,_=>by cases r;simp
 | k::ks,y::xs,_,r,h=>by
  obtain ⟨v,r',rfl,h1,h2⟩:=r
  simp only [List.zip_cons_cons,wZ] at h ⊢
  split at h
  ·cases h
  ·exact zhx h2 h
def zoR {f:PV->PV->Option Bool}{G:Value->Value->Bool->Prop}(hf:∀x y v w u u' b,f x y=some b->R K mg ρ H x v->R K mg ρ H y w->RelV v u->RelV w u'->G u u' b) {xs ys:List PV}{vs ws:List V}{its its2:List Value}{e:Nat->Bool}(h2:Rs K mg ρ H xs vs) (h4:Rs K mg ρ H ys ws) (r1:Vals vs its) (r2:Vals ws its2) (he:∀j x y,xs[j]?=some x->ys[j]?=some y->f x y=some (e j)) :
  ∀j (g1:j<its.toArray.size) (g2:j<its2.toArray.size),G its.toArray[j] its2.toArray[j] (e j):=by
 intro j g1 g2
 have l1:=h2.len
 have l2:=h4.len
 have l3:=r1.length
 have l4:=r2.length
 have k1:j<xs.length:=by rw [l1,l3];simpa using g1
 have k2:j<ys.length:=by rw [l2,l4];simpa using g2
 obtain ⟨v1,e1,rr1⟩:=h2.get (zU k1)
 obtain ⟨v2,e2,rr2⟩:=h4.get (zU k2)
 obtain ⟨u1,f1,ru1⟩:=r1.get e1
 obtain ⟨u2,f2,ru2⟩:=r2.get e2
 have w1:its.toArray[j]=u1:=by
  obtain ⟨_,z⟩:=yI.mp f1
  simpa using z
 have w2:its2.toArray[j]=u2:=by
  obtain ⟨_,z⟩:=yI.mp f2
  simpa using z
 rw [w1,w2]
 exact hf xs[j] ys[j] v1 v2 u1 u2 (e j) (he j _ _ (zU k1) (zU k2)) rr1 rr2 ru1 ru2
end
section
variable {X:Cx}{Er:XK}{K:Frag}{mg:Str->Option Value}
def vals_strs:∀{ks:List Str}{us:List Value},us.length=ks.length->(∀(j:Nat) v,us[j]?=some v->∃k,ks[j]?=some k/\∃t,v=Value.str k t)->Vals (ks.map V.str) us
 | [],[],_,_=>.nil
 | [],_::_,h,_=>by simp at h
 | _::_,[],h,_=>by simp at h
 | k::ks,u::us,h,hv=>by
  obtain ⟨k',e,t,ev⟩:=hv 0 u rfl
  simp at e
  subst e
  exact .cons ⟨t,ev⟩ (vals_strs (by simpa using h) fun j v e=>by simpa using hv (j+1) v (by simpa using e))
def zoS (hc:X.calm=true):CallR X (.type "list") (fun xs H Q=>∃p ks vs,xs=[.ref p]/\H p=some (.dK (kz ks vs))/\ks.length=vs.length/\∀l,H l=none->Q (.ref l) (upd H l (.lst (ks.map V.str)))):=by
 intro pins s σ H xs us Q I r h
 obtain ⟨p,ks,vs,rfl,hp,hl,q⟩:=h
 obtain ⟨u,rfl,rx⟩:=w6 r
 cases rx
 obtain ⟨hz,lo,kv,kvr,hd⟩:=wv I.hok (.inl hp)
 obtain ⟨ep,hat⟩:=hd.dictAt
 have lk:kv.length=ks.length:=by rw [<-kvr.length];simp [kz,hl]
 have keys:kv.map (·.1)=ks.map Sum.inr:=by
  rw [<-kvr.keys]
  simp [kz,hl,List.map_fst_zip]
 refine kdl_call (kdl_dict (knd:=mixKind X.prog X.w) (kvs:=kv) (ep:=ep) lo) (I.ok.hd hc) hat (by rw [<-kvr.length];exact hz) fun h' tk acc' c' hk hS hitems=>?_
 have hv:Vals (ks.map V.str) acc'.toList:=vals_strs (by rw [Array.length_toList,hitems.1,lk]) fun j v e=>by
  obtain ⟨k,x,e1,e2⟩:=hitems.2 j v (by rw [<-Array.getElem?_toList];exact e)
  have e3:(kv.map (·.1))[j]?=some k:=by rw [jk,e1];rfl
  rw [keys,jk] at e3
  cases e4:ks[j]? with
  | none=>rw [e4] at e3;cases e3
  | some k' =>
   rw [e4] at e3
   cases e3
   rcases w4 (show keyIs (Sum.inr k') v=true from e2) with ⟨i,t,z,_⟩|⟨y,t,z,z'⟩
   ·cases z
   ·cases z;exact ⟨k',rfl,t,z'⟩
 exact ⟨.ref s.heap.objs.size,_,I.laid (t':=tk) hk (yf _) (show ObjOk X.prog X.w _ h' _ (.lst (ks.map V.str)) from ⟨by rw [jq,<-lk,<-kvr.length];exact hz,acc'.toList,c',hv,by simpa using hS⟩),rfl,q _ I.fresh⟩
def jY:List PV->Mo PV:=fun xs st=>match xs with
 | [.ref n]=>match st[n]? with
  | some (.dic ks _)=>.ok (.ref st.length) (st++[.lst (ks.map PV.str)])
  | _=>zcx xs st
 | _=>zcx xs st
def zhy {ρ:List Addr}{H:Hp}:∀{ks:List Str},Rs K mg ρ H (ks.map PV.str) (ks.map V.str)
 | []=>rfl
 | k::ks=>⟨_,_,rfl,rfl,zhy⟩
def zcG (hc:X.calm=true):BltOk X (.type "list") jY:=by
 obtain ⟨r,h1,h2⟩:=znC (X:=X)
 refine ⟨_,h1.or (zoS hc),fun ρ H st xs vs Q E s rx h=>?_⟩
 by_cases hx:∃n ks ys,xs=[.ref n]/\st[n]?=some (.dic ks ys)
 ·obtain ⟨n,ks,ys,rfl,e⟩:=hx
  have h:Out X.K X.mg ρ H (.ok (.ref st.length) (st++[.lst (ks.map PV.str)])) (gV X.K X.mg Q) E:=by
   simpa only [jY,e] using h
  obtain ⟨v,rfl,rv⟩:=Rs.one rx
  obtain ⟨a,vs,rfl,_,k1,_,k3⟩:=R.refD s rv e
  exact .inr ⟨a,ks,vs,rfl,k1,k3,fun l hl=>Out.newList (xs:=ks.map PV.str) h s zhy hl⟩
 ·refine .inl (h2 ρ H st xs vs Q E s rx ?_)
  have:jY xs st=zcx xs st:=by
   unfold jY
   split
   ·rename_i n
    split
    ·rename_i ks ys e;exact absurd ⟨n,ks,ys,rfl,e⟩ hx
    ·rfl
   ·rfl
  rw [this] at h
  exact h
def zb2 {ss:List Stmt}:MSs X Er ss zbw:=PSs.weak zkN fun D σ H ⟨env,st,ρ,re,rs,h⟩=>h
end
section
variable {P:Program}{W:World}{A:Around}{s:Shared}{E:Value->Shared->Prop}{K:Type} [DecidableEq K] {knd:KeyKind P W K}
def zb3 {d:Addr} {kv:List (K×Value)} {x:Value} {T:String} {name:Str} (sl:Slot "dict" name "dict.__eq__") (hd:s.heap.DictOf knd d kv) (hx:s.TypeIs x T) (hs:isSubtype (.type T) (.type "dict")=pure false) (Q:Value->Shared->Prop) (h:Q .notImplemented s) :
  wpAny (model P W) A (call (.builtin "dict.__eq__") [.ref d,x]) Q E s:=by
 refine wC sl hd.typeIs PySem.F.entry_dict_eq ?_ (PySem.F.args_dict_eq_2 _ _)
 show wpAny _ _ (Builtin.Dict.dictSlotArgs "__eq__" ⟨[.ref d,x],[]⟩ >>= _) _ _ s
 refine zv ?_
 unfold Builtin.Dict.dictSlotArgs
 refine zv (wpAny_notOrdered_dict hd.typeIs ?_)
 show wpAny _ _ (pure (Value.ref d,x)) _ _ s
 refine zR ?_
 refine zv (wpAny_isInstance hx hs ?_)
 simp only [Bool.not_false,yw]
 exact zv (zbn (zR ⟨_,rfl,h⟩))
def zhz {d:Addr} {o:Obj} {b:Int} {u:Tok} {name:Str} (sl:Slot "int" name "int.__eq__") (ho:s.heap.get? d=some o) (hd:o.cls=.type "dict") {es:Array DictEntry} {ep:Nat} (hq':o.data=.dict es ep) (Q:Value->Shared->Prop) (h:Q .notImplemented s) :
  wpAny (model P W) A (call (.builtin "int.__eq__") [.int b u,.ref d]) Q E s:=by
 refine wC sl (typeIs_int s b u) PySem.F.entry_int_eq ?_ (PySem.F.args_int_eq_2 _ _)
 obtain ⟨hp,g,dd,tk,os⟩:=s
 obtain ⟨c,d1,d2,d3⟩:=o
 cases hd
 cases hq'
 wp_walk using AutoSeq1.wpAny_loadPart' ho,wpAny_load ho
 exact ⟨_,rfl,h⟩
def zhA {d:Addr} {o:Obj} {b:Str} {u:Tok} {name:Str} (sl:Slot "str" name "str.__eq__") (ho:s.heap.get? d=some o) (hd:o.cls=.type "dict") {es:Array DictEntry} {ep:Nat} (hq':o.data=.dict es ep) (Q:Value->Shared->Prop) (h:Q .notImplemented s) :
  wpAny (model P W) A (call (.builtin "str.__eq__") [.str b u,.ref d]) Q E s:=by
 refine wC sl (typeIs_str s b u) PySem.F.entry_str_eq ?_ (PySem.F.args_str_eq_2 _ _)
 obtain ⟨hp,g,dd,tk,os⟩:=s
 obtain ⟨c,d1,d2,d3⟩:=o
 cases hd
 cases hq'
 wp_walk using AutoSeq1.wpAny_loadPart' ho,wpAny_load ho
 exact ⟨_,rfl,h⟩
def zhB {d t:Addr} {o ot:Obj} {its:Array Value} {n:Nat} {name:Str} (sl:Slot "tuple" name "tuple.__eq__") (ht:s.heap.get? t=some ot) (hc:ot.cls=.type "tuple") (hq:ot.data=.seq its n) (ho:s.heap.get? d=some o) (hd:o.cls=.type "dict") {es:Array DictEntry} {ep:Nat} (hq':o.data=.dict es ep) (Q:Value->Shared->Prop) (h:Q .notImplemented s) :
  wpAny (model P W) A (call (.builtin "tuple.__eq__") [.ref t,.ref d]) Q E s:=by
 refine wC sl ⟨_,ht,hc⟩ PySem.F.entry_tuple_eq ?_ (PySem.F.args_tuple_eq_2 _ _)
 obtain ⟨hp,g,dd,tk,os⟩:=s
 obtain ⟨c,d1,d2,d3⟩:=o
 obtain ⟨c',d1',d2',d3'⟩:=ot
 cases hd
 cases hq'
 cases hc
 cases hq
 have f1:=PySem.F.sub_dict_tuple
 wp_walk using AutoSeq1.wpAny_loadPart' ht,AutoSeq1.wpAny_loadPart' ho
 exact ⟨_,rfl,h⟩
def EqW.of_ref {d:Addr}{u':Value}{k:Bool}(hne:Value.ref d≠u') (h:RcW P W A s (.ref d) u' k):EqW P W A s (.ref d) u' k:=fun E Q hq=>by
 unfold eqBool
 refine wb (wpAny_ite_split (fun hab=>absurd (eq_of_beq hab) hne) fun _=>?_)
 exact zv (h E _ (zaF hq))
def EqW.of_num {d:Addr}{b:Int}{u:Tok}{k:Bool}(h:RcW P W A s (.int b u) (.ref d) k):EqW P W A s (.int b u) (.ref d) k:=fun E Q hq=>by
 unfold eqBool
 refine wb (wpAny_ite_split (fun hab=>absurd (eq_of_beq hab) nofun) fun _=>?_)
 exact zv (h E _ (zaF hq))
def EqW.of_txt {d:Addr}{b:Str}{u:Tok}{k:Bool}(h:RcW P W A s (.str b u) (.ref d) k):EqW P W A s (.str b u) (.ref d) k:=fun E Q hq=>by
 unfold eqBool
 refine wb (wpAny_ite_split (fun hab=>absurd (eq_of_beq hab) nofun) fun _=>?_)
 exact zv (h E _ (zaF hq))
def RcW.rec_num {d:Addr}{kv:List (K×Value)}(hd:s.heap.DictOf knd d kv) (b:Int) (u:Tok) (hu:A.units<cLine):RcW P W A s (.ref d) (.int b u) false:=fun E Q h=>by
 obtain ⟨o,es,ep,ho,hx,hda,_⟩:=id hd
 have ty:=hd.typeIs
 obtain ⟨o',ho',hc⟩:=id ty
 rw [ho] at ho'
 cases ho'
 exact SeqAt.rc_eq_decline_or (k:=false) ty (typeIs_int s b u) (by decide) PySem.F.sub_int_dict PySem.F.slot_dict_eq PySem.F.slot_int_eq_refl (zb3 PySem.F.slot_dict_eq hd (typeIs_int s b u) PySem.F.sub_int_dict) (zhz PySem.F.slot_int_eq_refl ho hc hda)
  (fun _ hq=>wpAny_of_eq (rfl:isSame (.ref d) (.int b u)=pure false) hq) (.inr hu) h
def RcW.num_rec {d:Addr}{kv:List (K×Value)}(hd:s.heap.DictOf knd d kv) (b:Int) (u:Tok) (hu:A.units<cLine):RcW P W A s (.int b u) (.ref d) false:=fun E Q h=>by
 obtain ⟨o,es,ep,ho,hx,hda,_⟩:=id hd
 have ty:=hd.typeIs
 obtain ⟨o',ho',hc⟩:=id ty
 rw [ho] at ho'
 cases ho'
 exact SeqAt.rc_eq_decline_or (k:=false) (typeIs_int s b u) ty (by decide) PySem.F.sub_dict_int PySem.F.slot_int_eq PySem.F.slot_dict_eq_refl (zhz PySem.F.slot_int_eq ho hc hda) (zb3 PySem.F.slot_dict_eq_refl hd (typeIs_int s b u) PySem.F.sub_int_dict)
  (fun _ hq=>wpAny_of_eq (rfl:isSame (.int b u) (.ref d)=pure false) hq) (.inr hu) h
def RcW.rec_txt {d:Addr}{kv:List (K×Value)}(hd:s.heap.DictOf knd d kv) (b:Str) (u:Tok) (hu:A.units<cLine):RcW P W A s (.ref d) (.str b u) false:=fun E Q h=>by
 obtain ⟨o,es,ep,ho,hx,hda,_⟩:=id hd
 have ty:=hd.typeIs
 obtain ⟨o',ho',hc⟩:=id ty
 rw [ho] at ho'
 cases ho'
 exact SeqAt.rc_eq_decline_or (k:=false) ty (typeIs_str s b u) (by decide) PySem.F.sub_str_dict PySem.F.slot_dict_eq PySem.F.slot_str_eq_refl (zb3 PySem.F.slot_dict_eq hd (typeIs_str s b u) PySem.F.sub_str_dict) (zhA PySem.F.slot_str_eq_refl ho hc hda)
  (fun _ hq=>wpAny_of_eq (rfl:isSame (.ref d) (.str b u)=pure false) hq) (.inr hu) h
def RcW.txt_rec {d:Addr}{kv:List (K×Value)}(hd:s.heap.DictOf knd d kv) (b:Str) (u:Tok) (hu:A.units<cLine):RcW P W A s (.str b u) (.ref d) false:=fun E Q h=>by
 obtain ⟨o,es,ep,ho,hx,hda,_⟩:=id hd
 have ty:=hd.typeIs
 obtain ⟨o',ho',hc⟩:=id ty
 rw [ho] at ho'
 cases ho'
 exact SeqAt.rc_eq_decline_or (k:=false) (typeIs_str s b u) ty (by decide) PySem.F.sub_dict_str PySem.F.slot_str_eq PySem.F.slot_dict_eq_refl (zhA PySem.F.slot_str_eq ho hc hda) (zb3 PySem.F.slot_dict_eq_refl hd (typeIs_str s b u) PySem.F.sub_str_dict)
  (fun _ hq=>wpAny_of_eq (rfl:isSame (.str b u) (.ref d)=pure false) hq) (.inr hu) h
def zb4 {d t:Addr}{kv:List (K×Value)}{its:Array Value}(hd:s.heap.DictOf knd d kv) (ht:s.heap.IsTuple t its):d≠t:=fun e=>by
 subst e
 obtain ⟨o,ho,hc⟩:=hd.typeIs
 obtain ⟨o2,ho2,hc2,_⟩:=ht
 rw [ho] at ho2
 cases ho2
 rw [hc] at hc2
 exact absurd hc2 (by simp)
def RcW.rec_row {d t:Addr}{kv:List (K×Value)}{its:Array Value}(hd:s.heap.DictOf knd d kv) (ht:s.heap.IsTuple t its) (hu:A.units<cLine):RcW P W A s (.ref d) (.ref t) false:=fun E Q h=>by
 have ne:=zb4 hd ht
 obtain ⟨o,es,ep,ho,hx,hda,_⟩:=id hd
 have ty:=hd.typeIs
 obtain ⟨o',ho',hc⟩:=id ty
 rw [ho] at ho'
 cases ho'
 obtain ⟨ot,ht1,ht2,n,ht3⟩:=id ht
 exact SeqAt.rc_eq_decline_or (k:=false) ty ⟨_,ht1,ht2⟩ (by decide) PySem.F.sub_tuple_dict PySem.F.slot_dict_eq PySem.F.slot_tuple_eq_refl (zb3 PySem.F.slot_dict_eq hd ⟨_,ht1,ht2⟩ PySem.F.sub_tuple_dict) (zhB PySem.F.slot_tuple_eq_refl ht1 ht2 ht3 ho hc hda)
  (fun _ hq=>wpAny_isSame_ref_other ne ho ht1 (by rw [hc];simp) hq) (.inr hu) h
def RcW.row_rec {d t:Addr}{kv:List (K×Value)}{its:Array Value}(hd:s.heap.DictOf knd d kv) (ht:s.heap.IsTuple t its) (hu:A.units<cLine):RcW P W A s (.ref t) (.ref d) false:=fun E Q h=>by
 have ne:=zb4 hd ht
 obtain ⟨o,es,ep,ho,hx,hda,_⟩:=id hd
 have ty:=hd.typeIs
 obtain ⟨o',ho',hc⟩:=id ty
 rw [ho] at ho'
 cases ho'
 obtain ⟨ot,ht1,ht2,n,ht3⟩:=id ht
 exact SeqAt.rc_eq_decline_or (k:=false) ⟨_,ht1,ht2⟩ ty (by decide) PySem.F.sub_dict_tuple PySem.F.slot_tuple_eq PySem.F.slot_dict_eq_refl (zhB PySem.F.slot_tuple_eq ht1 ht2 ht3 ho hc hda) (zb3 PySem.F.slot_dict_eq_refl hd ⟨_,ht1,ht2⟩ PySem.F.sub_tuple_dict)
  (fun _ hq=>SeqAt.wpAny_isSame_ref_other' ne.symm ht1 ho (by rw [hc];simp) hq) (.inr hu) h
inductive HitsW (P:Program) (W:World) (A:Around) (s:Shared) (kb:List (K×Value)):List (K×Value)->Bool->Prop
 | nil:HitsW P W A s kb [] true
 | miss {k:K} {v:Value} {r:List (K×Value)} (h:valueAt kb k=none):HitsW P W A s kb ((k,v)::r) false
 | hit {k:K} {v y:Value} {r:List (K×Value)} {e b:Bool} (h:valueAt kb k=some y) (he:EqW P W A s v y e) (hr:HitsW P W A s kb r b):HitsW P W A s kb ((k,v)::r) (e&&b)
def HitsW.inv {kb r:List (K×Value)}{k:K}{v:Value}{b:Bool}(h:HitsW P W A s kb ((k,v)::r) b):(valueAt kb k=none/\b=false)\/∃y e c,valueAt kb k=some y/\EqW P W A s v y e/\HitsW P W A s kb r c/\b=(e&&c):=by
 cases h with
 | miss h=>exact .inl ⟨h,rfl⟩
 | hit h he hr=>exact .inr ⟨_,_,_,h,he,hr,rfl⟩
def pairsW {nm:String}{a b:Addr}{ka kb:List (K×Value)}{r:Bool}{Q:Bool->Shared->Prop}(la:(a==sysModules)=false) (lb:(b==sysModules)=false) (da:s.heap.DictOf knd a ka) (db:s.heap.DictOf knd b kb)
  (hits:ka.length=kb.length->HitsW P W A s kb ka r) (h:Q (ka.length==kb.length&&r) s):wpAny (model P W) A (Builtin.Dict.samePairs nm a b) Q E s:=by
 obtain ⟨oa,ea,na,ga,_,qa,ha,pa,_⟩:=da
 obtain ⟨ob,eb,nb,gb,_,qb,hb,pb,_⟩:=db
 have za:ka.length=ea.size:=by rw [<-pa.length];exact Array.length_toList
 have zb:kb.length=eb.size:=by rw [<-pb.length];exact Array.length_toList
 have look:∀k,findBy knd.is eb k=valueAt kb k:=fun k=>by
  rw [<-pb.find k]
  clear zb pb hb qb gb
  obtain ⟨l⟩:=eb
  simp [findBy]
 rw [za,zb] at h
 unfold Builtin.Dict.samePairs Builtin.Dict.showsAll
 rw [zX (by rw [la];decide),zX (by rw [lb];decide)]
 refine zv (zR (zv (zR (zv (wpAny_dictEntries ga qa ?_)))))
 dsimp only
 refine zv (wpAny_dictEntries gb qb ?_)
 by_cases hz:ea.size=eb.size
 ·have h':Q r s:=by simpa [hz] using h
  have hh:=hits (by rw [za,zb];exact hz)
  rw [zX (by rw [hz];simp)]
  refine zv (wpAny_dictEpoch ga qa (zv ?_))
  rw [Std.Legacy.Range.forIn_eq_forIn_range']
  simp only [Std.Legacy.Range.size,Nat.sub_zero,Nat.add_sub_cancel,Nat.div_one]
  refine wpAny_forIn_list _ (fun rest q s'=>s'=s/\q=(none,())/\∃i,rest=List.range' i (ea.size-i)/\i<=ea.size/\HitsW P W A s kb (ka.drop i) r) _ ?_ ?_ _ _ ⟨rfl,rfl,0,by simp,yR _,hh⟩
  ·rintro x rest q s' ⟨rfl,rfl,i,hr,hi,hp⟩
   have lt:i<ea.size:=by
    rcases Nat.lt_or_ge i ea.size with c|c
    ·exact c
    ·rw [Nat.sub_eq_zero_of_le c] at hr;simp at hr
   have e0:ea.size-i=(ea.size-(i+1))+1:=by omega
   rw [e0,List.range'_succ] at hr
   injection hr with hx hrest
   subst hx
   refine zv (wpAny_dictEntries ga qa ?_)
   rw [Array.getElem?_eq_getElem lt]
   have lt':x<ka.length:=by rw [za];exact lt
   obtain ⟨k,v,hkv⟩:∃k v,ka[x]=(k,v):=⟨_,_,rfl⟩
   have hdrop:ka.drop x=(k,v)::ka.drop (x+1):=by rw [<-hkv];exact wc lt'
   obtain ⟨hkey,hval⟩:=pa.get? (i:=x) (e:=ea[x]) (k:=k) (v:=v) (by rw [Array.getElem?_toList];exact Array.getElem?_eq_getElem lt) (by rw [zU lt',hkv])
   obtain ⟨k',hk',hs⟩:=ha ea[x] (Array.getElem_mem lt)
   rw [knd.inj _ _ _ hk' hkey] at hs
   rw [hdrop] at hp
   show wpAny _ _ (holding [ea[x].key,ea[x].val] _ >>= _) _ _ _
   rw [hs]
   refine zv (wb (zv (wpAny_dictFind_of hkey gb qb hb ?_)))
   cases hj:eb.findIdx? fun e=>knd.is k e.key with
   | none =>
    have hn:valueAt kb k=none:=by rw [<-look k,findBy_of_findIdx?,hj]
    rcases hp.inv with ⟨_,er⟩|⟨y,_,_,hy,_⟩
    ·rw [er] at h'
     refine zR ?_
     show wpAny _ _ (if (!false)=true then _ else _) _ _ _
     rw [zH (by decide)]
     exact zR (zR h')
    ·rw [hn] at hy;exact nomatch hy
   | some j =>
    obtain ⟨jl,_,_⟩:=Array.findIdx?_eq_some_iff_getElem.mp hj
    have hv':valueAt kb k=some eb[j].val:=by
     rw [<-look k,findBy_of_findIdx?,hj]
     simp [Array.getElem?_eq_getElem jl]
    refine zv (wpAny_dictEntries gb qb ?_)
    rw [Array.getElem?_eq_getElem jl]
    rcases hp.inv with ⟨hn,_⟩|⟨y,e,c,hy,he,hrr,er⟩
    ·rw [hv'] at hn;exact nomatch hn
    ·have ey:eb[j].val=y:=Option.some.inj (hv'.symm.trans hy)
     rw [<-ey,<-hval] at he
     refine wb (he _ _ ?_)
     cases e with
     | false =>
      rw [er,Bool.false_and] at h'
      show wpAny _ _ (if (!false)=true then _ else _) _ _ _
      rw [zH (by decide)]
      exact zR (zR h')
     | true =>
      rw [Bool.true_and] at er
      rw [<-er] at hrr
      show wpAny _ _ (if (!true)=true then _ else _) _ _ _
      rw [zX (by decide)]
      refine zv (wpAny_dictEpoch ga qa ?_)
      rw [zX (by simp)]
      exact zR ⟨rfl,rfl,x+1,hrest,lt,hrr⟩
  ·rintro q s' ⟨rfl,rfl,i,hr,hi,hp⟩
   have hin:i=ea.size:=by
    rcases Nat.lt_or_ge i ea.size with c|c
    ·have e:ea.size-i=(ea.size-(i+1))+1:=by omega
     rw [e,List.range'_succ] at hr;exact nomatch hr
    ·omega
   refine zR ?_
   rw [hin,<-za,List.drop_length] at hp
   cases hp
   exact h'
 ·rw [zH (by simpa using hz)]
  have hf:(ea.size==eb.size)=false:=by simpa using hz
  rw [hf,Bool.false_and] at h
  exact zv (zbn (zR h))
def RcW.recs {a b:Addr}{ka kb:List (K×Value)}{r:Bool}(la:(a==sysModules)=false) (lb:(b==sysModules)=false) (da:s.heap.DictOf knd a ka) (db:s.heap.DictOf knd b kb) (hu:A.units<cLine)
  (hits:ka.length=kb.length->HitsW P W A.in1 s kb ka r):RcW P W A s (.ref a) (.ref b) (ka.length==kb.length&&r):=fun E Q h=>by
 refine wpAny_richCompare_same_room (op:=.Eq) da.typeIs db.typeIs PySem.F.slot_dict_eq (wC PySem.F.slot_dict_eq da.typeIs PySem.F.entry_dict_eq ?_ (PySem.F.args_dict_eq_2 _ _)) hu
 show wpAny _ _ (Builtin.Dict.dictSlotArgs "__eq__" ⟨[.ref a,.ref b],[]⟩ >>= _) _ _ s
 refine zv ?_
 unfold Builtin.Dict.dictSlotArgs
 refine zv (wpAny_notOrdered_dict da.typeIs ?_)
 show wpAny _ _ (pure (Value.ref a,Value.ref b)) _ _ s
 refine zR (zv (wpAny_isInstance (T := "dict") db.typeIs PySem.F.sub_dict_dict ?_))
 simp only [Bool.not_true,Bool.false_eq_true,ym]
 refine zv (zR (zv (zR (zv (pairsW la lb da db hits ?_)))))
 refine zR ⟨_,rfl,(fun x=>nomatch x),?_⟩
 simpa using h
end
section
variable {P:Program}{W:World}
end
def isDic:Option SO->Bool
 | some (.dic _ _)=>true
 | _=>false
def kindN (st:Sto):PV->Option Nat
 | .int _=>some 0
 | .str _=>some 1
 | .tup _=>some 2
 | .ref a=>if isDic st[a]?=true then some 3 else none
 | _=>none
def eqDD (f:PV->PV->Option Bool):Option SO->Option SO->Option Bool
 | some (.dic ks xs),some (.dic ks' xs')=>if ks.Nodup/\ks.length=xs.length then if ks.length=ks'.length then hitsE f ks' xs' ks xs else some false else none
 | _,_=>none
def eqN:Option Nat->Option Nat->Option Bool
 | some i,some j=>if i=j then none else some false
 | _,_=>none
def eqT (st:Sto):Nat->PV->PV->Option Bool
 | 0,_,_=>none
 | n+1,x,y=>match x,y with
  | .int a,.int b=>some (a==b)
  | .str a,.str b=>some (a==b)
  | .tup xs,.tup ys=>allE (eqT st n) xs ys
  | .ref a,.ref b=>eqDD (eqT st n) st[a]? st[b]?
  | x,y=>eqN (kindN st x) (kindN st y)
section
variable {X:Cx}{Er:XK}{K:Frag}{mg:Str->Option Value}{ρ:List Addr}{pins:List (Addr×Obj)}{σ:L2.St}{H:Hp}{s:Shared}{st:Sto}
inductive Kn (K:Frag) (mg:Str->Option Value) (ρ:List Addr) (H:Hp) (st:Sto):PV->V->Nat->Prop
 | num (i:Int):Kn K mg ρ H st (.int i) (.int i) 0
 | txt (z:Str):Kn K mg ρ H st (.str z) (.str z) 1
 | row {xs:List PV} {a:Addr} {vs:List V} (h:SqT K H a vs) (r:Rs K mg ρ H xs vs):Kn K mg ρ H st (.tup xs) (.ref a) 2
 | rec_ {n:Nat} {a:Addr} {ks:List Str} {xs:List PV} {vs:List V} (e:st[n]?=some (.dic ks xs)) (ha:ρ[n]?=some a) (h:H a=some (.dK (kz ks vs))) (r:Rs K mg ρ H xs vs) (l:ks.length=vs.length):Kn K mg ρ H st (.ref n) (.ref a) 3
def Kn.of (S:StR K mg ρ H st) {x:PV}{v:V}{i:Nat}(r:R K mg ρ H x v) (h:kindN st x=some i):Kn K mg ρ H st x v i:=by
 cases x with
 | int j=>cases h;cases r;exact .num j
 | str z=>cases h;cases r;exact .txt z
 | tup xs=>cases h;obtain ⟨a,vs,rfl,h1,h2⟩:=r;exact .row h1 h2
 | ref n =>
  simp only [kindN] at h
  split at h
  ·rename_i hd
   cases h
   cases e:st[n]? with
   | none=>rw [e] at hd;cases hd
   | some so =>
    cases so with
    | dic ks xs =>
     obtain ⟨a,vs,rfl,ha,k1,k2,k3⟩:=R.refD S r e
     exact .rec_ e ha k1 k2 k3
    | lst _=>rw [e] at hd;cases hd
    | ins _ _ _=>rw [e] at hd;cases hd
    | fdi _ _=>rw [e] at hd;cases hd
  ·cases h
 | _=>cases h
def zoT (I:Inv X pins σ H s) {x y:PV}{v:V}{i j:Nat}(hx:Kn X.K mg ρ H st x v i) (hy:Kn X.K mg ρ H st y v j):i=j:=by
 cases hx with
 | num=>cases hy;rfl
 | txt=>cases hy;rfl
 | row h1 r1 =>
  cases hy with
  | row=>rfl
  | rec_ e ha h2 =>
   obtain ⟨_,_,kv,_,d⟩:=wv I.hok (.inl h2)
   obtain ⟨its,_,p,_⟩:=I.tuple h1
   exact absurd rfl (zb4 d p)
 | rec_ e ha h2 =>
  cases hy with
  | rec_=>rfl
  | row h1 r1 =>
   obtain ⟨_,_,kv,_,d⟩:=wv I.hok (.inl h2)
   obtain ⟨its,_,p,_⟩:=I.tuple h1
   exact absurd rfl (zb4 d p)
def zoU (I:Inv X pins σ H s) {x y:PV}{v w:V}{u u':Value}{i j:Nat}{A:Around}(hx:Kn X.K mg ρ H st x v i) (hy:Kn X.K mg ρ H st y w j) (rv:RelV v u) (rw:RelV w u') (hij:i≠j) (hu:A.units<cLine):EqW X.prog X.w A s u u' false/\RcW X.prog X.w A s u u' false:=by
 cases hx with
 | num a =>
  obtain ⟨t,rfl⟩:=rv
  cases hy with
  | num=>exact absurd rfl hij
  | txt b=>obtain ⟨t',rfl⟩:=rw;exact ⟨fun E Q q=>SeqAt.EqAt.int_str a t b t' _ _ E Q q,fun E Q q=>SeqAt.RcAt.int_str a t b t' _ _ E Q q⟩
  | row h1 r1 =>
   cases rw
   obtain ⟨its,_,p,_⟩:=I.tuple h1
   exact ⟨fun E Q q=>SeqAt.EqAt.int_tuple a t p hu _ _ E Q q,fun E Q q=>SeqAt.RcAt.int_tuple a t p hu _ _ E Q q⟩
  | rec_ e ha h2 =>
   cases rw
   obtain ⟨_,_,kv,_,d⟩:=wv I.hok (.inl h2)
   exact ⟨.of_num (.num_rec d a t hu),.num_rec d a t hu⟩
 | txt a =>
  obtain ⟨t,rfl⟩:=rv
  cases hy with
  | txt=>exact absurd rfl hij
  | num b=>obtain ⟨t',rfl⟩:=rw;exact ⟨fun E Q q=>SeqAt.EqAt.str_int a t b t' _ _ E Q q,fun E Q q=>SeqAt.RcAt.str_int a t b t' _ _ E Q q⟩
  | row h1 r1 =>
   cases rw
   obtain ⟨its,_,p,_⟩:=I.tuple h1
   exact ⟨fun E Q q=>SeqAt.EqAt.str_tuple a t p hu _ _ E Q q,fun E Q q=>SeqAt.RcAt.str_tuple a t p hu _ _ E Q q⟩
  | rec_ e ha h2 =>
   cases rw
   obtain ⟨_,_,kv,_,d⟩:=wv I.hok (.inl h2)
   exact ⟨.of_txt (.txt_rec d a t hu),.txt_rec d a t hu⟩
 | row h0 r0 =>
  cases rv
  obtain ⟨its,_,p,_⟩:=I.tuple h0
  cases hy with
  | row=>exact absurd rfl hij
  | num b=>obtain ⟨t',rfl⟩:=rw;exact ⟨fun E Q q=>SeqAt.EqAt.tuple_int b t' p hu _ _ E Q q,fun E Q q=>SeqAt.RcAt.tuple_int b t' p hu _ _ E Q q⟩
  | txt b=>obtain ⟨t',rfl⟩:=rw;exact ⟨fun E Q q=>SeqAt.EqAt.tuple_str b t' p hu _ _ E Q q,fun E Q q=>SeqAt.RcAt.tuple_str b t' p hu _ _ E Q q⟩
  | rec_ e ha h2 =>
   cases rw
   obtain ⟨_,_,kv,_,d⟩:=wv I.hok (.inl h2)
   have ne:=zb4 d p
   exact ⟨.of_ref (fun z=>ne (by injection z with z;exact z.symm)) (.row_rec d p hu),.row_rec d p hu⟩
 | rec_ e0 ha0 h0 =>
  cases rv
  obtain ⟨_,_,kv,_,d⟩:=wv I.hok (.inl h0)
  cases hy with
  | rec_=>exact absurd rfl hij
  | num b=>obtain ⟨t',rfl⟩:=rw;exact ⟨.of_ref nofun (.rec_num d b t' hu),.rec_num d b t' hu⟩
  | txt b=>obtain ⟨t',rfl⟩:=rw;exact ⟨.of_ref nofun (.rec_txt d b t' hu),.rec_txt d b t' hu⟩
  | row h1 r1 =>
   cases rw
   obtain ⟨its,_,p,_⟩:=I.tuple h1
   have ne:=zb4 d p
   exact ⟨.of_ref (fun z=>ne (by injection z)) (.rec_row d p hu),.rec_row d p hu⟩
def zoV {a b:Option Nat}{k:Bool}(h:eqN a b=some k):∃i j,a=some i/\b=some j/\i≠j/\k=false:=by
 unfold eqN at h
 split at h
 ·split at h
  ·cases h
  ·rename_i i j c;cases h;exact ⟨i,j,rfl,rfl,c,rfl⟩
 ·cases h
inductive EqC (st:Sto) (f:PV->PV->Option Bool):PV->PV->Bool->Prop
 | num (a b:Int):EqC st f (.int a) (.int b) (a==b)
 | txt (a b:Str):EqC st f (.str a) (.str b) (a==b)
 | row {xs ys:List PV} {k:Bool} (h:allE f xs ys=some k):EqC st f (.tup xs) (.tup ys) k
 | rec_ {a b:Nat} {k:Bool} (h:eqDD f st[a]? st[b]?=some k):EqC st f (.ref a) (.ref b) k
 | apart {x y:PV} {i j:Nat} (hx:kindN st x=some i) (hy:kindN st y=some j) (h:i≠j):EqC st f x y false
def zhC {n:Nat}{x y:PV}{k:Bool}(h:eqT st (n+1) x y=some k):EqC st (eqT st n) x y k:=by
 unfold eqT at h
 split at h
 ·cases h;exact .num _ _
 ·cases h;exact .txt _ _
 ·exact .row h
 ·exact .rec_ h
 ·obtain ⟨i,j,h1,h2,h3,rfl⟩:=zoV h
  exact .apart h1 h2 h3
def zhD {f:PV->PV->Option Bool}{a b:Option SO}{k:Bool}(h:eqDD f a b=some k):∃ks xs ks' xs',a=some (.dic ks xs)/\b=some (.dic ks' xs')/\ks.Nodup/\ks.length=xs.length/\((ks.length=ks'.length/\hitsE f ks' xs' ks xs=some k)\/(ks.length≠ks'.length/\k=false)):=by
 unfold eqDD at h
 split at h
 ·rename_i ks xs ks' xs'
  split at h
  ·rename_i c
   split at h
   ·rename_i c';exact ⟨_,_,_,_,rfl,rfl,c.1,c.2,.inl ⟨c',h⟩⟩
   ·rename_i c';cases h;exact ⟨_,_,_,_,rfl,rfl,c.1,c.2,.inr ⟨c',rfl⟩⟩
  ·cases h
 ·cases h
def zhE (I:Inv X pins σ H s) (S:StR X.K mg ρ H st):∀(n:Nat) (x y:PV) (v:V) (b:Bool),eqT st n x y=some b->R X.K mg ρ H x v->R X.K mg ρ H y v->b=true:=by
 intro n
 induction n with
 | zero=>intro x y v b h;cases h
 | succ n ih =>
  intro x y v b h rx ry
  cases zhC h with
  | num a c=>cases rx;cases ry;simp
  | txt a c=>cases rx;cases ry;simp
  | row h0 =>
   obtain ⟨a,vs,rfl,h1,h2⟩:=rx
   obtain ⟨a',ws,e,h3,h4⟩:=ry
   cases e
   have:=I.tuple_inj h1 h3
   subst this
   exact zhu (fun x y v b=>ih x y v b) h0 h2 h4
  | @rec_ i j _ h0 =>
   obtain ⟨a,rfl,h1⟩:=rx
   obtain ⟨a',e,h2⟩:=ry
   cases e
   obtain rfl:=zoO S.nd h1 h2
   obtain ⟨ks,xs,ks',xs',e1,e2,nd,hl,hc⟩:=zhD h0
   rw [e1] at e2
   cases e2
   obtain ⟨vs,_,k2,_⟩:=S.addr e1 h1
   rcases hc with ⟨_,hc⟩|⟨hc,_⟩
   ·exact zhv (fun x v b e r=>ih x x v b e r r) (zhw nd) hc k2
   ·exact absurd rfl hc
  | apart hx hy hij=>exact absurd (zoT I (Kn.of S rx hx) (Kn.of S ry hy)) hij
def zhF {A:Around}{f:PV->PV->Option Bool}(hf:∀x y v w u u' b,f x y=some b->R K mg ρ H x v->R K mg ρ H y w->RelV v u->RelV w u'->EqW X.prog X.w A s u u' b) {ks':List Str}{xs':List PV}{ws:List V}{kb:List (Key×Value)}(r':Rs K mg ρ H xs' ws) (kv':KV (kz ks' ws) kb) :
  ∀{ks:List Str} {xs:List PV} {vs:List V} {ka:List (Key×Value)} {b:Bool},ks.length=vs.length->Rs K mg ρ H xs vs->KV (kz ks vs) ka->hitsE f ks' xs' ks xs=some b->HitsW X.prog X.w A s kb ka b
 | [],xs,[],ka,b,_,_,kv,h=>by
  have:b=true:=by cases xs<;>(cases h;rfl)
  subst this
  cases kv
  exact .nil
 | [],xs,_::_,ka,b,hl,_,_,_=>by simp at hl
 | k::ks,xs,[],ka,b,hl,_,_,_=>by simp at hl
 | k::ks,xs,v::vs,ka,b,hl,r,kv,h=>by
  obtain ⟨u,ka',rfl,ru,kv2⟩:=zoQ kv
  cases xs with
  | nil=>cases r
  | cons x xs =>
   obtain ⟨v',rs',e,r1,r2⟩:=r
   cases e
   simp only [hitsE] at h
   have hv:=kv'.val (Sum.inr k)
   rw [zcC] at hv
   cases hl2:(ks'.zip xs').lookup k with
   | none =>
    rw [hl2] at h
    cases h
    rw [zhx r' hl2] at hv
    cases hu:valueAt kb (Sum.inr k) with
    | none=>exact .miss hu
    | some _=>rw [hu] at hv;exact (show False from hv).elim
   | some y =>
    rw [hl2] at h
    simp only at h
    cases h1:f x y with
    | none=>rw [h1] at h;cases h
    | some a =>
     cases h2:hitsE f ks' xs' ks xs with
     | none=>rw [h1,h2] at h;cases h
     | some c =>
      rw [h1,h2] at h
      cases h
      obtain ⟨w,hw,rw'⟩:=zbV r' hl2
      rw [hw] at hv
      cases hu:valueAt kb (Sum.inr k) with
      | none=>rw [hu] at hv;exact (show False from hv).elim
      | some u' =>
       rw [hu] at hv
       exact .hit hu (hf x y v w u u' a h1 r1 rw' ru hv) (zhF hf r' kv' (by simpa using hl) r2 kv2 h2)
def zoW (I:Inv X pins σ H s) (S:StR X.K mg ρ H st):∀(n:Nat) (x y:PV) (v w:V) (u u':Value) (b:Bool) (A:Around),eqT st n x y=some b->R X.K mg ρ H x v->R X.K mg ρ H y w->RelV v u->RelV w u'->A.units+n<cLine ->
  EqW X.prog X.w A s u u' b/\RcW X.prog X.w A s u u' b:=by
 intro n
 induction n with
 | zero=>intro x y v w u u' b A h;cases h
 | succ n ih =>
  intro x y v w u u' b A h rx ry rv rw hu
  cases zhC h with
  | num a c=>cases rx;cases ry;obtain ⟨t,rfl⟩:=rv;obtain ⟨t',rfl⟩:=rw;exact ⟨fun E Q q=>SeqAt.EqAt.int_int a t c t' _ _ E Q q,fun E Q q=>SeqAt.RcAt.int_int a t c t' _ _ E Q q⟩
  | txt a c=>cases rx;cases ry;obtain ⟨t,rfl⟩:=rv;obtain ⟨t',rfl⟩:=rw;exact ⟨fun E Q q=>SeqAt.EqAt.str_str a t c t' _ _ E Q q,fun E Q q=>SeqAt.RcAt.str_str a t c t' _ _ E Q q⟩
  | row h0 =>
   obtain ⟨a,vs,rfl,h1,h2⟩:=id rx
   obtain ⟨a',ws,rfl,h3,h4⟩:=id ry
   cases rv
   cases rw
   obtain ⟨its,r1,p1,_⟩:=I.tuple h1
   obtain ⟨its2,r2,p2,_⟩:=I.tuple h3
   obtain ⟨e,he,hb⟩:=zht h0
   have it:=zoR (G:=EqW X.prog X.w A.in1 s) (fun x y v w u u' b e r1 r2 r3 r4=>(ih x y v w u u' b A.in1 e r1 r2 r3 r4 (by rw [zdr];omega)).1) h2 h4 r1 r2 he
   have eb:((List.range (min its.toArray.size its2.toArray.size)).all e&&its.toArray.size==its2.toArray.size)=b:=by
    rw [h2.len,h4.len,r1.length,r2.length] at hb
    simpa using hb
   have rc:RcW X.prog X.w A s (.ref a) (.ref a') b:=by
    rw [<-eb]
    exact RcW.tuples (show s.heap.IsTuple a its.toArray from p1) (show s.heap.IsTuple a' its2.toArray from p2) (by omega) it
   refine ⟨?_,rc⟩
   by_cases hab:a=a'
   ·subst hab
    rw [zhE I S (n+1) _ _ _ _ h rx ry]
    exact fun E Q q=>SeqAt.EqAt.same _ _ _ E Q q
   ·exact .of_refs hab rc
  | @rec_ i j _ h0 =>
   obtain ⟨a,rfl,h1⟩:=id rx
   obtain ⟨a',rfl,h2⟩:=id ry
   cases rv
   cases rw
   obtain ⟨ks,xs,ks',xs',e1,e2,nd,hl,hc⟩:=zhD h0
   obtain ⟨vs,k1,k2,k3⟩:=S.addr e1 h1
   obtain ⟨ws,k4,k5,k6⟩:=S.addr e2 h2
   obtain ⟨_,s1,ka,kva,da⟩:=wv I.hok (.inl k1)
   obtain ⟨_,s2,kb,kvb,db⟩:=wv I.hok (.inl k4)
   have la:ka.length=ks.length:=by rw [<-kva.length];simp [kz,k3]
   have lb:kb.length=ks'.length:=by rw [<-kvb.length];simp [kz,k6]
   have both:RcW X.prog X.w A s (.ref a) (.ref a') b:=by
    rcases hc with ⟨hkk,hc⟩|⟨hkk,rfl⟩
    ·have hits:ka.length=kb.length->HitsW X.prog X.w A.in1 s kb ka b:=fun _=>zhF (fun x y v w u u' b e r1 r2 r3 r4=>(ih x y v w u u' b A.in1 e r1 r2 r3 r4 (by rw [zdr];omega)).1) k5 kvb k3 k2 kva hc
     have hbb:(ka.length==kb.length&&b)=b:=by rw [la,lb,hkk];simp
     rw [<-hbb]
     exact RcW.recs s1 s2 da db (by omega) hits
    ·have hbb:(ka.length==kb.length&&true)=false:=by rw [la,lb];simpa using hkk
     rw [<-hbb]
     exact RcW.recs s1 s2 da db (by omega) fun z=>absurd (by rw [<-la,<-lb];exact z) hkk
   refine ⟨?_,both⟩
   by_cases hab:a=a'
   ·subst hab
    rw [zhE I S (n+1) _ _ _ _ h rx ry]
    exact fun E Q q=>SeqAt.EqAt.same _ _ _ E Q q
   ·exact .of_refs hab both
  | apart hx hy hij=>exact zoU I (Kn.of S rx hx) (Kn.of S ry hy) rv rw hij (by omega)
def wQ:PV->PV->Mo PV:=fun x y st=>match eqT st 150 x y with
 | some b=>.ok (.bl b) st
 | none=>.stuck
def zoX (K:Frag) (mg:Str->Option Value):R2:=fun v w H Q=>∃ρ st x y b,StR K mg ρ H st/\eqT st 150 x y=some b/\R K mg ρ H x v/\R K mg ρ H y w/\Q (.bl b) H
def zoY (hu:X.A.units+200<cLine):OpR X (compareOp .Eq) (zoX X.K X.mg):=by
 intro pins s σ H x y v u Q I rx ry h
 obtain ⟨ρ,st,a,b,k,S,e,ra,rb,q⟩:=h
 exact (zoW I S 150 a b x y v u k X.A e ra rb rx ry (by omega)).2 _ _ ⟨.bl k,H,I,rfl,q⟩
def zeF (hu:X.A.units+200<cLine):CmpOk X .Eq wQ:=⟨_,zoY hu,fun ρ H st x y v w Q E s rx ry h=>by
 unfold wQ at h
 cases e:eqT st 150 x y with
 | none=>rw [e] at h;exact h.elim
 | some b=>rw [e] at h;exact ⟨ρ,st,x,y,b,s,e,rx,ry,h.now s _ rfl⟩⟩
end
section
variable {X:Cx}{Er:XK}{K:Frag}{mg:Str->Option Value}{ρ:List Addr}{pins:List (Addr×Obj)}{σ:L2.St}{H:Hp}{s:Shared}{st:Sto}{o:Expr}{fo:zk->Mo PV}{apos cpos p0 pos0:Pos}
open Classical in
noncomputable def eInT (K:Frag) (mg:Str->Option Value) (ρ:List Addr) (H:Hp) (st:Sto) (ys:List PV) (x:PV) (u:Value):Bool:=decide (∃y v,y∈ys/\R K mg ρ H y v/\RelV v u/\eqT st 150 y x=some true)
open Classical in
end
end Mi
namespace L2
open PySem PySem.Spec PyProof.Rows
def zoZ (iy:Nat) (wi:TI) (te:TE):TS:=fun D σ H=>wi σ H fun J H1=>CompW J te σ (fun v H2=>D.nx (σ.set iy (some v)) H2) H1
def zo0 {X:Cx} {elt iter:Expr} {x y:Str} {px pos pos' spos:Pos} {scope:Scope} {wi:TI} {te:TE} {M:List Str} {iy:Nat} (hc:X.calm=true) (S:CompSc X.env.scope scope x) (eN:Hid scope M X.N) (hN0:((".0" : Str)::x::M).Nodup)
  (hi:PI X (.Name x px) iter wi) (he:∀cl C af ai fp,PE (cxH X M scope cl x C af ai fp (fun _ _=>False)) elt te) (hNX:X.N.Nodup) (hiy:X.N[iy]?=some y) (hy:Loc X.env.scope y) (hfy:X.fn y=true\/X.env.scope.names.lookup y=some .local)
  (hsw:swapsWith (.ListComp elt [⟨.Name x px,iter,[],0⟩] scope pos) (some (.Name y pos')) spos.line X.env=pure true) (hs:∀v,foldedSetIterable iter X.env v=pure v:=by intro _;rfl):PS X (.Assign [.Name y pos'] (.ListComp elt [⟨.Name x px,iter,[],0⟩] scope pos) spos) (zoZ iy wi te):=by
 intro pins s σ H Dn I h
 have hN:(x::M).Nodup:=(wt.mp hN0).2
 have h0N:(".0" : Str)∉M:=fun z=>(wt.mp hN0).1 (jc _ z)
 obtain ⟨cl,hclos,hcl1,hcl2⟩:=zgp X.env scope fun p hp hf=>I.ok.has p.1 (.inl (S.free p hp hf))
 have hkd:X.env.scope.kind=.function:=I.ok.kind
 rw [exec_Assign_Name_used _ _ _ _ hsw]
 refine zv (wpAny_standAt ?_)
 rw [arm_evalThenUse_ListComp]
 refine zv (zv (wpAny_comprehension_free (Q:=fun _ s'=>wpAny (model X.prog X.w) X.A (pure ():Sem Unit) (fun _ s'=>wpAny (model X.prog X.w) X.A (pure .next:Sem Flow) (SP X pins Dn) X.xe s') X.xe s') (use:=some (assign (.Name y pos') X.env)) rfl hs hclos S.kind (fun y hy hl=>(S.names y hy hl).1) ?_))
 refine thn (hi pins s σ H _ I h) fun v s1 h1=>thn h1 fun itv af h2=>?_
 obtain ⟨it,fp,tn,J,H2,e,I2,T,st2,f2,W,⟨m0,w0⟩,turn⟩:=h2
 subst e
 refine wD (wpAny_newFunctionEnv S.ncell (by intro y hy;simp at hy) (fun aA aB az=>?_) S.kind)
 dsimp only at aB az ⊢
 generalize hH2:af.heap.push { cls:=.type "list", dict:=none,data:=.seq ([]:List Value).toArray }=G2 at aB az ⊢
 have hC:G2.objs.size=af.heap.objs.size+1:=by rw [<-hH2,Heap.size_push]
 have hDC:af.heap.objs.size≠G2.objs.size:=by rw [hC];exact jr (za1 _)
 have hCle:af.heap.objs.size<=G2.objs.size:=by rw [hC];exact Nat.le_succ _
 have old:∀b o,af.heap.get? b=some o->aA.get? b=some o:=fun b o e=>by
  have hb:b≠G2.objs.size:=by rw [hC];exact jr (Nat.lt_succ_of_lt (yF e))
  exact az.extBut b o hb (yv _ (hH2▸yv _ e))
 have hacc:aA.get? af.heap.objs.size=some { cls:=.type "list", data:=.seq (#[]:Array Value) 0 }:=az.extBut _ _ hDC (yv _ (hH2▸jv _ rfl))
 generalize hD:af.heap.objs.size=D at *
 generalize hCC:G2.objs.size=C at *
 have ltS:∀{b:Nat} {o:Obj},af.heap.get? b=some o->b<D:=fun e=>by rw [<-hD];exact yF e
 have nofr:∀b,D<=b->b∉frs X.stack:=fun b hb z=>by
  rcases yQ.mp (I2.stkSub b z) with q|q
  ·exact ar1 I2.lt hD hb q
  ·exact I2.nofs (by rw [hD];exact hb) q
 let E':Value->Shared->Prop:=notedBy (model X.prog X.w) X.A (compEnvC scope cl C X.env) fun e s'=>compPost (model X.prog X.w) X.A X.xe (some (assign (.Name y pos') X.env)) (fun _ s'=>wpAny (model X.prog X.w) X.A (pure ():Sem Unit) (fun _ s'=>wpAny (model X.prog X.w) X.A (pure .next:Sem Flow) (SP X pins Dn) X.xe s') X.xe s') (.ref D) C (.error e) s'
 let Y:Cx:=cxH X M scope cl x C af H2 fp E'
 have fpX:∀b∈fp,FpOk X pins H2 b:=f2
 have okY:Y.Ok:=by
  refine ⟨I2.ok.mod,S.kind,I2.ok.glob,I2.ok.blt,(by show af.heap.objs.size<=C;omega),fun y z c h1 h2=>?_,fun y hy=>?_,fun y c hf=>?_,I2.ok.hd,I2.ok.frames,.inl rfl,fun b hb=>?_,I2.bs,yS I2.ok.bsz I2.sz,fun b o hb hx=>?_,fun b hb hx=>?_,I2.stack,I2.stkFree⟩
  ·exact I2.ok.inj y z c (hcl1 y c h1) (hcl1 z c h2)
  ·exact hcl2 y (zee S hkd hy)
  ·cases hf
  ·refine ⟨fun z=>?_,fun y c hy=>(fpX b hb).2.2.2.2.1 y c (hcl1 y c hy)⟩
   obtain ⟨o,ho,_⟩:=T.obj 0 _ st2 b hb
   exact ar2 (ltS ho) hC z
  ·rcases (fpX b hx).2.2.2.1 with z|z
   ·exact I2.ok.noex b o hb z
   ·exact ar3 (yF hb) I2.ok.bsz z
  ·rcases yQ.mp (I2.stkSub b hx) with q|q
   ·exact (fpX b hb).2.1 q
   ·exact (fpX b hb).2.2.1 q
 have hpinD:∀{s':Shared} {H':Hp} {o:Obj},s'.heap.get? D=some o->H' D=none->(∀v,o.data ≠ .cell v)->∀p∈[(D,o)],s'.heap.get? p.1=some p.2/\H' p.1=none/\p.1≠Y.env.locals/\p.1∉Y.fs/\∀v,p.2.data ≠ .cell v:=fun {s' H' o} e1 e2 e3 p hp=>by
  have ep:p=(D,o):=by simpa using hp
  subst ep
  exact ⟨e1,e2,hDC,nofr D (yf _),e3⟩
 have I0:Inv Y [(D,{ cls:=.type "list", data:=.seq (#[]:Array Value) 0 })] (none::σ) H2 { af with heap:=aA,toks:=af.toks+([]:List (Str×Value)).length }:=by
  have fresh:∀b,D<=b->H2 b=none:=fun b hb=>I2.hok.fresh (by rw [hD];exact hb)
  refine ⟨okY,rfl,I2.bare,Un.kept old,⟨_,aB,fun i y v e1 e2 e3=>?_⟩,fun y c hy=>?_,fresh C (by omega),fun y c hy=>I2.freeC y c (hcl1 y c hy),fun p hp=>hpinD hacc (fresh D (yf _)) (fun v z=>by cases z) p hp,I2.hok.kept old,?_⟩
  ·cases i with
   | zero=>simp at e2
   | succ i =>
    have e0':M[i]?=some y:=by simpa [Y,cxH] using e1
    have e1':X.N[i]?=some y:=by
     rcases eN.get e0' with q|q
     ·exact q
     ·refine absurd ?_ q
      rcases e3 with e3|e3|e3<;>(obtain ⟨k0,hm,_⟩:=za3 e3;exact j4.mpr ⟨_,hm,rfl⟩)
    have e2':σ[i]?=some (some v):=by simpa using e2
    have hyx:¬(y=x\/y = ".0"):=fun z=>by
     have hm:=j3 e0'
     rcases z with z|z
     ·rw [z] at hm
      exact (wt.mp hN).1 hm
     ·rw [z] at hm
      exact h0N hm
    have hfr:(y,NameKind.free)∈scope.names:=by
     rcases e3 with e3|e3|e3
     ·exact absurd (zgq S e3) hyx
     ·exact zee S hkd (.inl e3)
     ·exact zee S hkd (.inr e3)
    have hkc:X.env.scope.names.lookup y=some .cell:=S.free _ hfr rfl
    obtain ⟨m,hn,hl⟩:=I2.loc
    obtain ⟨u,r,l⟩:=hl i y v e1' e2' (.inr (.inl hkc))
    refine ⟨u,r,?_⟩
    rcases l with ⟨hk,_⟩|⟨_,c,hcc,hcell⟩
    ·have:X.env.kindOf y=some .cell:=hkc
     rw [this] at hk;cases hk
    ·obtain ⟨c',hc'⟩:=hcl2 y hfr
     have:=hcl1 y c' hc'
     rw [hcc] at this
     cases this
     refine .inr ⟨?_,c,hc',?_⟩
     ·rcases e3 with e3|e3|e3
      ·exact absurd (zgq S e3) hyx
      ·exact .inl e3
      ·exact .inr e3
     ·obtain ⟨o,ho,hd⟩:=hcell
      exact ⟨o,old c o ho,hd⟩
  ·obtain ⟨v,o,ho,hd⟩:=I2.cell y c (hcl1 y c hy)
   exact ⟨v,o,old c o ho,hd⟩
  ·show (none::σ).length=(x::M).length
   simp [I2.len,eN.1]
 have fpY:∀{pl:List (Addr×Obj)} {H':Hp},(∀p∈pl,p.1=D)->(∀b∈fp,H' b=none)->∀b∈fp,FpOk Y pl H' b:=fun {pl H'} hpl hn b hb=>by
  obtain ⟨o,ho,_⟩:=T.obj 0 _ st2 b hb
  refine ⟨hn b hb,fun z=>?_,?_,.inl hb,(okY.exf b hb).2,fun p hp z=>?_⟩
  ·exact ar2 (ltS ho) hC z
  ·exact okY.exfs b hb
  ·have hp':p∈pl:=by simpa [Y,cxH] using hp
   exact ar4 (ltS ho) (hpl p hp') z
 have loop:codeAny (model X.prog X.w) X.A (.compLoop (.ListComp elt [⟨.Name x px,iter,[],0⟩] scope pos) 0 (.ref it) (.ref D) (compEnvC scope cl C X.env))
   (compPost (model X.prog X.w) X.A X.xe (some (assign (.Name y pos') X.env)) (fun _ s'=>wpAny (model X.prog X.w) X.A (pure ():Sem Unit) (fun _ s'=>wpAny (model X.prog X.w) X.A (pure .next:Sem Flow) (SP X pins Dn) X.xe s') X.xe s') (.ref D) C) { af with heap:=aA,toks:=af.toks+([]:List (Str×Value)).length }:=by
  refine zmq (fun n s'=>∃i ys H' its k,Inv Y [(D,{ cls:=.type "list", data:=.seq (its:List Value).toArray k })] (none::σ) H' s'/\Vals ys its/\tn i s'.heap/\(∀b∈fp,H' b=none)/\W i n ys H') ?_ m0
   ⟨0,[],H2,[],0,I0,.nil,T.keep 0 _ _ st2 (fun b hb o e=>old b o e),fun b hb=>(fpX b hb).1,w0⟩
  rintro n s3 ⟨i,ys,H3,its,k,I3,rv,st3,fr3,w3⟩
  have pinl:∀{o:Obj},∀p∈[(D,o)],p.1=D:=fun {o} p hp=>by
   have ep:p=(D,o):=by simpa using hp
   rw [ep]
  obtain ⟨gD,nD,_,_,_⟩:=I3.pin (D,_) (jj _ yY)
  rcases turn i n ys H3 w3 with ⟨stop,hz,q⟩|⟨go,hz,step⟩
  ·refine thn (T.done Y rfl rfl rfl hc i _ s3 _ H3 E' I3 (fpY pinl fr3) st3 stop) fun r s4 ⟨hr,I4⟩=>?_
   subst hr
   obtain ⟨gD4,nD4,_,_,_⟩:=I4.pin (D,_) (jj _ yY)
   obtain ⟨m4,hn4,_⟩:=id I4.loc
   have fin:∀h',Heap.SameBut C s4.heap h'->Inv X pins σ (upd H3 D (.lst ys)) { s4 with heap:=h' }:=fun h' hsb=>by
    have neC:∀{b:Addr} {u:HO},H3 b=some u->b≠C:=fun e z=>by
     have:H3 C=none:=I4.free
     rw [z,this] at e;cases e
    refine I2.call' (s':={ s4 with heap:=h' }) (ch:=fp) (H':=upd H3 D (.lst ys)) I4.os ?_ ?_ I4.bare fun b hb=>⟨(fpX b hb).2.2.2.1,(fpX b hb).2.1,(fpX b hb).2.2.2.2.1,(fpX b hb).2.2.2.2.2⟩
    ·have B:=I4.base
     have ltC:∀{b:Nat} {o:Obj},af.heap.get? b=some o->b≠C:=fun e z=>ar2 (ltS e) hC z
     have neD:∀{b:Addr} {u:HO},H3 b=some u->b≠D:=fun e z=>by rw [z,nD4] at e;cases e
     refine ⟨fun b o e nn hb hx=>(hsb.2 b (ltC e)).trans (B.keep b o e nn hb hx),fun b o e nn hb hx=>?_,fun b o e nn hx=>?_,fun b o e hx=>?_,fun b xs e=>?_,fun b o u e=>?_,fun b ps e=>?_⟩
     ·obtain ⟨sl,z⟩:=B.slot b o e nn hb hx
      exact ⟨sl,(hsb.2 b (ltC e)).trans z⟩
     ·have hbD:b≠D:=jr (ltS e)
      rw [yj hbD]
      exact B.free b o e nn hx
     ·obtain ⟨o',z⟩:=B.there b o e hx
      exact ⟨o',(hsb.2 b (ltC e)).trans z⟩
     ·have z:=B.tups b xs e
      rw [yj (neD z)];exact z
     ·have z:=B.frzs b o u e
      rw [yj (neD z)];exact z
     ·obtain ⟨more,z⟩:=B.tbls b ps e
      exact ⟨more,by rw [yj (neD z)];exact z⟩
    ·intro a o e
     by_cases ha:a=D
     ·subst ha
      rw [jA] at e
      cases e
      exact ⟨hz,its,k,rv,(hsb.2 _ hDC).trans gD4⟩
     ·rw [yj ha] at e
      have keepNe:∀b u,H3 b=some u->(upd H3 D (.lst ys)) b=some u:=fun b u z=>by
       have hb:b≠D:=fun w=>by rw [w,nD4] at z;cases z
       rw [yj hb];exact z
      refine (I4.hok a o e).stay (fun b u hb z=>(hsb.2 b ?_).trans z) (fun b z=>keepNe b _ z) fun b xs z=>keepNe b _ z
      rcases hb with hb|hb
      ·rw [hb];exact neC e
      ·exact neC hb
   have hCD:C≠D:=fun z=>hDC z.symm
   have IX:=fin s4.heap ⟨rfl,fun _ _=>rfl⟩
   obtain ⟨oC,eC,pC,gC,rC⟩:=id hn4
   have hCn:upd H3 D (.lst ys) C=none:=by rw [yj hCD];exact I4.free
   have hCe:∀b o,af.heap.get? b=some o->b≠C:=fun b o e z=>ar2 (ltS e) hC z
   have hCl:C≠X.env.locals:=fun z=>by
    obtain ⟨m2,hn2,_⟩:=id I2.loc
    obtain ⟨o2,_,_,g2,_⟩:=hn2
    exact hCe _ _ g2 z.symm
   have hCf:C∉X.fs:=I2.nofs (by rw [hD];omega)
   have IP:Inv X (pins++[(C,oC)]) σ (upd H3 D (.lst ys)) s4:=IX.pins_of fun p hp=>by
    rcases wE.mp hp with hp|hp
    ·exact IX.pin p (jj _ hp)
    ·have ep:p=(C,oC):=by simpa using hp
     subst ep
     exact ⟨gC,hCn,hCl,hCf,fun v z=>by rw [rC.1] at z;cases z⟩
   show wpAny _ _ (assign (.Name y pos') X.env (.ref D)) _ _ s4
   have hst:wpAny (model X.prog X.w) X.A (assign (.Name y pos') X.env (.ref D)) (fun _ s5=>Inv X (pins++[(C,oC)]) (σ.set iy (some (.ref D))) (upd H3 D (.lst ys)) s5) X.xe s4:=wpAny_assign_Name (zd9 IP hNX hiy hy (v:=.ref D) rfl (fun s5 I5=>I5) hfy)
   refine thn hst fun _ s5 I5=>?_
   have g5:=(I5.pin (C,oC) (jj _ (jj _ yY))).1
   refine ⟨m4,⟨oC,eC,pC,g5,rC⟩,fun h'' hsb=>zR (zR ⟨_,_,?_,q D nD4⟩)⟩
   exact (I5.pins_of (pins':=pins) fun p hp=>I5.pin p (jj _ (zbM _ hp))).turned (it:=C) (t':=s5.toks) (fun b o hb e=>(hsb.2 b hb).trans e) hCn hCl
    (.inr (by have:=I2.sz;rw [hD] at this;omega)) (fun a c ha z=>by
     obtain ⟨v',o',ho',_⟩:=I2.cell a c ha
     exact hCe _ _ ho' z) (fun p hp=>hCe _ _ (I2.pin p hp).1)
  ·refine thn (T.item Y rfl rfl rfl hc i _ s3 _ H3 E' I3 (fpY pinl fr3) st3 go) fun r s4 ⟨u,hr,h4⟩=>?_
   subst hr
   refine thn h4 fun _ s5 ⟨z,H5,I5,r5,y5,st5,fr5⟩=>?_
   have I5':=I5.pinned (fpY pinl fr5) (T.obj _ _ st5)
   have pgx:PG Y (.Name x px) (zal 0):=za2 (X:=Y) hN rfl (.inl (zai S.hx)) (.inr (zai S.hx))
   have peY:PE Y elt te:=PE.nox (X:=Y) (he cl C af H2 fp)
   refine thn (pgx _ s5 (none::σ) H5 z u (fun aj H'=>aj=some z::σ/\H'=H5) I5' r5 ⟨rfl,rfl⟩) fun _ s6 ⟨aG,H6,I6,e1,e2⟩=>?_
   subst e1 e2
   refine thn (peY _ s6 _ _ _ I6 (step z _ y5)) fun uy s7 ⟨y,H7,I7,ry,m',hm,w7⟩=>?_
   obtain ⟨gD7,nD7,_,_,_⟩:=I7.pin (D,_) (jj _ (zbM _ yY))
   refine wpAny_list_append_plain ⟨k,gD7⟩ (fun h' hpl hsb=>?_) (by rw [yP,<-rv.length];exact hz)
   obtain ⟨k',gD'⟩:=hpl
   have I8:Inv Y [] (some z::σ) H7 { s7 with heap:=h' }:=(I7.pins_of (pins':=[]) (fun p hp=>nomatch hp)).turned (it:=D) (t':=s7.toks) (fun b o hb e=>(hsb.2 b hb).trans e) nD7 hDC
    (.inr (by show af.heap.objs.size<=D;omega)) (fun a c hy hz'=>by
     obtain ⟨v',o',ho',_⟩:=I2.cell a c (hcl1 a c hy)
     exact jr (ltS ho') hz') (fun p hp=>by simp [Y,cxH] at hp)
   have I9:Inv Y [] (none::σ) H7 { s7 with heap:=h' }:=I8.weak (by simp) fun j v e=>by
    cases j with
    | zero=>simp at e
    | succ j=>simpa using e
   have pinOf:∀b∈fp,∃o,s5.heap.get? b=some o/\s7.heap.get? b=some o/\H7 b=none:=fun b hb=>by
    obtain ⟨o,e,_⟩:=T.obj _ _ st5 b hb
    have q:=I7.pin (b,o) (jj _ (jj _ (zcj hb e)))
    exact ⟨o,e,q.1,q.2.1⟩
   have fpD:∀b∈fp,b≠D:=fun b hb=>by
    obtain ⟨o,ho,_⟩:=T.obj 0 _ st2 b hb
    exact jr (ltS ho)
   have eT:its.toArray.push uy=(its++[uy]).toArray:=by simp
   rw [eT] at gD'
   refine ⟨m',hm,i+1,ys++[y],H7,its++[uy],k',I9.pins_of (hpinD gD' nD7 fun v e=>by cases e),rv.append (.cons ry .nil),T.keep (i+1) _ _ st5 fun b hb o e=>?_,fun b hb=>?_,w7⟩
   ·obtain ⟨o',e1,e2,_⟩:=pinOf b hb
    rw [e] at e1
    cases e1
    exact (hsb.2 b (fpD b hb)).trans e2
   ·obtain ⟨_,_,_,q⟩:=pinOf b hb
    exact q
 exact codeAny_compStart_list loop (T.self X.A 0 _ _ _ (T.keep 0 _ _ st2 (fun b hb o e=>old b o e)) loop)
end L2
namespace Mi
open PySem L2 PySem.W PySem.Spec
section
variable {X:Cx}{Er:XK}{pos:Pos}
def tMI (X:Cx) (Er:XK) (src:zk->Mo Sq):TI:=fun σ H R=>∃env st ρ,EnvR X.K X.mg ρ H env σ/\StR X.K X.mg ρ H st/\Out X.K X.mg ρ H (src env st) (fun ah H' q st'=>∀J,Walk X.K X.mg J ah H' q->R J H') Er
def zo1 {src:zk->Mo Sq}{fe:zk->Mo PV}(σ:L2.St) (H:Hp) (Q:VK) (hh:tM X.K X.mg Er (jh src fe) σ H Q):zef (tMI X Er src) (tM X.K X.mg XN fe) σ H Q:=by
 obtain ⟨env,st,ρ,re,rs,h⟩:=hh
 refine ⟨env,st,ρ,re,rs,h.then fun av H0 q st0 e0 s0 h0 J wk=>?_⟩
 cases q with
 | im xs =>
  obtain ⟨hl,h0⟩:=Out.ifp h0
  obtain ⟨w1,w2,w3⟩:=wk
  refine ⟨fun i m ys H=>m=xs.length-i/\i<=xs.length/\ys.length=i/\∃ps st ρ,Rs X.K X.mg ρ H ps ys/\StR X.K X.mg ρ H st/\Ext av H0 ρ H/\Out X.K X.mg ρ H (compL fe env (xs.drop i) ps st) (gV X.K X.mg Q) Er,⟨xs.length,by simp,yR _,rfl,[],st0,av,rfl,s0,Ext.refl,h0⟩,?_⟩
  rintro i m ys H ⟨rfl,hi,hy,ps,st,ρ,rps,rs,ex,h⟩
  by_cases hlt:i<xs.length
  ·refine .inr ⟨w1 i ρ H ex hlt,jt (by omega),fun v H' y=>?_⟩
   obtain ⟨x,hx,ex2,s2,rx⟩:=w3 i ρ H st v H' ex rs hlt y
   have hd:xs.drop i=x::xs.drop (i+1):=by
    rw [wc hlt]
    have:=(yI.mp hx).2
    rw [this]
   rw [hd] at h
   simp only [compL] at h
   refine ⟨some x::env,st,ρ,(re.ext (e0.trans (ex.trans ex2))).cons rx,s2,zaQ (Out.ext h ex2) fun ap H3 y st3 e3 s3 h3 v ry=>⟨xs.length-(i+1),by omega,rfl,hlt,by simp [hy],ps++[y],st3,ap,Rs.snoc ry (Rs.ext (ex2.trans e3) ps rps),s3,(ex.trans ex2).trans e3,h3⟩⟩
  ·have e:i=xs.length:=by omega
   subst e
   rw [List.drop_length] at h
   exact .inl ⟨w2 _ ρ H ex (yf _),jt (by omega),fun l hl=>Out.newList h rs rps hl⟩
 | rf n =>
  obtain ⟨a,ha,rfl⟩:=wk
  refine ⟨fun i m ys H=>m+i=lim+1/\ys.length=i/\∃ps st ρ,Rs X.K X.mg ρ H ps ys/\StR X.K X.mg ρ H st/\Ext av H0 ρ H/\ρ[n]?=some a/\Out X.K X.mg ρ H (compR fe env n m i ps st) (gV X.K X.mg Q) Er,⟨lim+1,rfl,rfl,[],st0,av,rfl,s0,Ext.refl,ha,h0⟩,?_⟩
  rintro i m ys H ⟨hm,hy,ps,st,ρ,rps,rs,ex,ha,h⟩
  cases m with
  | zero=>exact h.elim
  | succ m =>
   obtain ⟨xs,hn,h⟩:=jJ h
   obtain ⟨vs,hH,hR⟩:=rs.addr hn ha
   cases hx:xs[i]? with
   | none =>
    simp only [hx] at h
    have:vs.length<=i:=by rw [<-hR.len];exact zbo.mp hx
    exact .inl ⟨⟨vs,SqL.of hH,this⟩,jt (by omega),fun l hl=>Out.newList h rs rps hl⟩
   | some x =>
    simp only [hx] at h
    obtain ⟨v,hv,rv⟩:=hR.get hx
    refine .inr ⟨⟨vs,v,SqL.of hH,hv⟩,jt (by omega),fun v' H' y=>?_⟩
    obtain ⟨e1,y⟩:=y
    subst e1
    have e2:=y vs (SqL.of hH)
    rw [hv] at e2
    cases e2
    exact ⟨some x::env,st,ρ,(re.ext (e0.trans ex)).cons rv,rs,zaQ h fun ap H3 y st3 e3 s3 h3 v ry=>⟨m,za1 m,by omega,by simp [hy],ps++[y],st3,ap,Rs.snoc ry (Rs.ext e3 ps rps),s3,ex.trans e3,e3.get ha,h3⟩⟩
def zhH (i:Nat) {elt iter:Expr} {x y:Str} {px pos' spos:Pos} {scope:Scope} {src:zk->Mo Sq} {fe:zk->Mo PV} {M:List Str} (hc:X.calm=true) (S:CompSc X.env.scope scope x) (eN:Hid scope M X.N) (hN0:((".0" : Str)::x::M).Nodup)
  (hi:MI X Er (.Name x px) iter src) (he:∀cl C af ai fp,ME (cxH X M scope cl x C af ai fp (fun _ _=>False)) XN elt fe) (hNX:X.N.Nodup) (hiy:X.N[i]?=some y) (hy:Loc X.env.scope y) (hfy:X.fn y=true\/X.env.scope.names.lookup y=some .local)
  (hsw:swapsWith (.ListComp elt [⟨.Name x px,iter,[],0⟩] scope pos) (some (.Name y pos')) spos.line X.env=pure true) (hs:∀v,foldedSetIterable iter X.env v=pure v:=by intro _;rfl) :
  MS X Er (.Assign [.Name y pos'] (.ListComp elt [⟨.Name x px,iter,[],0⟩] scope pos) spos) (zC i (jh src fe)) :=
 PS.weak (zo0 (te:=tM X.K X.mg XN fe) hc S eN hN0 hi (fun cl C af ai fp=>he cl C af ai fp) hNX hiy hy hfy hsw hs) fun D σ H ⟨env,st,ρ,re,rs,h⟩=>by
  refine zo1 (X:=X) (Er:=Er) (src:=src) (fe:=fe) σ H (fun v H2=>D.nx (σ.set i (some v)) H2) ⟨env,st,ρ,re,rs,h.then fun ag H1 x st1 e1 s1 h1 v rv=>?_⟩
  exact h1.now s1 (σ.set i (some v)) ((re.ext e1).set i rv)
def zdB (i:Nat) {elt iter:Expr} {x y:Str} {px pos' spos:Pos} {scope:Scope} {src:zk->Mo Sq} {fe:zk->Mo PV} {N:List Str} (hc:X.calm=true) (S:CompSc X.env.scope scope x) (eN:X.N=N) (hN0:((".0" : Str)::x::N).Nodup)
  (hi:MI X Er (.Name x px) iter src) (he:∀cl C af ai fp,ME (cxC X scope cl x C af ai fp (fun _ _=>False)) XN elt fe) (hNX:X.N.Nodup) (hiy:X.N[i]?=some y) (hy:Loc X.env.scope y) (hfy:X.fn y=true\/X.env.scope.names.lookup y=some .local)
  (hsw:swapsWith (.ListComp elt [⟨.Name x px,iter,[],0⟩] scope pos) (some (.Name y pos')) spos.line X.env=pure true) (hs:∀v,foldedSetIterable iter X.env v=pure v:=by intro _;rfl) :
  MS X Er (.Assign [.Name y pos'] (.ListComp elt [⟨.Name x px,iter,[],0⟩] scope pos) spos) (zC i (jh src fe)) :=
 zhH i hc S Hid.refl (eN▸hN0) hi he hNX hiy hy hfy hsw hs
end
end Mi
namespace L2
open PySem PySem.Spec PyProof.Rows PySem.W
section
variable {X:Cx}{pins:List (Addr×Obj)}{σ:St}{H:Hp}{s:Shared}{a:Addr}{kvs:List (Key×V)}{o:Obj}
def Inv.freeze (I:Inv X pins σ H s) (ha:H a=some (.dK kvs)) (ho:s.heap.get? a=some o):Inv X pins σ (upd H a (.frz o (.dK kvs))) s:=by
 have mu:Mut (H a):=by rw [ha];trivial
 have d:=I.hok a _ ha
 exact I.un (h':=s.heap) (t':=s.toks) (Un.write (e:=a) mu (.inl rfl) (fun b u _ q=>q) ⟨o,ho⟩) (HOk.write (e:=a) I.hok mu (.inl rfl) (fun b u _ q=>q) ⟨o,ho⟩ ⟨ho,d⟩)
def Inv.young (I:Inv X pins σ H s) (ha:H a=some (.dK kvs)):∀o u,X.H₀ a≠some (.frz o u):=fun o u e=>by
 have:=I.base.frzs a o u e
 rw [ha] at this
 cases this
def Inv.thaw (I:Inv X pins σ H s) (ha:H a=some (.frz o (.dK kvs))) (hy:∀o u,X.H₀ a≠some (.frz o u)):Inv X pins σ (upd H a (.dK kvs)) s:=by
 have ne:∀b,H b=none->b≠a:=fun b n z=>by rw [z,ha] at n;cases n
 have no:∀b u,H b=some u->(∀o k,u ≠ .frz o k)->b≠a:=fun b u e n z=>by rw [z,ha] at e;cases e;exact n _ _ rfl
 refine ⟨I.ok,I.os,I.bare,⟨I.base.keep,I.base.slot,fun b o e n hx=>?_,I.base.there,fun b xs e=>?_,fun b o u e=>?_,fun b ps e=>?_⟩,I.loc,I.cell,?_,fun x c e=>?_,fun p hp=>?_,fun b u e=>?_,I.len⟩
 ·have:=I.base.free b o e n hx
  rw [yj (ne b this)];exact this
 ·have:=I.base.tups b xs e
  rw [yj (no b _ this fun _ _=>nofun)];exact this
 ·have:=I.base.frzs b o u e
  rw [yj (fun z=>hy o u (by rw [<-z];exact e))];exact this
 ·obtain ⟨m,this⟩:=I.base.tbls b ps e
  exact ⟨m,by rw [yj (no b _ this fun _ _=>nofun)];exact this⟩
 ·rw [yj (ne _ I.free)];exact I.free
 ·rw [yj (ne _ (I.freeC x c e))];exact I.freeC x c e
 ·obtain ⟨h1,h2,h3⟩:=I.pin p hp
  exact ⟨h1,by rw [yj (ne _ h2)];exact h2,h3⟩
 ·by_cases hb:b=a
  ·subst hb
   rw [jA] at e
   cases e
   exact (I.hok b _ ha).2
  ·rw [yj hb] at e
   exact (I.hok b u e).stay (fun c v _ q=>q) (fun c q=>by rw [yj (no c _ q fun _ _=>nofun)];exact q) fun c xs q=>by rw [yj (no c _ q fun _ _=>nofun)];exact q
end
def Itd (a:Addr) (o:Obj) (kvs:List (Key×V)):It :=
 ⟨fun i H=>H a=some (.frz o (.dK kvs))/\i<kvs.length,fun i H x H'=>H'=H/\∃kv,kvs[i]?=some kv/\x=kV kv.1,fun i H=>H a=some (.frz o (.dK kvs))/\kvs.length<=i⟩
def zo2 {k:Key}{u:Value}(h:keyIs k u=true):RelV (kV k) u:=by
 rcases w4 h with ⟨i,t,rfl,rfl⟩|⟨y,t,rfl,rfl⟩
 ·exact ⟨t,rfl⟩
 ·exact ⟨t,rfl⟩
def zhI {X:Cx}{pins:List (Addr×Obj)}{σ:St}{H:Hp}{s:Shared}{a:Addr}{o:Obj}{kvs:List (Key×V)}{es:Array DictEntry}{ep:Nat}(I:Inv X pins σ H s) (ha:H a=some (.frz o (.dK kvs))) (hd:o.data=.dict es ep) :
  ∃vs,KV kvs vs/\s.heap.DictAt (mixKind X.prog X.w) a vs ep:=by
 obtain ⟨ho,_,_,vs,r,o',es',ep',e1,e2,e3,e4⟩:=I.hok a _ ha
 rw [ho] at e1
 cases e1
 rw [hd] at e3
 cases e3
 exact ⟨vs,r,o,es,ho,e2,hd,e4⟩
def zo3 {P:Program}{w:World}{K:PySem.W.Frag}{tg:Expr}{a it:Addr}{o:Obj}{kvs:List (Key×V)}{es:Array DictEntry}{ep:Nat}(hd:o.data=.dict es ep):Turn P w K tg (Itd a o kvs) [it] it (fun i h=>h.IsKeyIter it a i kvs.length ep) where
 mem:=by simp
 obj:=fun i h st b hb=>by
  have e:b=it:=by simpa using hb
  subst e
  obtain ⟨o,e,c,d⟩:=st
  exact ⟨o,e,fun v z=>by rw [d] at z;cases z⟩
 keep:=fun i h h' st k=>st.at fun o e=>k it (by simp) o e
 item:=by
  intro X hP hw hK hc i pins s σ H E I hf st hg
  subst hP hw hK
  obtain ⟨ha,hi⟩:=hg
  obtain ⟨vs,r,hat⟩:=zhI I ha hd
  have hl:=r.length
  have hv:vs[i]?=some (vs[i]'(by omega)):=zU (by omega)
  have hkv:kvs[i]?=some kvs[i]:=zU hi
  have hk:kvs[i].1=(vs[i]'(by omega)).1:=by
   have:=congrArg (fun l:List Key=>l[i]?) r.keys
   simp only [jk,hv,hkv,Option.map_some] at this
   exact Option.some.inj this
  obtain ⟨f0,f1,f2,f3,f4,f5⟩:=hf it (by simp)
  rw [hl] at st
  refine wpAny_pyNext_dict_item st hat (k:=(vs[i]'(by omega)).1) (v:=(vs[i]'(by omega)).2) hv fun key h' hkey st' sb=>?_
  have I1:Inv X pins σ H { s with heap:=h' }:=I.turned (t':=s.toks) (fun b o hb e=>(sb.2 b hb).trans e) f0 f1 f3 f4 f5
  obtain ⟨o',e,c,d⟩:=id st'
  refine ⟨key,rfl,zci (s:={ s with heap:=h' }) e c d (by decide) ⟨kV kvs[i].1,H,I1,?_,⟨rfl,_,hkv,rfl⟩,by rw [<-hl] at st';exact st',fun b hb=>(hf b hb).1⟩⟩
  rw [hk]
  exact zo2 hkey
 done:=by
  intro X hP hw hK hc i pins s σ H E I hf st hg
  subst hP hw hK
  obtain ⟨ha,hi⟩:=hg
  obtain ⟨vs,r,hat⟩:=zhI I ha hd
  have hl:=r.length
  obtain ⟨f0,f1,f2,f3,f4,f5⟩:=hf it (by simp)
  rw [hl] at st
  exact wpAny_pyNext_dict_end (I.ok.hd hc) st hat (zbo.mpr (by omega)) fun h' eb=>⟨rfl,I.turned (t':=s.toks) (fun b o hb e=>eb b o hb e) f0 f1 f3 f4 f5⟩
 self:=fun _ _ _ _ _ st h=>wpAny_pyIter_keyiter st h
def zo4 (X:Cx) (tl:TE):TI:=fun σ H R=>tl σ H fun x H1=>∃a kvs,x=.ref a/\H1 a=some (.dK kvs)/\∀o,kvs.length<=sizeLine->(∀o u,X.H₀ a≠some (.frz o u))->R (Itd a o kvs) (upd H1 a (.frz o (.dK kvs)))
def zo5 {X:Cx}{l tg:Expr}{tl:TE}(hl:PE X l tl):PI X tg l (zo4 X tl):=by
 intro pins s σ H R I h
 refine thn (hl pins s σ H _ I h) fun v s1 ⟨x,H1,I1,r1,a,kvs,e,ha,q⟩=>?_
 subst e
 cases r1
 obtain ⟨hz,lo,vs,r,o,es,ep,ho,hx,hd,hr⟩:=I1.hok a _ ha
 have I2:=I1.freeze ha ho
 have fr:∀b,s1.heap.objs.size<=b->(upd H1 a (.frz o (.dK kvs))) b=none:=fun b hb=>I2.hok.fresh hb
 refine wpAny_pyIter_dict lo (show s1.heap.DictAt (mixKind X.prog X.w) a vs ep from ⟨o,es,ho,hx,hd,hr⟩) ?_
 refine ⟨s1.heap.objs.size,[s1.heap.objs.size],_,_,_,rfl,I2.kept (t':=s1.toks) (fun b o e=>yv _ e),zo3 hd,?_,fun b hb=>?_,q o hz (I1.young ha)⟩
 ·rw [r.length]
  exact ⟨_,jv _ rfl,rfl,rfl⟩
 ·have e:b=s1.heap.objs.size:=by simpa using hb
  subst e
  exact I2.fpOk (yf _) (fr _ (yf _))
def Thaw (X:Cx) (H:Hp) (G:Hp->Prop):Prop:=∃a o kvs,H a=some (.frz o (.dK kvs))/\(∀o u,X.H₀ a≠some (.frz o u))/\G (upd H a (.dK kvs))
def zo6 {X:Cx}{e:Expr}{t:TE}(h:PE X e t):PE X e (fun σ H Q=>t σ H fun v H'=>Thaw X H' (Q v)):=by
 intro pins s σ H Q I q
 refine thn (h pins s σ H _ I q) fun u s1 ⟨v,H',I',r,a,o,kvs,ha,hy,q'⟩=>?_
 exact ⟨v,_,I'.thaw ha hy,r,q'⟩
end L2
namespace Mi
open PySem L2 PySem.W PySem.Spec
section
variable {K:Frag}{mg:Str->Option Value}{ρ:List Addr}{H:Hp}{a:Addr}{o:Obj}{kvs:List (Key×V)}{u:HO}
def zcH (ha:H a=some (.frz o (.dK kvs))) {b:Addr}{w:HO}(h:H b=some w) (n:∀o k,w ≠ .frz o (.dK k)):upd H a u b=some w:=by
 rw [yj]
 ·exact h
 ·intro z;subst z;rw [ha] at h;cases h;exact n _ _ rfl
def zo7 (ha:H a=some (.frz o (.dK kvs))) {p:Addr}{xs:List V}(h:SqT K H p xs):SqT K (upd H a u) p xs:=by
 rcases h with (h|⟨o,h⟩)|h
 ·exact .inl (.inl (zcH ha h (fun _ _=>nofun)))
 ·exact .inl (.inr ⟨o,zcH ha h (fun _ _=>nofun)⟩)
 ·exact .inr h
def zo8 (ha:H a=some (.frz o (.dK kvs))) {p:Addr}{xs:List V}(h:FrL K H p xs):FrL K (upd H a u) p xs:=by
 rcases h with ⟨o,h⟩|h
 ·exact .inl ⟨o,zcH ha h (fun _ _=>nofun)⟩
 ·exact .inr h
mutual
def R.th (ha:H a=some (.frz o (.dK kvs))):∀(x:PV) {v:V},R K mg ρ H x v->R K mg ρ (upd H a u) x v
 | .non,_,h=>h
 | .bl _,_,h=>h
 | .int _,_,h=>h
 | .str _,_,h=>h
 | .ty _,_,h=>h
 | .tup xs,_,h=>by
  obtain ⟨a,vs,h1,h2,h3⟩:=h
  exact ⟨a,vs,h1,zo7 ha h2,Rs.th ha xs h3⟩
 | .frl xs,_,h=>by
  obtain ⟨a,vs,h1,h2,h3⟩:=h
  exact ⟨a,vs,h1,zo8 ha h2,Rs.th ha xs h3⟩
 | .ref n,_,h=>h
 | .fn _,_,h=>h
 | .kd ks xs,_,h=>by
  obtain ⟨a,us,vs,h1,h2,h4,h3⟩:=h
  exact ⟨a,us,vs,h1,h2,h4,Rs.th ha xs h3⟩
 | .exo c ks xs,_,h=>by
  obtain ⟨a,C,d,vs,h1,h2,h3,h4,h5,h6⟩:=h
  exact ⟨a,C,d,vs,h1,h2,zcH ha h3 (fun _ _=>nofun),zcH ha h4 (fun _ _=>nofun),Rs.th ha xs h5,h6⟩
def Rs.th (ha:H a=some (.frz o (.dK kvs))):∀(xs:List PV) {vs:List V},Rs K mg ρ H xs vs->Rs K mg ρ (upd H a u) xs vs
 | [],_,h=>h
 | x::xs,_,h=>by
  obtain ⟨v,r,h1,h2,h3⟩:=h
  exact ⟨v,r,h1,R.th ha x h2,Rs.th ha xs h3⟩
end
def EnvR.th (ha:H a=some (.frz o (.dK kvs))) {env:zk}{σ:L2.St}(h:EnvR K mg ρ H env σ):EnvR K mg ρ (upd H a u) env σ :=
 ⟨h.len,fun i x hx=>let ⟨v,p,q⟩:=h.at_ i x hx;⟨v,p,R.th ha x q⟩⟩
def zo9 (ha:H a=some (.frz o (.dK kvs))) {so:SO}{b:Addr}(ne:b≠a) (h:SoR K mg ρ H so b):SoR K mg ρ (upd H a u) so b:=by
 cases so with
 | lst xs=>obtain ⟨vs,h1,h2⟩:=h;exact ⟨vs,by rw [yj ne];exact h1,Rs.th ha xs h2⟩
 | dic ks xs=>obtain ⟨vs,h1,h2,h3⟩:=h;exact ⟨vs,by rw [yj ne];exact h1,Rs.th ha xs h2,h3⟩
 | ins c ks xs=>obtain ⟨C,dx,vs,h0,h1,h2,h3⟩:=h;exact ⟨C,dx,vs,h0,by rw [yj ne];exact h1,Rs.th ha xs h2,h3⟩
 | fdi ks xs=>obtain ⟨o,vs,h1,h2,h3⟩:=h;exact ⟨o,vs,by rw [yj ne];exact h1,Rs.th ha xs h2,h3⟩
def StR.thaw {st:Sto}{n:Nat}{ks:List Str}{xs:List PV}(s:StR K mg ρ H st) (hn:ρ[n]?=some a) (ha:H a=some (.frz o (.dK kvs))) (hs:st[n]?=some (.fdi ks xs)):StR K mg ρ (upd H a (.dK kvs)) (st.set n (.dic ks xs)):=by
 refine ⟨by simp [s.len],s.nd,fun i so' e=>?_⟩
 rw [List.getElem?_set] at e
 by_cases hij:n=i
 ·subst hij
  rw [zH rfl] at e
  split at e
  ·cases e
   obtain ⟨o',vs,h1,h2,h3⟩:=s.addr hs hn
   rw [ha] at h1
   cases h1
   exact ⟨a,hn,vs,jA,Rs.th ha xs h2,h3⟩
  ·cases e
 ·rw [zX hij] at e
  obtain ⟨b,hb,q⟩:=s.at_ i so' e
  have ne:b≠a:=by
   intro z
   subst z
   obtain ⟨h1,h2⟩:=yI.mp hn
   obtain ⟨h3,h4⟩:=yI.mp hb
   have pw:=List.pairwise_iff_getElem.mp s.nd
   rcases Nat.lt_trichotomy n i with c|c|c
   ·exact pw n i h1 h3 c (h2.trans h4.symm)
   ·exact hij c
   ·exact pw i n h3 h1 c (h4.trans h2.symm)
  exact ⟨b,hb,zo9 ha ne q⟩
def Ext.thawed {ah:List Addr}{H':Hp}{w:HO}(ha:H a=some (.dK kvs)) (e:Ext ρ (upd H a (.frz o (.dK kvs))) ah H'):Ext ρ H ah (upd H' a w) :=
 ⟨e.pre,fun b x h m=>by
  have ne:b≠a:=by intro z;subst z;rw [ha] at h;cases h;cases m
  rw [yj ne]
  exact e.imm b x (by rw [yj ne];exact h) m⟩
end
section
variable {X:Cx}{Er:XK}{pos:Pos}{o:Expr}{sts:List Stmt}{gb:zk->Mo Fl}{fo:zk->Mo PV}{fs:zk->Mo (List PV)}
def zcI {α:Type}(v:PV) (st:Sto) (f:Nat->List Str->List PV->Res α):Res α:=match v with
 | .ref n=>wj st n fun ks xs=>f n ks xs
 | _=>.stuck
def thawM {α:Type}(n:Nat) (st:Sto) (f:Sto->Res α):Res α:=match st[n]? with
 | some (.fdi ks xs)=>f (st.set n (.dic ks xs))
 | _=>.stuck
def zpa {α:Type}{K:Frag}{mg:Str->Option Value}{ρ:List Addr}{H:Hp}{st:Sto}{v:PV}{k:Nat->List Str->List PV->Res α}{good:List Addr->Hp->α->Sto->Prop}(h:Out K mg ρ H (zcI v st k) good Er):∃n ks xs,v=.ref n/\st[n]?=some (.dic ks xs)/\Out K mg ρ H (k n ks xs) good Er:=by
 unfold zcI at h
 split at h
 ·rename_i n
  obtain ⟨ks,xs,e,h⟩:=zgN h
  exact ⟨n,ks,xs,rfl,e,h⟩
 ·exact h.elim
def zpb {α:Type}{K:Frag}{mg:Str->Option Value}{ρ:List Addr}{H:Hp}{st:Sto}{n:Nat}{k:Sto->Res α}{good:List Addr->Hp->α->Sto->Prop}(h:Out K mg ρ H (thawM n st k) good Er):∃ks xs,st[n]?=some (.fdi ks xs)/\Out K mg ρ H (k (st.set n (.dic ks xs))) good Er:=by
 unfold thawM at h
 split at h
 ·rename_i ks xs e;exact ⟨ks,xs,e,h⟩
 ·exact h.elim
def zpc {α β:Type}{K:Frag}{mg:Str->Option Value}{ρ:List Addr}{H:Hp}{r:Res β}{f:β->Mo α}{good:List Addr->Hp->α->Sto->Prop}(h:Out K mg ρ H ((noErr r).bind f) good Er):∃x st,r=.ok x st/\Out K mg ρ H (f x st) good Er:=by
 cases r with
 | ok x st=>exact ⟨x,st,rfl,h⟩
 | err=>exact h.elim
 | stuck=>exact h.elim
def zpd {α β:Type}{r:Res β}{f:β->Mo α}{x:α}{st:Sto}(h:(noErr r).bind f=.ok x st):∃y st1,r=.ok y st1/\f y st1=.ok x st:=by
 cases r with
 | ok y st1=>exact ⟨y,st1,rfl,h⟩
 | err=>cases h
 | stuck=>cases h
def zpe {ks:List Str}{vs:List V}{i:Nat}{kv:Key×V}(h:(kz ks vs)[i]?=some kv):∃k,ks[i]?=some k/\kV kv.1=.str k:=by
 unfold kz at h
 rw [List.getElem?_zip_eq_some] at h
 obtain ⟨h1,_⟩:=h
 rw [jk] at h1
 cases hk:ks[i]? with
 | none=>rw [hk] at h1;cases h1
 | some k =>
  rw [hk] at h1
  have:kv.1=Sum.inr k:=(Option.some.inj h1).symm
  exact ⟨k,rfl,by rw [this];rfl⟩
def compK (fe:zk->Mo PV) (env:zk):List PV->List PV->Mo (List PV)
 | [],ys,st=>.ok ys st
 | x::xs,ys,st=>(noErr (fe (some x::env) st)).bind fun y st1=>compK fe env xs (ys++[y]) st1
def zeG (fo:zk->Mo PV) (fe:zk->Mo PV):zk->Mo PV:=fun env st=>(fo env st).bind fun v st1=>zcI v st1 fun n ks xs =>
 (noErr (compK fe env (ks.map PV.str) [] (st1.set n (.fdi ks xs)))).bind fun ys st2=>thawM n (st2++[.lst ys]) fun st3=>.ok (.ref st2.length) st3
def zpf {elt:Expr} {x:Str} {px:Pos} {scope:Scope} {fe:zk->Mo PV} {N:List Str} (hc:X.calm=true) (S:CompSc X.env.scope scope x) (eN:X.N=N) (hN0:((".0" : Str)::x::N).Nodup)
  (ho:ME X Er o fo) (he:∀cl C af ai fp,ME (cxC X scope cl x C af ai fp (fun _ _=>False)) XN elt fe)
  (hs:∀v,foldedSetIterable o X.env v=pure v:=by intro _;rfl):ME X Er (.ListComp elt [⟨.Name x px,o,[],0⟩] scope pos) (zeG fo fe) :=
 PE.weak (zo6 (zmt (te:=tM X.K X.mg XN fe) hc S eN hN0 (zo5 ho) (fun cl C af ai fp=>he cl C af ai fp) hs)) fun σ H Q ⟨env,st,ρ,re,rs,h⟩=>⟨env,st,ρ,re,rs,h.then fun av H0 x st0 e0 s0 h0 v rv=>by
  obtain ⟨n,ks,xs,rfl,hn,h0⟩:=zpa h0
  obtain ⟨a,vs,rfl,ha,k1,k2,k3⟩:=R.refD s0 rv hn
  refine ⟨a,kz ks vs,rfl,k1,fun ob hz hy=>?_⟩
  obtain ⟨ys',st',hr,h0⟩:=zpc h0
  obtain ⟨ks',xs',ht,h0⟩:=zpb h0
  have ew:Ext av H0 av (upd H0 a (.frz ob (.dK (kz ks vs)))):=Ext.write k1 rfl
  have hl:(kz ks vs).length=ks.length:=by simp [kz,k3]
  rw [hl] at hz
  refine ⟨fun i m ys H=>m=ks.length-i/\i<=ks.length/\ys.length=i/\∃ps st ρ,Rs X.K X.mg ρ H ps ys/\StR X.K X.mg ρ H st/\Ext av (upd H0 a (.frz ob (.dK (kz ks vs)))) ρ H/\compK fe env ((ks.map PV.str).drop i) ps st=.ok ys' st',
   ⟨ks.length,by simp,yR _,rfl,[],_,av,rfl,s0.write (so:=.fdi ks xs) ha ew ⟨ob,vs,jA,Rs.ext ew _ k2,k3⟩,Ext.refl,hr⟩,?_⟩
  rintro i m ys H ⟨rfl,hi,hyl,ps,st,ρ,rps,rs,ex,h⟩
  have hf:H a=some (.frz ob (.dK (kz ks vs))):=ex.imm a _ jA rfl
  have ha':=ex.get ha
  by_cases hlt:i<ks.length
  ·refine .inr ⟨⟨hf,by rw [hl];exact hlt⟩,by omega,fun v H' y=>?_⟩
   obtain ⟨rfl,kv,hkv,rfl⟩:=y
   obtain ⟨k,hk,ev⟩:=zpe hkv
   have hd:(ks.map PV.str).drop i=.str k::(ks.map PV.str).drop (i+1):=by
    rw [wc (by simpa using hlt)]
    have:=(yI.mp hk).2
    simp [this]
   rw [hd] at h
   simp only [compK] at h
   obtain ⟨y,st2,hb2,h⟩:=zpd h
   refine ⟨some (.str k)::env,st,ρ,(re.ext (e0.trans (ew.trans ex))).cons ev,rs,?_⟩
   rw [hb2]
   exact fun ap H3 e3 s3 w rw'=>⟨ks.length-(i+1),by omega,rfl,hlt,by simp [hyl],ps++[y],st2,ap,Rs.snoc rw' (Rs.ext e3 ps rps),s3,ex.trans e3,h⟩
  ·have e:i=ks.length:=by omega
   subst e
   rw [zaX (by simp)] at h
   cases h
   refine .inl ⟨⟨hf,by rw [hl];exact yf _⟩,by omega,fun l hl'=>?_⟩
   have ne:a≠l:=w5 hf hl'
   have hf':upd H l (.lst ys) a=some (.frz ob (.dK (kz ks vs))):=by rw [yj ne];exact hf
   have ep:Ext ρ H (ρ++[l]) (upd H l (.lst ys)):=Ext.push hl'
   have s1:StR X.K X.mg (ρ++[l]) (upd H l (.lst ys)) (st'++[.lst ys']):=rs.push hl' ⟨ys,jA,Rs.ext ep _ rps⟩
   exact ⟨a,ob,_,hf',hy,h0 (ρ++[l]) _ (Ext.thawed k1 (ex.trans ep)) (StR.thaw s1 (ep.get ha') hf' ht) _ ⟨l,rfl,by rw [<-rs.len];simp⟩⟩⟩
def wI:PV->PV->Mo PV:=fun x y st=>match x with
 | .ref n=>match st[n]? with
  | some (.fdi ks xs)=>match y with
   | .str z=>optR ((ks.zip xs).lookup z) st
   | _=>.stuck
  | _=>zw x y st
 | _=>zw x y st
def zhJ (hu:X.A.units+200<cLine):IxOk X wI:=by
 obtain ⟨r,h1,h2⟩:=zhf (X:=X) hu
 refine ⟨_,h1.or (zhd (by omega)),fun ρ H st x y v w Q E s rx ry h=>?_⟩
 by_cases hx:∃n ks xs,x=.ref n/\st[n]?=some (.fdi ks xs)
 ·obtain ⟨n,ks,xs,rfl,e⟩:=hx
  simp only [wI,e] at h
  cases y with
  | str z =>
   obtain ⟨q,hq,h⟩:=zbS h
   obtain ⟨a,rfl,ha⟩:=rx
   obtain ⟨ob,vs,k1,k2,_⟩:=s.addr e ha
   cases ry
   obtain ⟨v,hv,rv⟩:=zbV k2 hq
   refine .inr ⟨a,v,rfl,.inl ⟨_,Sum.inr z,.inr ⟨ob,k1⟩,rfl,?_⟩,h.now s _ rv⟩
   rw [<-hv]
   exact zcC.symm
  | _=>exact h.elim
 ·refine .inl (h2 ρ H st x y v w Q E s rx ry ?_)
  have:wI x y st=zw x y st:=by
   unfold wI
   split
   ·rename_i n
    split
    ·rename_i ks xs e;exact absurd ⟨n,ks,xs,rfl,e⟩ hx
    ·rfl
   ·rfl
  rw [this] at h
  exact h
end
end Mi
namespace L2
open PySem PySem.Spec PyProof.Rows PySem.W
end L2
namespace Mi
open PySem L2 PySem.W PySem.Spec
section
variable {X:Cx}{Er:XK}{K:Frag}{mg:Str->Option Value}{pos p apos cpos:Pos}{o e f:Expr}{fo fk fx:zk->Mo PV}
def boolsP:List PV->Option (List Bool)
 | []=>some []
 | .bl b::r=>(boolsP r).map (b::·)
 | _::_=>none
def zhK {ρ:List Addr}{H:Hp}:∀{xs:List PV}{bs:List Bool}{vs:List V},boolsP xs=some bs->Rs K mg ρ H xs vs->vs=bs.map V.bl
 | [],bs,vs,e,h=>by cases e;cases h;rfl
 | .bl i::r,bs,vs,e,h=>by
  simp only [boolsP,Option.map_eq_some_iff] at e
  obtain ⟨ir,e1,rfl⟩:=e
  obtain ⟨v,r',rfl,h1,h2⟩:=h
  cases h1
  rw [zhK e1 h2]
  rfl
 | .non::_,_,_,e,_=>by cases e
 | .int _::_,_,_,e,_=>by cases e
 | .str _::_,_,_,e,_=>by cases e
 | .ty _::_,_,_,e,_=>by cases e
 | .tup _::_,_,_,e,_=>by cases e
 | .frl _::_,_,_,e,_=>by cases e
 | .ref _::_,_,_,e,_=>by cases e
 | .fn _::_,_,_,e,_=>by cases e
 | .kd _ _::_,_,_,e,_=>by cases e
 | .exo _ _ _::_,_,_,e,_=>by cases e
def zhL:∀bs:List Bool,boolsP (bs.map PV.bl)=some bs
 | []=>rfl
 | b::bs=>by simp [boolsP,zhL bs]
def zcJ:List PV->Mo PV:=fun vs st=>(zdy vs st).bind fun n st=>yo st n fun xs=>match boolsP xs with
 | some bs=>.ok (.bl (bs.all id)) st
 | none=>.stuck
def zhM (hc:X.calm=true):BltOk X (.builtin "all") zcJ:=⟨_,zmv hc,fun ρ H st xs vs Q E s r h=>by
 obtain ⟨n,ys,rfl,hn,h⟩:=zoz h
 obtain ⟨xs',hn',h⟩:=jJ h
 obtain ⟨v,rfl,rv⟩:=r.one
 obtain ⟨a,rfl,ha⟩:=rv
 obtain ⟨ws,hH,hR⟩:=s.addr hn' ha
 cases hi:boolsP xs' with
 | none=>simp only [hi] at h;exact h.elim
 | some bs =>
  simp only [hi] at h
  have e:=zhK hi hR
  subst e
  exact ⟨a,bs,rfl,SqL.of hH,Out.now (x:=PV.bl (bs.all id)) h s _ rfl⟩⟩
def zhN:bootBuiltins "all" = some (.builtin "all"):=by decide +kernel
def pairOf:PV->Option (PV×PV)
 | .tup [x,y]=>some (x,y)
 | _=>none
def zpg {q:PV}{r:PV×PV}(h:pairOf q=some r):q=.tup [r.1,r.2]:=by
 unfold pairOf at h
 split at h
 ·cases h;rfl
 ·cases h
def zaq (fe:zk->Mo PV) (env:zk):List PV->List PV->Mo PV
 | [],ys,st=>.ok (.ref st.length) (st++[.lst ys])
 | q::xs,ys,st=>match pairOf q with
  | some r=>(noErr (fe (some r.1::some r.2::env) st)).bind fun z st1=>zaq fe env xs (ys++[z]) st1
  | none=>.stuck
def zph {fe:zk->Mo PV}{env:zk}{q:PV}{xs ys:List PV}{st:Sto}{ρ:List Addr}{H:Hp}{good:List Addr->Hp->PV->Sto->Prop}(h:Out K mg ρ H (zaq fe env (q::xs) ys st) good Er):∃x y,q=.tup [x,y]/\Out K mg ρ H ((noErr (fe (some x::some y::env) st)).bind fun z st1=>zaq fe env xs (ys++[z]) st1) good Er:=by
 simp only [zaq] at h
 cases hq:pairOf q with
 | none=>simp only [hq] at h;exact h.elim
 | some r =>
  simp only [hq] at h
  exact ⟨r.1,r.2,zpg hq,h⟩
def imOf:Sq->Option (List PV)
 | .im xs=>some xs
 | .rf _=>none
def zeH (src:zk->Mo Sq) (fe:zk->Mo PV):zk->Mo PV:=fun env st=>(src env st).bind fun q st1=>match imOf q with
 | some xs=>if xs.length<=lim then zaq fe env xs [] st1 else .stuck
 | none=>.stuck
def zpi {elt iter:Expr} {x y:Str} {kt:Nat} {px py tp:Pos} {scope:Scope} {src:zk->Mo Sq} {fe:zk->Mo PV} {N:List Str} (hc:X.calm=true) (S:CompSN X.env.scope scope [x,y]) (eN:X.N=N) (hN0:((".0" : Str)::([x,y]++N)).Nodup)
  (hi:MI X Er (.Tuple [.Name x px,.Name y py] kt tp) iter src) (he:∀cl C af ai fp,ME (cxN X scope cl [x,y] C af ai fp (fun _ _=>False)) XN elt fe)
  (hx:scope.names.lookup x=some .local:=by rfl) (hy:scope.names.lookup y=some .local:=by rfl) (hs:∀v,foldedSetIterable iter X.env v=pure v:=by intro _;rfl) :
  ME X Er (.ListComp elt [⟨.Tuple [.Name x px,.Name y py] kt tp,iter,[],0⟩] scope pos) (zeH src fe):=by
 have hN:([x,y]++X.N).Nodup:=by rw [eN];exact (wt.mp hN0).2
 have pgx:∀cl C af ai fp E,PG (cxN X scope cl [x,y] C af ai fp E) (.Tuple [.Name x px,.Name y py] kt tp) (zfV X.K 2 (zea (zal 0) (zea (zal 1) zfT))):=fun cl C af ai fp E=>zfW (n:=2) hc
  (zdb (za2 (X:=cxN X scope cl [x,y] C af ai fp E) (i:=0) hN rfl (.inl (zai hx)) (.inr (zai hx)))
  (zdb (za2 (X:=cxN X scope cl [x,y] C af ai fp E) (i:=1) hN rfl (.inl (zai hy)) (.inr (zai hy))) zfU))
 exact PE.weak (zgu (te:=tM X.K X.mg XN fe) (tt:=zbP) hc S eN hN0 hi pgx (fun cl C af ai fp=>zgs) (fun cl C af ai fp=>he cl C af ai fp) hs) fun σ H Q ⟨env,st,ρ,re,rs,h⟩=>⟨env,st,ρ,re,rs,h.then fun av H0 q st0 e0 s0 h0 J wk=>by
  cases q with
  | rf n=>exact h0.elim
  | im xs =>
   obtain ⟨hl,h0⟩:=Out.ifp (show Out X.K X.mg av H0 (if xs.length<=lim then zaq fe env xs [] st0 else .stuck) (gV X.K X.mg Q) Er from h0)
   obtain ⟨w1,w2,w3⟩:=wk
   refine ⟨fun i m ys H=>m=xs.length-i/\i<=xs.length/\ys.length=i/\∃ps st ρ,Rs X.K X.mg ρ H ps ys/\StR X.K X.mg ρ H st/\Ext av H0 ρ H/\Out X.K X.mg ρ H (zaq fe env (xs.drop i) ps st) (gV X.K X.mg Q) Er,⟨xs.length,by simp,yR _,rfl,[],st0,av,rfl,s0,Ext.refl,h0⟩,?_⟩
   rintro i m ys H ⟨rfl,hi,hy,ps,st,ρ,rps,rs,ex,h⟩
   by_cases hlt:i<xs.length
   ·refine .inr ⟨w1 i ρ H ex hlt,jt (by omega),fun v H' yy=>?_⟩
    obtain ⟨x,hx,ex2,s2,rx⟩:=w3 i ρ H st v H' ex rs hlt yy
    have hd:xs.drop i=x::xs.drop (i+1):=by
     rw [wc hlt]
     have:=(yI.mp hx).2
     rw [this]
    rw [hd] at h
    obtain ⟨p,q,rfl,h⟩:=zph h
    obtain ⟨a,vs,rfl,h1,h2⟩:=rx
    obtain ⟨u,w,rfl,r1,r2⟩:=Rs.two h2
    refine ⟨a,[u,w],rfl,h1,rfl,u,[w],rfl,w,[],rfl,rfl,[some u,some w],rfl,rfl,?_⟩
    have re2:EnvR X.K X.mg ρ H' (some p::some q::env) (some u::some w::σ):=((re.ext (e0.trans (ex.trans ex2))).cons r2).cons r1
    simp only [zbP,↓reduceIte]
    exact ⟨_,st,ρ,re2,s2,zaQ (Out.ext h ex2) fun aE H4 y st4 e4 s4 h4 v4 r4=>⟨xs.length-(i+1),by omega,rfl,hlt,by simp [hy],ps++[y],st4,aE,Rs.snoc r4 (Rs.ext (ex2.trans e4) ps rps),s4,(ex.trans ex2).trans e4,h4⟩⟩
   ·have e:i=xs.length:=by omega
    subst e
    rw [List.drop_length] at h
    exact .inl ⟨w2 _ ρ H ex (yf _),jt (by omega),fun l hl=>Out.newList h rs rps hl⟩⟩
def zdC:List ((zk->Mo PV)×(zk->Mo PV))->zk->Mo (List PV×List PV)
 | [],_,st=>.ok ([],[]) st
 | q::r,env,st=>(q.1 env st).bind fun k st1=>(q.2 env st1).bind fun x st2=>(zdC r env st2).bind fun z st3=>.ok (k::z.1,x::z.2) st3
inductive MPk (X:Cx) (Er:XK):List (Option Expr)->List Expr->List ((zk->Mo PV)×(zk->Mo PV))->Prop
 | nil:MPk X Er [] [] []
 | cons {k v:Expr} {fk fv:zk->Mo PV} {ks:List (Option Expr)} {vs:List Expr} {fs:List ((zk->Mo PV)×(zk->Mo PV))} (hk:ME X Er k fk) (hv:ME X Er v fv) (hr:MPk X Er ks vs fs):MPk X Er (some k::ks) (v::vs) ((fk,fv)::fs)
def zpj:MPk X Er [] [] []:=.nil
def zpk {k v:Expr}{fk fv:zk->Mo PV}{ks:List (Option Expr)}{vs:List Expr}{fs:List ((zk->Mo PV)×(zk->Mo PV))}(hk:ME X Er k fk) (hv:ME X Er v fv) (hr:MPk X Er ks vs fs):MPk X Er (some k::ks) (v::vs) ((fk,fv)::fs):=.cons hk hv hr
def MPk.pps:∀{ks:List (Option Expr)}{vs:List Expr}{fs:List ((zk->Mo PV)×(zk->Mo PV))},MPk X Er ks vs fs->PPs X pos ks vs (fs.map fun q=>(tM X.K X.mg Er q.1,tM X.K X.mg Er q.2))
 | _,_,_,.nil=>zmJ
 | _,_,_,.cons hk hv hr=>zmK hk hv hr.pps
def MPk.len {ks:List (Option Expr)}{vs:List Expr}{fs:List ((zk->Mo PV)×(zk->Mo PV))}(h:MPk X Er ks vs fs):ks.length=vs.length/\ks.length=fs.length/\ks.all (·.isSome)=true:=by
 induction h with
 | nil=>exact ⟨rfl,rfl,rfl⟩
 | cons hk hv hr ih=>exact ⟨by simp [ih.1],by simp [ih.2.1],by simpa using ih.2.2⟩
def zhO:∀{fs:List ((zk->Mo PV)×(zk->Mo PV))}{env:zk}{st:Sto}{ρ:List Addr}{H:Hp}{σ:L2.St}{Q:List (V×V)->Hp->Prop},EnvR K mg ρ H env σ->StR K mg ρ H st ->
  Out K mg ρ H (zdC fs env st) (fun ah H' q st'=>q.1.length=fs.length->q.2.length=fs.length->∀ks vs,Rs K mg ah H' q.1 ks->Rs K mg ah H' q.2 vs->Q (ks.zip vs) H') Er->zdi (fs.map fun q=>(tM K mg Er q.1,tM K mg Er q.2)) σ H Q
 | [],env,st,ρ,H,σ,Q,re,rs,h=>h.now rs rfl rfl [] [] rfl rfl
 | f::fs,env,st,ρ,H,σ,Q,re,rs,h=>by
  refine ⟨env,st,ρ,re,rs,Out.then h fun ag H1 k st1 e1 s1 h1 v rv=>?_⟩
  refine ⟨env,st1,ag,re.ext e1,s1,Out.then h1 fun au H2 x st2 e2 s2 h2 u ru=>?_⟩
  refine zhO (env:=env) (st:=st2) (ρ:=au) ((re.ext e1).ext e2) s2 (Out.then h2 fun ap H3 z st3 e3 s3 h3 l1 l2 ks vs rk rvs=>?_)
  exact h3.now s3 (by simp [l1]) (by simp [l2]) (v::ks) (u::vs) ⟨v,ks,rfl,R.ext e3 k (R.ext e2 k rv),rk⟩ ⟨u,vs,rfl,R.ext e3 x ru,rvs⟩
def keysP:List PV->Option (List Str)
 | []=>some []
 | .str z::r=>(keysP r).map (z::·)
 | _::_=>none
def zhP {ρ:List Addr}{H:Hp}:∀{xs:List PV}{zs:List Str}{vs:List V},keysP xs=some zs->Rs K mg ρ H xs vs->vs=zs.map V.str
 | [],bs,vs,e,h=>by cases e;cases h;rfl
 | .str i::r,bs,vs,e,h=>by
  simp only [keysP,Option.map_eq_some_iff] at e
  obtain ⟨ir,e1,rfl⟩:=e
  obtain ⟨v,r',rfl,h1,h2⟩:=h
  cases h1
  rw [zhP e1 h2]
  rfl
 | .non::_,_,_,e,_=>by cases e
 | .int _::_,_,_,e,_=>by cases e
 | .bl _::_,_,_,e,_=>by cases e
 | .ty _::_,_,_,e,_=>by cases e
 | .tup _::_,_,_,e,_=>by cases e
 | .frl _::_,_,_,e,_=>by cases e
 | .ref _::_,_,_,e,_=>by cases e
 | .fn _::_,_,_,e,_=>by cases e
 | .kd _ _::_,_,_,e,_=>by cases e
 | .exo _ _ _::_,_,_,e,_=>by cases e
def zcK (fs:List ((zk->Mo PV)×(zk->Mo PV))):zk->Mo PV:=fun env st=>(zdC fs env (st++[.dic [] []])).bind fun q st1=>match keysP q.1 with
 | some zs=>if isEmp st1[st.length]?=true then .ok (.ref st.length) (st1.set st.length (.dic (zb0 (zs.zip q.2) [] []).1 (zb0 (zs.zip q.2) [] []).2)) else .stuck
 | none=>.stuck
def zpl {keys:List (Option Expr)}{values:List Expr}{fs:List ((zk->Mo PV)×(zk->Mo PV))}(h:MPk X Er keys values fs) (h0:keys≠[]) (h15:keys.length<=15):ME X Er (.Dict keys values pos) (zcK fs):=by
 obtain ⟨l1,l2,l4⟩:=h.len
 exact PE.weak (zmM h.pps l4 l1 h0 h15) fun σ H Q ⟨env,st,ρ,re,rs,ho⟩=>fun p hp=>by
  have e0:Ext ρ H (ρ++[p]) (upd H p (.dK [])):=Ext.push hp
  have s0:StR X.K X.mg (ρ++[p]) (upd H p (.dK [])) (st++[.dic [] []]):=rs.push hp ⟨[],jA,rfl,rfl⟩
  have hp0:(ρ++[p])[st.length]?=some p:=by rw [<-rs.len];simp
  refine zhO (re.ext e0) s0 (Out.then (Out.ext ho e0) fun ag H1 q st1 e1 s1 h1 lk lv us vs ru rv=>?_)
  cases hk:keysP q.1 with
  | none=>simp only [hk] at h1;exact h1.elim
  | some zs =>
   simp only [hk] at h1
   have eu:=zhP hk ru
   subst eu
   obtain ⟨c,h1⟩:=Out.ifp h1
   have hd:=zoJ c
   have hp1:=e1.get hp0
   obtain ⟨ws,k1,k2,k3⟩:=s1.addr hd hp1
   have ew:ws=[]:=by cases ws with|nil=>rfl|cons=>simp at k3
   subst ew
   have lz:zs.length=fs.length:=by have:=ru.len;simpa [lk] using this.symm
   refine ⟨k1,(zs.map Sum.inr:List Key).zip vs,zhs,by rw [List.length_zip,jq];omega,?_⟩
   have eq:Ext ag H1 ag (upd H1 p (.dK (mergeK [] ((zs.map Sum.inr:List Key).zip vs)))):=Ext.write k1 rfl
   obtain ⟨us,q1,q2,q3⟩:=zhn (K:=X.K) (mg:=X.mg) (zs:=zs) (ks:=[]) (xs:=[]) (vs:=[]) rv rfl rfl
   exact h1 ag _ eq (s1.write hp1 eq ⟨us,by rw [jA];exact congrArg (fun t=>some (HO.dK t)) q1,Rs.ext eq _ q2,q3⟩) _ ⟨p,rfl,hp1⟩
def zpm {z:Str}{ks:List Str}{xs:List PV}{vs:List V}(hl:xs.length=vs.length) (hk:ks.length=vs.length) (h:(ks.zip xs).lookup z=none):(ks.zip vs).lookup z=none:=by
 refine zes fun hz=>?_
 obtain ⟨i,hi⟩:=List.getElem?_of_mem hz
 have hl':i<xs.length:=by rw [hl,<-hk];exact (yI.mp hi).1
 have:=List.lookup_eq_none_iff.mp h (z,xs[i]) (List.mem_iff_getElem?.mpr ⟨i,by simp [List.getElem?_zip_eq_some,hi,hl']⟩)
 simp at this
end
section
variable {K:Frag}{mg:Str->Option Value}{h:Heap}
end
section
variable {X:Cx}{Er:XK}{K:Frag}{mg:Str->Option Value}
def call_len_dict:CallR X (.builtin "len") (fun xs H Q=>∃p kvs,xs=[.ref p]/\H p=some (.dK kvs)/\Q (.int kvs.length) H):=by
 intro pins s σ H xs us Q I r h
 obtain ⟨p,kvs,rfl,hp,q⟩:=h
 obtain ⟨u,rfl,rx⟩:=w6 r
 cases rx
 exact zmD I (.inl hp) fun t s' I'=>⟨.int kvs.length,H,I',⟨t,rfl⟩,q⟩
def yE:List PV->Mo PV:=fun xs st=>match xs with
 | [.ref n]=>match st[n]? with
  | some (.dic ks _)=>.ok (.int ks.length) st
  | _=>zds xs st
 | _=>zds xs st
def jN:BltOk X (.builtin "len") yE:=by
 obtain ⟨r,h1,h2⟩:=znA (X:=X)
 refine ⟨_,h1.or call_len_dict,fun ρ H st xs vs Q E s rx h=>?_⟩
 by_cases hx:∃n ks ys,xs=[.ref n]/\st[n]?=some (.dic ks ys)
 ·obtain ⟨n,ks,ys,rfl,e⟩:=hx
  have h:Out X.K X.mg ρ H (.ok (.int ks.length) st) (gV X.K X.mg Q) E:=by
   simpa only [yE,e] using h
  obtain ⟨v,rfl,rv⟩:=Rs.one rx
  obtain ⟨a,ws,rfl,_,k1,k2,k3⟩:=R.refD s rv e
  refine .inr ⟨a,_,rfl,k1,?_⟩
  have hl:(kz ks ws).length=ks.length:=by simp [kz,k3]
  rw [hl]
  exact Out.now (x:=PV.int ks.length) h s _ rfl
 ·refine .inl (h2 ρ H st xs vs Q E s rx ?_)
  have:yE xs st=zds xs st:=by
   unfold yE
   split
   ·rename_i n
    split
    ·rename_i ks ys e;exact absurd ⟨n,ks,ys,rfl,e⟩ hx
    ·rfl
   ·rfl
  rw [this] at h
  exact h
end
section
variable {α:Type}{env:zk}{st:Sto}{fa fb fo fk fx:zk->Mo PV}{fs:zk->Mo (List PV)}{g:zk->Mo Fl}
def zhQ {n:Nat}{ks:List Str}{xs:List PV}(h:st[n]?=some (.dic ks xs)) (k:List Str->List PV->Res α):wj st n k=k ks xs:=by unfold wj;rw [h]
def zpn {n:Nat}{xs:List PV}(h:st[n]?=some (.lst xs)):zdy [.ref n] st=.ok n st:=by
 show yo st n _=_
 rw [yb h]
def zhR {n:Nat}{bs:List Bool}(h:st[n]?=some (.lst (bs.map PV.bl))):zcJ [.ref n] st=.ok (.bl (bs.all id)) st:=by
 unfold zcJ
 rw [zpn h]
 simp only [zP]
 rw [yb h,zhL]
def zhS {n:Nat}{ks:List Str}{xs:List PV}(h:st[n]?=some (.dic ks xs)):yE [.ref n] st=.ok (.int ks.length) st:=by
 simp only [yE,h]
def j9 {n:Nat}{xs:List PV}(h:st[n]?=some (.lst xs)):yE [.ref n] st=.ok (.int xs.length) st:=by
 simp only [yE,h]
 show yo st n _=_
 rw [yb h]
@[simp] def zeI (xs:List PV):yE [.tup xs] st=.ok (.int xs.length) st:=(rfl)
@[simp] def zpo:zeG fo fa env st=(fo env st).bind fun v st1=>zcI v st1 fun n ks xs=>(noErr (compK fa env (ks.map PV.str) [] (st1.set n (.fdi ks xs)))).bind fun ys st2=>thawM n (st2++[.lst ys]) fun st3=>.ok (.ref st2.length) st3:=(rfl)
@[simp] def zpp (src:zk->Mo Sq):zeH src fa env st=(src env st).bind fun q st1=>match imOf q with|some xs=>if xs.length<=lim then zaq fa env xs [] st1 else .stuck|none=>.stuck:=(rfl)
end
end Mi
namespace L2
open PySem PySem.Spec PyProof.Rows PySem.W
section
variable {X:Cx}
end
end L2
namespace Mi
open PySem L2 PySem.W PySem.Spec
section
variable {X:Cx}{Er:XK}{pos:Pos}{K:Frag}{mg:Str->Option Value}{fs:zk->Mo (List PV)}
end
end Mi
namespace PySem
open Sem (wp)
section
variable {prog:Program}{w:World}{A:Around}{s:Shared}{R:Result->Shared->Prop}
variable {I:Addr}{fp wr:List Addr}{G:Array GenState->Array GenState->Prop}{n:Nat}{P:Nat->Value->Prop}{St:Nat->Shared->Prop}
end
section
variable {prog:Program}{w:World}{A:Around}{s:Shared}{R:Result->Shared->Prop}
variable {I:Addr}{fp wr:List Addr}{G:Array GenState->Array GenState->Prop}{n:Nat}{P:Nat->Value->Prop}{St:Nat->Shared->Prop}
end
section
variable {prog:Program}{w:World}{A:Around}{E:Value->Shared->Prop}{s:Shared}
variable {I:Addr}{fp wr:List Addr}{G:Array GenState->Array GenState->Prop}{n:Nat}{P:Nat->Value->Prop}{St:Nat->Shared->Prop}
end
end PySem
namespace L2
open PySem PySem.Spec PyProof.Rows PySem.W
section
variable {X:Cx}
end
end L2
namespace Mi
open PySem L2 PySem.W PySem.Spec
section
variable {X:Cx}{Er:XK}{pos:Pos}{K:Frag}{mg:Str->Option Value}{fs:zk->Mo (List PV)}
end
section
variable {X:Cx}{Er:XK}{pos pos':Pos}{o i value:Expr}{fo fi fv:zk->Mo PV}
def lPutAt (z x:PV):PV->Mo Unit
 | .ref n,st=>match z with
  | .int (.ofNat k)=>yo st n fun xs=>if k<xs.length then .ok () (st.set n (.lst (xs.set k x))) else .stuck
  | _=>.stuck
 | _,_=>.stuck
def zcL (fo fi fv:zk->Mo PV):zk->Mo Fl:=fun env st=>(fv env st).bind fun x st1=>(fo env st1).bind fun o st2=>(fi env st2).bind fun z st3=>(lPutAt z x o st3).bind fun _ st4=>.ok (.nx env) st4
def Rs.put {K:Frag}{mg:Str->Option Value}{ρ:List Addr}{H:Hp}{x:PV}{v:V}(r:R K mg ρ H x v):∀{xs:List PV}{vs:List V}(k:Nat),Rs K mg ρ H xs vs->Rs K mg ρ H (xs.set k x) (vs.set k v)
 | [],_,k,h=>by cases h;cases k<;>rfl
 | y::ys,_,0,h=>by
  obtain ⟨w,q,rfl,h1,h2⟩:=h
  exact ⟨v,q,rfl,r,h2⟩
 | y::ys,_,k+1,h=>by
  obtain ⟨w,q,rfl,h1,h2⟩:=h
  exact ⟨w,_,rfl,h1,Rs.put r k h2⟩
def zhT (ho:ME X Er o fo) (hi:ME X Er i fi) (hv:ME X Er value fv)
  (ha:∀v,assign (.Subscript o i pos') X.env v=(do
   let ov <-holding [v] (eval o X.env)
   let iv <-holding [v,ov] (eval i X.env)
   standAt pos'
   holding [v,ov,iv] (setItem ov iv v)
   release [v,ov,iv] []):=by intro _;rfl)
  (hs:swapsWithSole [.Subscript o i pos'] value pos.line X.env=pure false:=by rfl) (hw:swappedStores [.Subscript o i pos'] value X.env=pure none:=by rfl)
  (h1:(assignEach [.Subscript o i pos'] X.env).map (·.2)=[assign (.Subscript o i pos') X.env]:=by rfl):MS X Er (.Assign [.Subscript o i pos'] value pos) (zcL fo fi fv) :=
 PS.weak (zfY hv (zkP ho hi zl0 ha) hs hw h1) fun D σ H ⟨env,st,ρ,re,rs,h⟩=>⟨env,st,ρ,re,rs,h.then fun ag H1 x st1 e1 s1 h1 v rv=>⟨env,st1,ag,re.ext e1,s1,h1.then fun au H2 y st2 e2 s2 h2 w rw=>⟨env,st2,au,(re.ext e1).ext e2,s2,h2.then fun ap H3 zz st3 e3 s3 h3 u ru=>by
  cases y with
  | ref n =>
   cases zz with
   | int z =>
    cases z with
    | ofNat k =>
     cases hn:st3[n]? with
     | none=>simp only [lPutAt,yo,hn] at h3;exact h3.elim
     | some so =>
      cases so with
      | dic _ _=>simp only [lPutAt,yo,hn] at h3;exact h3.elim
      | ins _ _ _=>simp only [lPutAt,yo,hn] at h3;exact h3.elim
      | fdi _ _=>simp only [lPutAt,yo,hn] at h3;exact h3.elim
      | lst xs =>
       simp only [lPutAt,yo,hn] at h3
       by_cases hc:k<xs.length
       ·rw [zH hc] at h3
        obtain ⟨a,vs,e4,ha,k1,k2⟩:=R.refL s3 (R.ext e3 _ rw) hn
        subst e4
        cases ru
        have hlv:vs.length=xs.length:=k2.len.symm
        have ew:Ext ap H3 ap (upd H3 a (.lst (vs.set k v))):=Ext.write k1 rfl
        have hix:ixN vs.length (Int.ofNat k)=some k:=by
         unfold ixN
         rw [zH (by show (0:Int)<=((k:Nat):Int);omega),zH (by rw [hlv];show ((k:Nat):Int)<xs.length;omega)]
         rfl
        refine ⟨a,vs,_,k,rfl,rfl,k1,hix,h3 ap _ ew (s3.write ha ew ⟨vs.set k v,jA,Rs.ext ew _ (Rs.put (R.ext e3 x (R.ext e2 x rv)) k k2)⟩) σ ((((re.ext e1).ext e2).ext e3).ext ew)⟩
       ·rw [zX hc] at h3;exact h3.elim
    | negSucc k=>exact h3.elim
   | _=>exact h3.elim
  | _=>exact h3.elim⟩⟩⟩
def lput_at {n k:Nat}{st:Sto}{xs:List PV}(h:st[n]?=some (.lst xs)) (hk:k<xs.length) (x:PV):lPutAt (.int k) x (.ref n) st=.ok () (st.set n (.lst (xs.set k x))):=by
 show yo st n _=_
 rw [yb h,zH hk]
end
section
variable {X:Cx}
end
end Mi
namespace L2
open PySem PySem.Spec PyProof.Rows PySem.W
section
variable {prog:Program}{w:World}{A:Around}{E:Value->Shared->Prop}{s:Shared}
end
section
variable {X:Cx}{pos:Pos}
end
end L2
namespace Mi
open PySem L2 PySem.W PySem.Spec
section
variable {X:Cx}{Er:XK}{pos:Pos}{e:Expr}{fa:zk->Mo PV}
def pick2 (i j:Nat) (env:zk):PV->Mo Fl
 | .ref n,st=>yo st n fun xs=>match xs with
  | [x,y]=>.ok (.nx ((env.set i (some x)).set j (some y))) st
  | _=>.stuck
 | _,_=>.stuck
end
end Mi
namespace L2
open PySem PySem.Spec PyProof.Rows PySem.W
section
variable {prog:Program}{w:World}{A:Around}{E:Value->Shared->Prop}{s:Shared}
end
end L2
namespace Mi
open PySem L2 PySem.W PySem.Spec
section
variable {X:Cx}{Er:XK}{pos:Pos}{sts:List Stmt}{gb:zk->Mo Fl}{fs:zk->Mo (List PV)}
end
end Mi
namespace L2
open PySem PySem.Spec PyProof.Rows PySem.W
section
variable {prog:Program}{w:World}{A:Around}{E:Value->Shared->Prop}{s:Shared}
end
end L2
namespace Mi
open PySem L2 PySem.W PySem.Spec
section
variable {X:Cx}
end
end Mi
namespace L2
open PySem PySem.Spec PyProof.Rows PySem.W
end L2
namespace Mi
open PySem L2 PySem.W PySem.Spec
section
variable {X:Cx}{Er:XK}{pos:Pos}
def compLI (ft:zk->Mo Bool) (fe:zk->Mo PV) (env:zk):List PV->List PV->Mo PV
 | [],ys,st=>.ok (.ref st.length) (st++[.lst ys])
 | x::xs,ys,st=>(noErr (ft (some x::env) st)).bind fun b st1=>if b=true then (noErr (fe (some x::env) st1)).bind fun y st2=>compLI ft fe env xs (ys++[y]) st2 else compLI ft fe env xs ys st1
def compRI (ft:zk->Mo Bool) (fe:zk->Mo PV) (env:zk) (n:Nat):Nat->Nat->List PV->Mo PV
 | 0,_,_,_=>.stuck
 | m+1,i,ys,st=>yo st n fun xs=>match xs[i]? with
  | none=>.ok (.ref st.length) (st++[.lst ys])
  | some x=>(noErr (ft (some x::env) st)).bind fun b st1=>if b=true then (noErr (fe (some x::env) st1)).bind fun y st2=>compRI ft fe env n m (i+1) (ys++[y]) st2 else compRI ft fe env n m (i+1) ys st1
def compSI (ft:zk->Mo Bool) (fe:zk->Mo PV) (env:zk):Sq->Mo PV
 | .im xs,st=>if xs.length<=lim then compLI ft fe env xs [] st else .stuck
 | .rf n,st=>compRI ft fe env n (lim+1) 0 [] st
def wR (src:zk->Mo Sq) (ft:zk->Mo Bool) (fe:zk->Mo PV):zk->Mo PV:=fun env st=>(src env st).bind fun q st1=>compSI ft fe env q st1
def zpq {src:zk->Mo Sq}{ft:zk->Mo Bool}{fe:zk->Mo PV}(σ:L2.St) (H:Hp) (Q:VK) (hh:tM X.K X.mg Er (wR src ft fe) σ H Q):zeh (tMI X Er src) (zal 0) (tMB X.K X.mg XN ft) (tM X.K X.mg XN fe) 1 σ H Q:=by
 obtain ⟨env,st,ρ,re,rs,h⟩:=hh
 refine ⟨env,st,ρ,re,rs,h.then fun av H0 q st0 e0 s0 h0 J wk=>?_⟩
 cases q with
 | im xs =>
  obtain ⟨hl,h0⟩:=Out.ifp h0
  obtain ⟨w1,w2,w3⟩:=wk
  refine ⟨fun i m ys H=>m=xs.length-i/\i<=xs.length/\ys.length<=i/\∃ps st ρ,Rs X.K X.mg ρ H ps ys/\StR X.K X.mg ρ H st/\Ext av H0 ρ H/\Out X.K X.mg ρ H (compLI ft fe env (xs.drop i) ps st) (gV X.K X.mg Q) Er,⟨xs.length,by simp,yR _,yR _,[],st0,av,rfl,s0,Ext.refl,h0⟩,?_⟩
  rintro i m ys H ⟨rfl,hi,hy,ps,st,ρ,rps,rs,ex,h⟩
  by_cases hlt:i<xs.length
  ·refine .inr ⟨w1 i ρ H ex hlt,jt (by omega),fun v H' y=>?_⟩
   obtain ⟨x,hx,ex2,s2,rx⟩:=w3 i ρ H st v H' ex rs hlt y
   have hd:xs.drop i=x::xs.drop (i+1):=by
    rw [wc hlt]
    have:=(yI.mp hx).2
    rw [this]
   rw [hd] at h
   simp only [compLI] at h
   have re2:EnvR X.K X.mg ρ H' (some x::env) (some v::σ):=(re.ext (e0.trans (ex.trans ex2))).cons rx
   refine ⟨[some v],rfl,rfl,some x::env,st,ρ,re2,s2,zaQ (Out.ext h ex2) fun ap H3 b st3 e3 s3 h3=>?_⟩
   cases b with
   | true=>exact ⟨_,st3,ap,re2.ext e3,s3,zaQ h3 fun aE H4 y st4 e4 s4 h4 v4 r4=>⟨xs.length-(i+1),by omega,rfl,hlt,by simp;omega,ps++[y],st4,aE,Rs.snoc r4 (Rs.ext ((ex2.trans e3).trans e4) ps rps),s4,((ex.trans ex2).trans e3).trans e4,h4⟩⟩
   | false=>exact ⟨xs.length-(i+1),by omega,rfl,hlt,by omega,ps,st3,ap,Rs.ext (ex2.trans e3) ps rps,s3,(ex.trans ex2).trans e3,h3⟩
  ·have e:i=xs.length:=by omega
   subst e
   rw [List.drop_length] at h
   exact .inl ⟨w2 _ ρ H ex (yf _),jt (by omega),fun l hl=>Out.newList h rs rps hl⟩
 | rf n =>
  obtain ⟨a,ha,rfl⟩:=wk
  refine ⟨fun i m ys H=>m+i=lim+1/\ys.length<=i/\∃ps st ρ,Rs X.K X.mg ρ H ps ys/\StR X.K X.mg ρ H st/\Ext av H0 ρ H/\ρ[n]?=some a/\Out X.K X.mg ρ H (compRI ft fe env n m i ps st) (gV X.K X.mg Q) Er,⟨lim+1,rfl,yR _,[],st0,av,rfl,s0,Ext.refl,ha,h0⟩,?_⟩
  rintro i m ys H ⟨hm,hy,ps,st,ρ,rps,rs,ex,ha,h⟩
  cases m with
  | zero=>exact h.elim
  | succ m =>
   obtain ⟨xs,hn,h⟩:=jJ h
   obtain ⟨vs,hH,hR⟩:=rs.addr hn ha
   cases hx:xs[i]? with
   | none =>
    simp only [hx] at h
    have:vs.length<=i:=by rw [<-hR.len];exact zbo.mp hx
    exact .inl ⟨⟨vs,SqL.of hH,this⟩,jt (by omega),fun l hl=>Out.newList h rs rps hl⟩
   | some x =>
    simp only [hx] at h
    obtain ⟨v,hv,rv⟩:=hR.get hx
    refine .inr ⟨⟨vs,v,SqL.of hH,hv⟩,jt (by omega),fun v' H' y=>?_⟩
    obtain ⟨e1,y⟩:=y
    subst e1
    have e2:=y vs (SqL.of hH)
    rw [hv] at e2
    cases e2
    have re2:EnvR X.K X.mg ρ H' (some x::env) (some v::σ):=(re.ext (e0.trans ex)).cons rv
    refine ⟨[some v],rfl,rfl,some x::env,st,ρ,re2,rs,zaQ h fun ap H3 b st3 e3 s3 h3=>?_⟩
    cases b with
    | true=>exact ⟨_,st3,ap,re2.ext e3,s3,zaQ h3 fun aE H4 y st4 e4 s4 h4 v4 r4=>⟨m,za1 m,by omega,by simp;omega,ps++[y],st4,aE,Rs.snoc r4 (Rs.ext (e3.trans e4) ps rps),s4,(ex.trans e3).trans e4,e4.get (e3.get ha),h4⟩⟩
    | false=>exact ⟨m,za1 m,by omega,by omega,ps,st3,ap,Rs.ext e3 ps rps,s3,ex.trans e3,e3.get ha,h3⟩
def zdD {elt iter c:Expr} {x:Str} {px:Pos} {scope:Scope} {src:zk->Mo Sq} {ft:zk->Mo Bool} {fe:zk->Mo PV} {N:List Str} (hc:X.calm=true) (S:CompSN X.env.scope scope [x]) (eN:X.N=N) (hN0:((".0" : Str)::([x]++N)).Nodup)
  (hi:MI X Er (.Name x px) iter src) (hif:∀cl C af ai fp,MT (cxN X scope cl [x] C af ai fp (fun _ _=>False)) XN c ft) (he:∀cl C af ai fp,ME (cxN X scope cl [x] C af ai fp (fun _ _=>False)) XN elt fe)
  (hx:scope.names.lookup x=some .local:=by rfl) (hs:∀v,foldedSetIterable iter X.env v=pure v:=by intro _;rfl):ME X Er (.ListComp elt [⟨.Name x px,iter,[c],0⟩] scope pos) (wR src ft fe):=by
 have hN:([x]++X.N).Nodup:=by rw [eN];exact (wt.mp hN0).2
 have pgx:∀cl C af ai fp E,PG (cxN X scope cl [x] C af ai fp E) (.Name x px) (zal 0):=fun cl C af ai fp E=>za2 (X:=cxN X scope cl [x] C af ai fp E) (i:=0) hN rfl (.inl (zai hx)) (.inr (zai hx))
 exact PE.weak (zgu (te:=tM X.K X.mg XN fe) (tt:=tMB X.K X.mg XN ft) hc S eN hN0 hi pgx (fun cl C af ai fp=>zmr (hif cl C af ai fp)) (fun cl C af ai fp=>he cl C af ai fp) hs) fun σ H Q hh=>zpq σ H Q hh
@[simp] def zdE {src:zk->Mo Sq}{ft:zk->Mo Bool}{fe:zk->Mo PV}(env:zk) (st:Sto):wR src ft fe env st=(src env st).bind fun q st1=>compSI ft fe env q st1:=(rfl)
end
section
variable {K:Frag}{h:Heap}{mg:Str->Option Value}{od:Option Addr}{f:Addr}
end
section
variable {X:Cx}{Er:XK}{pos:Pos}
end
section
variable {X:Cx}{Er:XK}{pos:Pos}
end
section
variable {X:Cx}{Er:XK}{pos pos':Pos}{o i value:Expr}{fo fi fv:zk->Mo PV}
end
end Mi
namespace L2
open PySem PySem.Spec PyProof.Rows PySem.W
section
variable {X:Cx}
end
end L2
namespace Mi
open PySem L2 PySem.W PySem.Spec
section
variable {X:Cx}{Er:XK}
def zpr {K:Frag}{mg:Str->Option Value}{ρ:List Addr}{H:Hp}:∀{xs:List PV}{zs:List Str}{vs:List V},strsOf xs=some zs->Rs K mg ρ H xs vs->vs=zs.map V.str:=fun {xs zs vs} h r=>by
 have:=zhm h r
 rw [this]
 simp [kV,List.map_map,Function.comp_def]
end
section
variable {X:Cx}{K:Frag}{mg:Str->Option Value}
def zar (neg:Bool):PV->PV->Mo PV:=fun x y st=>match y with
 | .ref n=>match st[n]? with
  | some (.fdi ks xs)=>match x with
   | .str z=>.ok (.bl (neg.xor ((ks.zip xs).lookup z).isSome)) st
   | _=>.stuck
  | _=>j8 neg x y st
 | _=>j8 neg x y st
def zps {neg:Bool}:OpM K mg (zex K mg neg) (zar neg):=by
 intro ρ H st x y v w Q E s rx ry h
 by_cases hy:∃n ks xs,y=.ref n/\st[n]?=some (.fdi ks xs)
 ·obtain ⟨n,ks,xs,rfl,e⟩:=hy
  simp only [zar,e] at h
  cases x with
  | str z =>
   obtain ⟨a,rfl,ha⟩:=ry
   obtain ⟨ob,vs,k1,k2,k3⟩:=s.addr e ha
   cases rx
   refine .inr (.inl ⟨a,(ks.zip vs).lookup z,rfl,.inl ⟨_,Sum.inr z,.inr ⟨ob,k1⟩,rfl,zcC.symm⟩,?_⟩)
   have e:((ks.zip vs).lookup z).isSome=((ks.zip xs).lookup z).isSome:=by
    cases hq:(ks.zip xs).lookup z with
    | some q=>obtain ⟨v,hv,_⟩:=zbV k2 hq;rw [hv];rfl
    | none=>exact congrArg Option.isSome (zpm k2.len k3 hq)
   rw [e]
   exact Out.now (x:=PV.bl _) h s _ rfl
  | _=>exact h.elim
 ·refine zhj ρ H st x y v w Q E s rx ry ?_
  have:zar neg x y st=j8 neg x y st:=by
   unfold zar
   split
   ·rename_i n
    split
    ·rename_i ks xs e;exact absurd ⟨n,ks,xs,rfl,e⟩ hy
    ·rfl
   ·rfl
  rw [this] at h
  exact h
def zpt (hu:X.A.units+200<cLine):CmpOk X .In (zar false):=⟨_,zhi hu,zps⟩
end
end Mi
namespace Mi
open PySem L2 PySem.W
section
variable {α:Type}{g g':zk->Mo Fl}{f fa fb fc:zk->Mo PV}{fs:zk->Mo (List PV)}{t ta tb:zk->Mo Bool}{e e1:zk}{st s1 s2 s3:Sto}{x y v:PV}{xs:List PV}{b:Bool}
def zq {X:Res Fl}(h:g e st=.ok (.nx e1) s1) (h':g' e1 s1=X):zu g g' e st=X:=by rw [zg4,h,zP,zof,h']
def yK (h:g e st=.ok (.rt v) s1):zu g g' e st=.ok (.rt v) s1:=by rw [zg4,h,zP,zog]
def zG {i:Nat}(h:f e st=.ok v s1):zC i f e st=.ok (.nx (e.set i (some v))) s1:=by rw [zoh,h,zP]
def jU (h:f e st=.ok v s1):yH f e st=.ok (.nx e) s1:=by rw [zoi,h,zP]
def zW (h:f e st=.ok v s1):zS f e st=.ok (.rt v) s1:=by rw [zoj,h,zP]
def yx {X:Res Fl}(h:t e st=.ok true s1) (h':g e s1=X):yd t g g' e st=X:=by rw [zg5,h,zP,zH rfl,h']
def zpu {X:Res Fl}(h:t e st=.ok false s1) (h':g' e s1=X):yd t g g' e st=X:=by rw [zg5,h,zP,zX (by simp),h']
def zQ (h:t e st=.ok false s1):yd t g yg e st=.ok (.nx e) s1:=zpu h (zoe ..)
def ze {i:Nat}(h:e[i]?=some (some v)):zd i e st=.ok v st:=by rw [znZ,h]
def zm {op:PV->PV->Mo PV}{X:Res PV}(h:fa e st=.ok x s1) (h':fb e s1=.ok y s2) (h2:op x y s2=X):zj op fa fb e st=X:=by rw [zn0,h,zP,h',zP,h2]
def zaa {op:PV->Mo PV}{X:Res PV}(h:fa e st=.ok x s1) (h2:op x s1=X):ju op fa e st=X:=by rw [zn1,h,zP,h2]
def zt {m:List PV->Mo PV}{X:Res PV}(h:fs e st=.ok xs s1) (h2:m xs s1=X):zp m fs e st=X:=by rw [zob,h,zP,h2]
def y9 (h:f e st=.ok x s1) (h':fs e s1=.ok xs s2):zc f fs e st=.ok (x::xs) s2:=by rw [zn5,h,zP,h',zP]
def jD:zh e st=.ok [] st:=(rfl)
def zB (h:f e st=.ok x s1):zc f zh e st=.ok [x] s1:=y9 h jD
def zy (h:f e st=.ok x s1) (h':fa e s1=.ok y s2):zc f (zc fa zh) e st=.ok [x,y] s2:=y9 h (zB h')
def zK (h:fs e st=.ok xs s1) (hl:xs.length<=1000000):zA fs e st=.ok (.tup xs) s1:=by rw [zn6,h,zP,zH hl]
def jp (h:fs e st=.ok xs s1) (hl:xs.length<=1000000):y8 fs e st=.ok (.ref s1.length) (s1++[.lst xs]):=by rw [zn7,h,zP,zH hl]
def zE (h:f e st=.ok (.bl b) s1):mB f e st=.ok b s1:=by rw [zn2,h,zP,zg1]
def zcM (h:ta e st=.ok false s1):w8 ta tb e st=.ok false s1:=by rw [zg2,h,zP,zX (by simp)]
def zas (h:ta e st=.ok true s1) (h':tb e s1=.ok b s2):w8 ta tb e st=.ok b s2:=by rw [zg2,h,zP,zH rfl,h']
def zcN (h:ta e st=.ok true s1):j1 ta tb e st=.ok true s1:=by rw [zg3,h,zP,zH rfl]
def jO (h:ta e st=.ok false s1) (h':tb e s1=.ok b s2):j1 ta tb e st=.ok b s2:=by rw [zg3,h,zP,zX (by simp),h']
def zbb (h:ta e st=.ok b s1):wg ta e st=.ok (!b) s1:=by rw [zn3,h,zP]
def zeJ {X:Res PV}(h:fa e st=.ok (.bl true) s1) (h':fb e s1=X):zam fa fb e st=X:=by rw [zn4,h,zP,zg1,zP,zH rfl,h']
def zb5 {lo hi:Option Int}{fl fu:zk->Mo (Option Int)}{X:Res PV}(h:fa e st=.ok x s1) (hl:fl e s1=.ok lo s2) (hu:fu e s2=.ok hi s3) (h':oSl x lo hi s3=X):wP fa fl fu e st=X:=by rw [zn8,h,zP,hl,zP,hu,zP,h']
def zbc {i:Int}(h:f e st=.ok (.int i) s1):pSome f e st=.ok (some i) s1:=by rw [zn9,h,zP,zoa]
def zb6:pNone e st=.ok none st:=(rfl)
def jV {op:PV->PV->Mo PV}{n:Nat}{ys:List PV}{X:Res PV}(h:fa e st=.ok (.ref n) s1) (hl:s1[n]?=some (.lst ys)) (h':fb e s1=.ok y s2) (h2:op (.ref n) y s2=X):yC op fa fb e st=X:=by
 rw [zon,h,zP,zoo]
 simp only [yo,hl,zP]
 rw [h',zP,h2]
def zat (i j:Int):zZ (.int i) (.int j) st=.ok (.int (i+j)) st:=(rfl)
def wz (i j:Int):jd (.int i) (.int j) st=.ok (.int (i-j)) st:=(rfl)
def zbd (i j:Int) (h:j≠0):yt (.int i) (.int j) st=.ok (.int (jK i j)) st:=by show (if _ then _ else _)=_;rw [zH (by simpa using h)]
def zeK (i j:Int) (h:j≠0) (h2:j.natAbs<2 ^ 200):jb (.int i) (.int j) st=.ok (.int (wG i j)) st:=by
 show (if _ then _ else _)=_
 rw [zH]
 simp only [cDv,we,za0]
 exact ⟨h,h2⟩
def zpv (i j:Int):oLt (.int i) (.int j) st=.ok (.bl (decide (i<j))) st:=(rfl)
def zhU (i j:Int):j5 (.int i) (.int j) st=.ok (.bl (decide (j<i))) st:=(rfl)
def zdF (i j:Int):ye (.int i) (.int j) st=.ok (.bl (decide (i=j))) st:=by simp [Mi.plain,dep,eqP];rfl
def zhV (i j:Int):oNe (.int i) (.int j) st=.ok (.bl (!decide (i=j))) st:=by simp [Mi.plain,dep,eqP];rfl
def zhW (i j:Str):ye (.str i) (.str j) st=.ok (.bl (decide (i=j))) st:=by simp [Mi.plain,dep,eqP];rfl
def zaS (i j:Int) (h:cMul i j=true):yD (.int i) (.int j) st=.ok (.int (i*j)) st:=by rw [zoF,zH h]
def ya {m:Nat}{n:Nat}{r:Sto}(hl:xs.length=m) (h:g (xs.map some++List.replicate (n-m) none) st=.ok (.rt v) r):yr m n g xs st=.ok v r:=by
 unfold yr
 rw [zH hl,h,zP,zok]
end
end Mi
namespace Mi
open PySem L2 PySem.W PySem.Spec
def nst:Expr->Bool
 | .Starred _ _=>false
 | _=>true
def zpw {e:Expr}{es:List Expr}{env:Env}(h:nst e=true):St1 e es env:=by cases e<;>first|rfl|cases h
def zf {X:Cx}{Er:XK}{e:Expr}{es:List Expr}{fa:zk->Mo PV}{fs:zk->Mo (List PV)}(ha:ME X Er e fa) (hr:MA X Er es fs) (hs:nst e=true:=by rfl):MA X Er (e::es) (zc fa fs):=zgM ha hr (zpw hs)
section
variable {X:Cx}{K:Frag}{mg:Str->Option Value}{Er:XK}{e o:Expr}{pos apos cpos:Pos}{fo fa:zk->Mo PV}{x:Str}{h:Heap}
def zpx:PV->PV->Mo PV
 | .str z,.ref n,st=>yo st n fun xs=>match strsOf xs with
  | some ys=>if (ys.map (·.length)).sum+ys.length*z.length<=1000000 then .ok (.str (Txt.join z ys)) st else .stuck
  | none=>.stuck
 | _,_,_=>.stuck
def zdG (fo fa:zk->Mo PV):zk->Mo PV:=fun env st=>(fo env st).bind fun o st1=>match o with
 | .str z=>(fa env st1).bind fun y st2=>zpx (.str z) y st2
 | _=>.stuck
def zhX (ho:ME X Er o fo) (he:ME X Er e fa) (hbase:attributeBase o "join" X.env (eval o X.env)=eval o X.env:=by rfl)
  (hfew:((backTo cpos (starEach [e] X.env)).all (fun x=>!x.1)&&(backToKw cpos (keywordEach [] X.env)).all (fun x=>x.1.isSome)&&decide ([e].length+([]:List Keyword).length+(if ([]:List Keyword).isEmpty then 0 else 1)<30))=true:=by rfl)
  (hline:(apos.endLine==cpos.line)=true:=by rfl) (hs:starEach [e] X.env=(false,eval e X.env)::starEach [] X.env:=by rfl) (hpl:(backTo cpos (starEach [] X.env)).any (·.1)=false:=by rfl):ME X Er (.Call (.Attribute o "join" apos) [e] [] cpos) (zdG fo fa) :=
 PE.weak (zdd PySem.F.plainAttrs_str PySem.F.slot_str_join PySem.F.type_str_join zmw ho (zcn he zcm hs) hbase hfew hline hs hpl) fun σ H Q ⟨env,st,ρ,re,rs,h⟩=>⟨env,st,ρ,re,rs,h.then fun ag H1 x st1 e1 s1 h1 v rv=>by
  cases x with
  | str z =>
   cases rv
   refine ⟨rfl,env,st1,ag,re.ext e1,s1,h1.then fun au H2 y st2 e2 s2 h2 w rw'=>?_⟩
   cases y with
   | ref n =>
    obtain ⟨p,rfl,hp⟩:=rw'
    obtain ⟨xs,hn,h3⟩:=jJ h2
    cases hq:strsOf xs with
    | none=>simp only [hq] at h3;exact h3.elim
    | some ys =>
     simp only [hq] at h3
     obtain ⟨hl,h4⟩:=Out.ifp h3
     obtain ⟨vs,hH,hR⟩:=s2.addr hn hp
     rw [zpr hq hR] at hH
     exact ⟨z,p,ys,rfl,rfl,.inl (.inl hH),by omega,Out.now (x:=PV.str (Txt.join z ys)) h4 s2 _ rfl⟩
   | _=>exact h2.elim
  | _=>exact h1.elim⟩
end
end Mi
namespace PySem
section
variable {M:Model}{A:Around}{E:Value->Shared->Prop}
variable {nm q nm' q':Str}{C N B N':Addr}{bs bm bs' bm':List Value}{hdct hdct':Bool}{sn sn':List Str}{sub sub':List Value}{ab ab':Bool}{col col':Option Bool}{dd dd':Option Addr}{k0 k1 k2 k3 k5 k0' k1' k2' k3' k5':Option Value}{newId newId':String}
end
end PySem
namespace L2
open PySem PySem.Spec PyProof.Rows PySem.W
structure ExSub (K:Frag) (C B:Addr):Prop where
 of:ExOf K C
 sub:mroIn K C (.ref B)=some true
end L2
namespace Mi
open PySem L2 PySem.W PySem.Spec
section
variable {X:Cx}{Er:XK}{pos:Pos}
end
end Mi
namespace L2
open PySem PySem.Spec PyProof.Rows PySem.W
end L2
namespace Mi
open PySem L2 PySem.W PySem.Spec
section
variable {X:Cx}{Er:XK}{pos:Pos}{o:Expr}{sts:List Stmt}{gb:zk->Mo Fl}{fo:zk->Mo PV}{fs:zk->Mo (List PV)}
end
end Mi
namespace L2
open PySem PySem.Spec PyProof.Rows PySem.W PySem.Builtin PySem.Builtin.ObjectAttr
end L2
namespace Mi
open PySem L2 PySem.W PySem.Spec
section
variable {K:Frag}{mg:Str->Option Value}{h:Heap}{C:Addr}
end
section
variable {P:Program}{W:World}{A:Around}{s:Shared}
end
section
variable {X:Cx}{K:Frag}{mg:Str->Option Value}{ρ:List Addr}{pins:List (Addr×Obj)}{σ:L2.St}{H:Hp}{s:Shared}{st:Sto}
end
section
variable {X:Cx}{K:Frag}{mg:Str->Option Value}{Er:XK}{e o:Expr}{es:List Expr}{pos p apos:Pos}{fs:zk->Mo (List PV)}{fo fa:zk->Mo PV}
def zhY:PV->PV->Mo PV
 | .ref n,.int i,st=>if i=0 then yo st n fun xs=>match xs with
  | y::r=>.ok y (st.set n (.lst r))
  | []=>.stuck
  else .stuck
 | _,_,_=>.stuck
def zpy {cpos:Pos} (ho:ME X Er o fo) (he:ME X Er e fa) (hbase:attributeBase o "pop" X.env (eval o X.env)=eval o X.env:=by rfl)
  (hfew:((backTo cpos (starEach [e] X.env)).all (fun x=>!x.1)&&(backToKw cpos (keywordEach [] X.env)).all (fun x=>x.1.isSome)&&decide ([e].length+([]:List Keyword).length+(if ([]:List Keyword).isEmpty then 0 else 1)<30))=true:=by rfl)
  (hline:(apos.endLine==cpos.line)=true:=by rfl) (hs:starEach [e] X.env=(false,eval e X.env)::starEach [] X.env:=by rfl) (hpl:(backTo cpos (starEach [] X.env)).any (·.1)=false:=by rfl):ME X Er (.Call (.Attribute o "pop" apos) [e] [] cpos) (yC zhY fo fa) :=
 PE.weak (zdd PySem.F.plainAttrs_list PySem.F.slot_list_pop PySem.F.type_list_pop zmi ho (zcn he zcm hs) hbase hfew hline hs hpl) fun σ H Q ⟨env,st,ρ,re,rs,h⟩=>⟨env,st,ρ,re,rs,h.then fun ag H1 x st1 e1 s1 h1 v rv=>by
  obtain ⟨n,xs,rfl,hn,h1⟩:=zeu h1
  obtain ⟨p,vs,rfl,hp,k1,k2⟩:=R.refL s1 rv hn
  refine ⟨.inl ⟨rfl,vs,SqL.of k1⟩,env,st1,ag,re.ext e1,s1,h1.then fun au H2 y st2 e2 s2 h2 w rw=>?_⟩
  cases y with
  | int i =>
   cases rw
   obtain ⟨hi,h2⟩:=Out.ifp h2
   subst hi
   obtain ⟨xs2,hn2,h2⟩:=jJ h2
   obtain ⟨p',vs2,e3,hp2,k3,k4⟩:=R.refL s2 (R.ext e2 _ rv) hn2
   cases e3
   cases xs2 with
   | nil=>exact h2.elim
   | cons y r =>
    obtain ⟨u,us,rfl,ru,rus⟩:=k4
    have ew:Ext au H2 au (upd H2 p (.lst us)):=Ext.write k3 rfl
    exact ⟨p,u::us,0,0,u,rfl,rfl,k3,by decide,by decide,by simp [seqIndex?],rfl,h2 au _ ew (s2.write hp2 ew ⟨us,jA,Rs.ext ew _ rus⟩) _ (R.ext ew y ru)⟩
  | _=>exact h2.elim⟩
def zcO:List PV->Mo PV:=fun xs st=>match xs with
 | [.str z]=>match PySem.intText? z with
  | some n=>if z.length<=640 then .ok (.int n) st else .stuck
  | none=>.stuck
 | _=>.stuck
end
end Mi
namespace Mi
open PySem L2 PySem.W PySem.Spec PyProof.Rows
section
variable {prog:Program}{w:World}{A:Around}{E:Value->Shared->Prop}{s:Shared}
end
section
variable {X:Cx}{Er:XK}
end
section
variable {prog:Program}{w:World}{A:Around}{E:Value->Shared->Prop}{s:Shared}
end
section
variable {prog:Program}{w:World}{A:Around}{E:Value->Shared->Prop}{s:Shared}
end
section
variable {X:Cx}{Er:XK}{o:Expr}{fo:zk->Mo PV}{p pos kp cp:Pos}{j:Nat}
end
section
variable {X:Cx}{Er:XK}
def zpz:BltOk X (.type "int") zcO:=⟨_,zmx,fun ρ H st xs vs Q E s r h=>by
 unfold zcO at h
 match xs,h with
 | [.str z],h =>
  obtain ⟨v,rfl,rv⟩:=r.one
  cases rv
  cases hn:PySem.intText? z with
  | none=>simp only [hn] at h;exact h.elim
  | some n =>
   simp only [hn] at h
   obtain ⟨c,h⟩:=Out.ifp h
   exact ⟨z,n,rfl,hn,c,Out.now (x:=PV.int n) h s _ rfl⟩⟩
end
end Mi
namespace Mi
open PySem L2 PySem.W PySem.Spec
end Mi
namespace HT
open PySem PySem.Spec PyProof.Rows
section
variable {prog:Program}{w:World}{A:Around}{E:Value->Shared->Prop}{s:Shared}
def stepLo (k:Int) (n:Nat):Int:=(Builtin.Slice.sliceAdjust none none k (n:Int)).1
def stepN (k:Int) (n:Nat):Nat:=Builtin.Slice.slicePlaces (Builtin.Slice.sliceAdjust none none k (n:Int)).1 (Builtin.Slice.sliceAdjust none none k (n:Int)).2 k
def stepAt (k:Int) (n:Nat):List Nat:=(List.range (stepN k n)).map fun (m:Nat)=>(stepLo k n+(m:Int)*k).toNat
def stepP {α:Type}(k:Int) (xs:List α):List α:=(stepAt k xs.length).filterMap fun i=>xs[i]?
def zpA {sl:Addr}{vk:Value}{k:Int}{n:Nat}{Q:Int×Int×Nat->Shared->Prop}(hs:s.heap.IsSliceOf sl .none .none vk) (pk:IsPart vk (some k)) (h0:k≠0) (h:Q (stepLo k n,k,stepN k n) s):wpAny (model prog w) A (Builtin.Slice.sliceApplied (.ref sl) (pure (n:Int))) Q E s:=by
 obtain ⟨os,hos,hcs,hds⟩:=id hs
 unfold Builtin.Slice.sliceApplied Builtin.Slice.sliceFields
 refine zv (zv (jg hos hds (x:=.none) rfl (zv (jg hos hds (x:=.none) rfl (zv (jg hos hds (x:=vk) rfl (zR ?_)))))));refine zv (zec pk ?_)
 show wpAny _ _ (if (k==0)=true then _ else _) _ _ s
 rw [zX (by simpa using h0)];refine zv (slicePart_none (zv (slicePart_none (zv (zR ?_)))))
 show wpAny _ _ (match Builtin.Slice.sliceAdjust none none k (n:Int) with|(lo,hi)=>pure (lo,k,Builtin.Slice.slicePlaces lo hi k)) _ _ s
 exact zR h
def getItem_step {t sl:Addr}{items:Array Value}{vk:Value}{k:Int}{Q:Value->Shared->Prop}(ht:IsTup s.heap t items) (hs:s.heap.IsSliceOf sl .none .none vk) (pk:IsPart vk (some k)) (h0:k≠0)
  (hw:stepLo k items.size=0/\k=1/\stepN k items.size=items.size->Q (.ref t) s) (h:Q (.ref s.heap.objs.size) { s with heap:=s.heap.push { cls:=.type "tuple", data:=.seq (stepP k items.toList).toArray } })
  (hsz:(stepP k items.toList).length<=sizeLine):wpAny (model prog w) A (getItem (.ref t) (.ref sl)) Q E s:=by
 obtain ⟨os,hos,hcs,hds⟩:=id hs
 have hTs:s.TypeIs (.ref sl) "slice" := ⟨os,hos,hcs⟩
 have pick:((List.range (stepN k items.size)).filterMap fun (m:Nat)=>items[(stepLo k items.size+(m:Int)*k).toNat]?).toArray=(stepP k items.toList).toArray:=by
  unfold stepP stepAt
  rw [List.filterMap_map,Array.length_toList]
  simp only [Array.getElem?_toList]
  rfl
 unfold getItem
 try with_reducible refine wb ?_
 first|refine zv (zR ?_)|skip
 refine zv (wpAny_sequenceKey ht.typeIs (by decide) ?_);refine zv (wpAny_callSpecial?_slot (name:=Str.ofString "__getitem__") ht.typeIs PyProof.Rows.slot_tuple_getitem (wC PyProof.Rows.slot_tuple_getitem ht.typeIs entry_tuple_getitem ?_ (args_tuple_getitem _ _)))
 show wpAny _ _ (Builtin.Tuple.tupleItemsOf (.ref t) >>= _) _ _ s
 refine zv (tupleItemsOf_ ht ?_);refine zv (wpAny_typeOf hTs ?_)
 rw [zH (by decide)];refine zv (zpA hs pk h0 ?_)
 show wpAny _ _ (if ((stepLo k items.size)==0&&k==1&&(stepN k items.size)==items.size)=true then _ else _) _ _ s
 by_cases hq:(stepLo k items.size==0&&k==1&&(stepN k items.size)==items.size)=true
 ·rw [zH hq]
  rw [we,we] at hq
  unfold Builtin.Tuple.tupleIsExact;refine zv (zv (wpAny_typeOf ht.typeIs (zR ?_)))
  rw [zH (by decide)];exact zv (zbn (zR ⟨_,rfl,zR (hw ⟨eq_of_beq hq.1.1,eq_of_beq hq.1.2,eq_of_beq hq.2⟩)⟩))
 ·rw [zX hq,pick]
  have htake:sizeOk (.seq (stepP k items.toList).toArray):=by show (stepP k items.toList).toArray.size<=sizeLine;rw [yP];exact hsz
  first
   | exact zv (m:=Builtin.Tuple.tupleExact _) (wD (zR ⟨_,rfl,zR h⟩) htake)
   | exact zv (m:=Builtin.Tuple.tupleExact _) (wD (zv (zR (zR ⟨_,rfl,zR h⟩))) htake)
   | exact zv (zv (m:=Builtin.Tuple.tupleExact _) (wD (zR (zR ⟨_,rfl,zR h⟩)) htake))
   | exact zv (zv (m:=Builtin.Tuple.tupleExact _) (wD (zR ⟨_,rfl,zR h⟩) htake))
end
def zhZ (n:Nat):stepLo 1 n=0/\stepN 1 n=n:=by
 refine ⟨rfl,?_⟩
 show (if (1:Int)>0 then (if (0:Int)<(n:Int) then ((n:Int)-0-1)/1+1 else 0) else _).toNat=n
 rw [zH (by decide)]
 split
 ·rw [Int.ediv_one];omega
 ·simp;omega
def stepP_one {α:Type}(xs:List α):stepP 1 xs=xs:=by
 unfold stepP stepAt
 rw [(zhZ _).2,(zhZ _).1]
 apply List.ext_getElem?
 intro i
 have e:(List.range xs.length).map (fun (m:Nat)=>((0:Int)+(m:Int)*1).toNat)=List.range xs.length:=by
  refine (List.map_congr_left fun m _=>?_).trans (List.map_id' _)
  simp
 rw [e]
 have:(List.range xs.length).filterMap (fun i=>xs[i]?)=xs:=by
  clear e
  induction xs with
  | nil=>rfl
  | cons a l ih =>
   rw [wq,List.range_succ_eq_map,List.filterMap_cons]
   simp only [wW,List.filterMap_map]
   exact congrArg (a::·) ih
 rw [this]
end HT
namespace Mi
open PySem L2 PySem.W PySem.Spec PyProof.Rows
def zpB {l:List Nat}{xs:List V}{its:List Value}(r:Vals xs its):Vals (l.filterMap fun i=>xs[i]?) (l.filterMap fun i=>its[i]?):=by
 induction l with
 | nil=>exact .nil
 | cons i l ih =>
  cases e:xs[i]? with
  | none =>
   have e2:its[i]?=none:=by rw [zbo] at e ⊢;rw [<-r.length];exact e
   simp only [List.filterMap_cons,e,e2]
   exact ih
  | some x =>
   obtain ⟨v,e2,rv⟩:=r.get e
   simp only [List.filterMap_cons,e,e2]
   exact .cons rv ih
section
variable {X:Cx}{K:Frag}{mg:Str->Option Value}{Er:XK}{e k:Expr}{p2 pos:Pos}{fa:zk->Mo PV}{fk:zk->Mo (Option Int)}
def zpC (K:Frag) (te:TE) (tk:TO):TE:=fun σ H Q=>te σ H fun x H1=>tk σ H1 fun k H2=>∃j,k=some j/\j≠0/\∃a xs,x=.ref a/\SqT K H2 a xs/\(j=1->Q (.ref a) H2)/\(HT.stepP j xs).length<=1000000/\∀p,H2 p=none->Q (.ref p) (upd H2 p (.tup (HT.stepP j xs)))
def zpD {te:TE}{tk:TO}(he:PE X e te) (hk:PO X (some k) tk):PE X (.Subscript e (.Slice none none (some k) p2) pos) (zpC X.K te tk):=by
 intro pins s σ H Q I h
 refine Subscript_ (thn (he pins s σ H _ I h) fun v s1 ⟨x,H1,I1,r1,q1⟩=>?_)
 refine wpAny_Slice ?_
 rw [evalPart_none]
 refine zR (zR ?_)
 refine thn (hk pins s1 σ H1 _ I1 q1) fun vk s3 ⟨k',H3,I3,pk,j,ej,h0,a,xs,ex,hq,qa,hl,q3⟩=>?_
 subst ex ej
 obtain rfl:v=Value.ref a:=r1
 have I4:Inv X pins σ H3 { s3 with heap:=s3.heap.push { cls:=.type "slice", data:=.fields #[.none,.none,vk] } }:=I3.kept (t':=s3.toks) fun b ob q=>yv _ q
 obtain ⟨its,r,ht,hz⟩:=I4.tuple hq
 show wpAny (model X.prog X.w) X.A (subscriptTail e (.Slice none none (some k) p2) (.ref a) (.ref s3.heap.objs.size)) (EP X pins σ Q) X.xe { s3 with heap:=s3.heap.push { cls:=.type "slice", data:=.fields #[.none,.none,vk] } }
 refine tail_any (ops:=[.ref a,.ref s3.heap.objs.size]) ht.typeIs PyProof.Rows.slot_tuple_getitem.lookup ?_ rfl
 have hlen:its.length=xs.length:=r.length.symm
 have rr:Vals (HT.stepP j xs) (HT.stepP j its):=by unfold HT.stepP;rw [hlen];exact zpB r
 refine HT.getItem_step (items:=its.toArray) ht (Heap.IsSliceOf.new ..) pk h0 (fun hh=>⟨.ref a,H3,I4,rfl,qa hh.2.1⟩) ?_ ?_
 ·refine ⟨.ref (s3.heap.push { cls:=.type "slice", data:=.fields #[.none,.none,vk] }).objs.size,upd H3 _ (.tup (HT.stepP j xs)),I4.laid (t':=s3.toks) (fun b u e=>yv _ e) (yf _) (o:=.tup (HT.stepP j xs)) ?_,rfl,q3 _ (I4.hok.fresh (yf _))⟩
  exact ⟨yS hl (by decide),_,rr,IsTup.new _ _⟩
 ·show (HT.stepP j its).length<=sizeLine
  rw [<-rr.length];exact yS hl (by decide)
def zpE {ρ:List Addr}{H:Hp}{l:List Nat}{xs:List PV}{vs:List V}(r:Rs K mg ρ H xs vs):Rs K mg ρ H (l.filterMap fun i=>xs[i]?) (l.filterMap fun i=>vs[i]?):=by
 induction l with
 | nil=>rfl
 | cons i l ih =>
  cases e:xs[i]? with
  | none =>
   have e2:vs[i]?=none:=by rw [zbo] at e ⊢;rw [<-r.len];exact e
   simp only [List.filterMap_cons,e,e2]
   exact ih
  | some x =>
   obtain ⟨v,e2,rv⟩:=r.get e
   simp only [List.filterMap_cons,e,e2]
   exact ⟨_,_,rfl,rv,ih⟩
def zh0 (o:PV) (k:Option Int):Mo PV:=fun st=>match o,k with
 | .tup xs,some j=>if j≠0/\(HT.stepP j xs).length<=1000000 then .ok (.tup (HT.stepP j xs)) st else .stuck
 | _,_=>.stuck
def zbz (fa:zk->Mo PV) (fk:zk->Mo (Option Int)):zk->Mo PV:=fun env st=>(fa env st).bind fun x st1=>(fk env st1).bind fun k st2=>zh0 x k st2
def zh1 (ha:ME X Er e fa) (hk:MO X Er (some k) fk):ME X Er (.Subscript e (.Slice none none (some k) p2) pos) (zbz fa fk) :=
 PE.weak (zpD ha hk) fun σ H Q ⟨env,st,ρ,re,rs,h⟩=>⟨env,st,ρ,re,rs,h.then fun ag H1 x st1 e1 s1 h1 v rv=>⟨env,st1,ag,re.ext e1,s1,h1.then fun au H2 l st2 e2 s2 h2=>by
  unfold zh0 at h2
  split at h2
  ·rename_i xs j
   obtain ⟨⟨h0,hl⟩,h2⟩:=Out.ifp h2
   obtain ⟨p,vs,rfl,k1,k2⟩:=R.ext e2 _ rv
   have rr:Rs X.K X.mg au H2 (HT.stepP j xs) (HT.stepP j vs):=by unfold HT.stepP;rw [k2.len];exact zpE k2
   refine ⟨j,rfl,h0,p,vs,rfl,k1,fun e=>?_,by rw [<-rr.len];exact hl,fun q hq=>h2 au _ (Ext.new hq) (s2.new hq) _ (R.tup_of rr hq)⟩
   subst e
   refine Out.now (x:=PV.tup (HT.stepP 1 xs)) h2 s2 _ ⟨p,vs,rfl,k1,?_⟩
   rw [HT.stepP_one];exact k2
  ·exact h2.elim⟩⟩
end
def zh2:∀{xs ys:List V}{a b:List Value},Vals xs a->Vals ys b->Vals (xs++ys) (a++b)
 | [],_,_,_,.nil,h=>h
 | _::_,_,_,_,.cons r rs,h=>.cons r (zh2 rs h)
def zh3 {xs:List V}{a:List Value}(h:Vals xs a):∀n:Nat,Vals (List.replicate n xs).flatten (List.replicate n a).flatten
 | 0=>.nil
 | n+1=>by rw [List.replicate_succ,List.replicate_succ,List.flatten_cons,List.flatten_cons];exact zh2 h (zh3 h n)
section
variable {X:Cx}{K:Frag}{mg:Str->Option Value}{Er:XK}
def zpF (K:Frag):R2:=fun x y H Q=>∃a xs n,x=.ref a/\y=.int n/\SqL K H a xs/\(0<=n/\n<=1000/\xs.length<=1000)/\∀p,H p=none->Q (.ref p) (upd H p (.lst (List.replicate n.toNat xs).flatten))
def zpG:OpR X (binaryOp .Mult) (zpF X.K):=by
 intro pins s σ H x y v u Q I rx ry h
 obtain ⟨a,xs,n,rfl,rfl,hq,⟨h0,h1,h2⟩,q⟩:=h
 obtain rfl:v=Value.ref a:=rx
 obtain ⟨t,rfl⟩:=ry
 obtain ⟨its,r,pl,hz⟩:=I.list hq
 obtain ⟨⟨cls,d,data,sl⟩,ho,hcl,k,hd⟩:=id pl.isList
 simp only at hcl hd
 subst hcl hd
 have hl:its.length=xs.length:=r.length.symm
 have hsz:its.toArray.size*n.toNat<=1000*1000:=by rw [yP];exact Nat.mul_le_mul (by omega) (by omega)
 refine wpAny_binaryOp_repeat_ref (T := "list") (U := "int") (by decide) ⟨_,ho,rfl⟩ (fun s'=>typeIs_int s' n t) noFill_list_mul F.fills_int_mul F.slot_int_rmul repeat_list F.slot_int_index.lookup (call_meets F.slot_int_rmul (typeIs_int s n t) F.entry_int_rmul (F.args_int_rmul_2 _ _) (lm_int_rmul_list_any n t a its.toArray k d sl) ⟨ho,rfl,⟨_,ho,rfl⟩,call_meets F.slot_list_mul ⟨_,ho,rfl⟩ F.entry_list_mul (F.args_list_mul_2 _ _) (lm_list_mul_any a its.toArray k d sl n t (by simp [Builtin.List.listFitsIndex];omega) (by omega) (by simp [Builtin.List.listTooLong,sizeLine] at hsz ⊢;omega)) ⟨ho,?_⟩⟩)
 rw [listMul_foldl_if]
 refine ⟨.ref s.heap.objs.size,upd H _ (.lst (List.replicate n.toNat xs).flatten),I.laid (t':=s.toks) (fun b u e=>yv _ e) (yf _) (o:=.lst (List.replicate n.toNat xs).flatten) ?_,rfl,q _ (I.hok.fresh (yf _))⟩
 refine ⟨?_,_,0,zh3 r n.toNat,jv _ rfl⟩
 have:(List.replicate n.toNat xs).flatten.length=n.toNat*xs.length:=by simp
 rw [this]
 exact yS (Nat.mul_le_mul (show n.toNat<=1000 by omega) h2) (by decide)
def zh4 {ρ:List Addr}{H:Hp}{xs:List PV}{vs:List V}(r:Rs K mg ρ H xs vs):∀n:Nat,Rs K mg ρ H (List.replicate n xs).flatten (List.replicate n vs).flatten
 | 0=>rfl
 | n+1=>by rw [List.replicate_succ,List.replicate_succ,List.flatten_cons,List.flatten_cons];exact r.append (zh4 r n)
def zeL:PV->PV->Mo PV
 | .ref m,.int n,st=>yo st m fun xs=>if 0<=n/\n<=1000/\xs.length<=1000 then .ok (.ref st.length) (st++[.lst (List.replicate n.toNat xs).flatten]) else .stuck
 | _,_,_=>.stuck
def zpH:BinOk X .Mult zeL:=⟨_,zpG,fun ρ H st x y v w Q E s rx ry h=>by
 cases x with
 | ref m =>
  cases y with
  | int n =>
   cases ry
   obtain ⟨xs,hn,h⟩:=jJ h
   obtain ⟨c,h⟩:=Out.ifp h
   obtain ⟨a,vs,rfl,ha,k1,k2⟩:=R.refL s rx hn
   exact ⟨a,vs,n,rfl,rfl,SqL.of k1,⟨c.1,c.2.1,by rw [<-k2.len];exact c.2.2⟩,fun p hp=>Out.newList h s (zh4 k2 n.toNat) hp⟩
  | _=>exact h.elim
 | _=>exact h.elim⟩
end
end Mi
namespace Mi
open PySem L2 PySem.W PySem.Spec
def nsl:Expr->Bool
 | .Slice _ _ _ _=>false
 | _=>true
def zpI {b:Expr}(h:nsl b=true):PlainIx b:=by cases b<;>first|exact fun _ _=>rfl|cases h
def zN {X:Cx}{Er:XK}{a b:Expr}{fa fb:zk->Mo PV}{pos:Pos}{k:Nat}(hr:Room k X.A) (ha:ME X Er a fa) (hb:ME X Er b fb) (hs:nsl b=true:=by rfl):ME X Er (.Subscript a b pos) (zj zw fa fb):=zen (zhf (yn hr)) ha hb (zpI hs)
end Mi
namespace FK25
open PySem L2 PySem.W Mi
def top (i:Nat):Stmt:=PySem.Challenge.pw_foreknown_k25_shapes.main.body.getD i (.Pass ⟨0,0,0,0⟩)
abbrev zeM:Stmt:=top 11
abbrev zh5:Stmt:=top 12
abbrev zh6:Stmt:=top 18
abbrev zdH:Stmt:=top 19
abbrev zh7:Stmt:=top 27
abbrev zeN:Stmt:=top 14
abbrev zh8:Stmt:=top 28
abbrev zh9:Stmt:=top 29
abbrev zia:Stmt:=top 13
abbrev zdI:Stmt:=top 16
abbrev zdJ:Stmt:=top 30
abbrev zib:Stmt:=top 31
abbrev zic:Stmt:=top 32
abbrev zeO:Stmt:=top 25
abbrev zid:Stmt:=top 20
abbrev zeP:Stmt:=top 15
abbrev zie:Stmt:=top 21
abbrev zeQ:Stmt:=top 22
abbrev zif:Stmt:=top 23
abbrev zig:Stmt:=top 24
abbrev zeR:Stmt:=top 26
abbrev zih:Stmt:=top 33
abbrev zii:Stmt:=top 34
abbrev zdK:Stmt:=top 17
abbrev zij:Stmt:=top 2
abbrev zik:Stmt:=top 3
abbrev zil:Stmt:=top 4
abbrev zdL:Stmt:=top 6
abbrev zim:Stmt:=top 35
abbrev zin:Stmt:=top 1
abbrev zeS:Stmt:=top 7
abbrev zeT:Stmt:=top 38
abbrev zio:Stmt:=top 8
abbrev ziq:Stmt:=top 5
abbrev zeU:Stmt:=top 9
abbrev zir:Stmt:=top 36
abbrev zis:Stmt:=top 37
abbrev zeV:Stmt:=top 39
def isT:IsT where
 isx c:=false
 sub c B :=  none
 subT c n :=  none
 tyC _ _:=none
structure Txt (w:World) (K:Frag) (mg:Str->Option Value):Prop where
 f__law_deck:FnF K mg "_law_deck" zeM ["_law_script"]
 f__law_next:FnF K mg "_law_next" zh5 ["_law_deck_here", "_law_many"]
 f__law_word_name:FnF K mg "_law_word_name" zh6 ["_law_cell", "_law_k"]
 f__law_name:FnF K mg "_law_name" zdH ["_law_cell", "_law_k"]
 f__law_rows_program:FnF K mg "_law_rows_program" zh7 ["_law_deck_here"]
 f__law_word:FnF K mg "_law_word" zeN ["_law_deck_here"]
 f__law_deep_program:FnF K mg "_law_deep_program" zh8 ["_law_deck_here"]
 f__law_long_program:FnF K mg "_law_long_program" zh9 ["_law_deck_here"]
 f__law_number:FnF K mg "_law_number" zia ["_law_deck_here"]
 f__law_large:FnF K mg "_law_large" zdI ["_law_deck_here"]
 f__law_wide_program:FnF K mg "_law_wide_program" zdJ ["_law_deck_here"]
 f__law_branches:FnF K mg "_law_branches" zib ["_law_deck_here", "_law_cell", "_law_used", "_law_scope", "_law_deep", "_law_room"]
 f__law_tree_program:FnF K mg "_law_tree_program" zic ["_law_deck_here", "_law_most"]
 f__law_heads:FnF K mg "_law_heads" zeO ["_law_deck_here", "_law_many"]
 f__law_op:FnF K mg "_law_op" zid ["_law_k"]
 f__law_value:FnF K mg "_law_value" zeP ["_law_deck_here", "_law_deep"]
 f__law_atom:FnF K mg "_law_atom" zie ["_law_deck_here", "_law_scope"]
 f__law_atoms:FnF K mg "_law_atoms" zeQ ["_law_deck_here", "_law_scope", "_law_many"]
 f__law_step:FnF K mg "_law_step" zif ["_law_deck_here", "_law_heads_here", "_law_scope", "_law_name_here"]
 f__law_block:FnF K mg "_law_block" zig ["_law_deck_here", "_law_heads_here", "_law_scope", "_law_used", "_law_cell", "_law_deep"]
 f__law_program:FnF K mg "_law_program" zeR ["_law_deck_here"]
 f__law_any_program:FnF K mg "_law_any_program" zih ["_law_deck_here"]
 f__law_lines:FnF K mg "_law_lines" zii ["_law_block_here"]
 f__law_alike:FnF K mg "_law_alike" zdK ["_law_found", "_law_due"]
 f_lines_of:FnF K mg "lines_of" zij ["block"]
 f_depth_of:FnF K mg "depth_of" zik ["block"]
 f_aim_of:FnF K mg "aim_of" zil ["line"]
 f_aims_of:FnF K mg "aims_of" zdL ["block"]
 f__law_aims:FnF K mg "_law_aims" zim ["_law_rows"]
 f_is_step:FnF K mg "is_step" zin ["line"]
 f_steps_of:FnF K mg "steps_of" zeS ["block"]
 f__law_fits:FnF K mg "_law_fits" zeT ["_law_function"]
 f_function_by:FnF K mg "function_by" zio ["program", "name"]
 f_atoms_of:FnF K mg "atoms_of" ziq ["line"]
 f_values_of:FnF K mg "values_of" zeU ["program"]
 f__law_line_atoms:FnF K mg "_law_line_atoms" zir ["_law_line"]
 f__law_values:FnF K mg "_law_values" zis ["_law_program_here"]
 f_law:FnF K mg "law" zeV ["_law_script"]
 b_all:mg "all" = none
 b_bool:mg "bool" = none
 b_dict:mg "dict" = none
 b_int:mg "int" = none
 b_isinstance:mg "isinstance" = none
 b_len:mg "len" = none
 b_list:mg "list" = none
 b_max:mg "max" = none
 b_min:mg "min" = none
 b_range:mg "range" = none
 b_str:mg "str" = none
 b_tuple:mg "tuple" = none
 b_zip:mg "zip" = none
 is:IsF K mg isT
section
variable {P:Program}{w:World}{K:Frag}{mg:Str->Option Value}{base:Heap}
def zbA:FnScope ["_law_script", "_law_cells", "_law_deck_here", "_law_k", "_law_cell", "_law_first"] ["_law_script"] (zT zeM):=⟨rfl,rfl,rfl,by decide +kernel,rfl,by decide +kernel,by decide +kernel⟩
def zpJ:zk->Mo Fl :=
  zu (zC 1 (jh (yO (wP (zd 0) pNone (pSome (mC (.int 180))))) (zj yt (zd 0) (mC (.int 2305843009213693951))))) (zu (zC 2 (y8 zh)) (zu (yU (iRng1 (zc (mC (.int 180)) zh)) (gN 3)
  (zu (zC 4 (mC (.int 1)))
  (zu (yd (mB (zj j5 (zp yE (zc (zd 1) zh)) (mC (.int 0))))
  (zC 4 (zj zw (zd 1) (zj yt (zd 3) (zp yE (zc (zd 1) zh)))))
  yg)
  (zu (zC 5 (zj yD (zj yt (zd 4) (mC (.int 2147483629))) (zj zZ (zj yD (mC (.int 2)) (zd 3)) (mC (.int 1)))))
  (yH (yC yM (zd 2) (zj yt (zj zZ (zj zZ (zd 5) (zj jb (zd 4) (mC (.int 65537)))) (zj yD (zj yD (mC (.int 7919)) (zd 3)) (zd 3))) (mC (.int 2147483647))))))))) (zS (zd 2))))
def zeW:List PV->Mo PV:=yr 1 6 (zpJ)
def zpK (T:Txt w K mg):FOk P w K mg base "_law_deck" 1 zeW:=T.f__law_deck.ok (k:=0) zbA fun f cdv A outer s H E hr =>
  by
 refine zx ?_ ?_
 refine zhH 1 (M:=["_law_script", "_law_cells", "_law_deck_here", "_law_k", "~_law_cell", "_law_first"]) rfl (by exact ⟨rfl,by decide +kernel,by decide +kernel,rfl,by show ∀y:Str×NameKind,y∈_->y.2=NameKind.free->List.lookup y.1 (zT zeM).names=some NameKind.cell;decide +kernel⟩) (by exact ⟨rfl,by show ∀p∈List.zip (["_law_script", "_law_cells", "_law_deck_here", "_law_k", "~_law_cell", "_law_first"]:List Str) (["_law_script", "_law_cells", "_law_deck_here", "_law_k", "_law_cell", "_law_first"]:List Str),p.1=p.2\/p.1∉(_:List Str);decide +kernel⟩) (by decide +kernel) ?_ ?_ zbA.nd rfl (by first|exact Or.inl rfl|exact Or.inr rfl) (by first|exact .inl rfl|exact .inr rfl|assumption) (by rfl)
 refine j6 ?_
 refine zbU ?_ ?_ ?_
 exact (zg 0)
 exact zbT
 exact za7 zo
 intro _ _ _ _ _
 exact zF je (zg 0) zo
 refine zx ?_ ?_
 refine zO 2 ?_ ?_
 exact jm zn
 exact zbA.nd
 refine zx ?_ (zJ (zV (zg 2)))
 refine jL (jB rfl rfl) rfl ?_ ?_ ?_
 exact jC T.b_range (zf zo zn)
 exact (jS 3 zbA.nd)
 refine zx ?_ ?_
 refine zO 4 ?_ ?_
 exact zo
 exact zbA.nd
 refine zx ?_ ?_
 refine yq (yk za6 (yT jN T.b_len jM (zf (zg 1) zn)) zo) ?_ yp
 refine zJ ?_
 refine zO 4 ?_ ?_
 exact zN hr (zg 1) (zF je (zg 3) (yT jN T.b_len jM (zf (zg 1) zn)))
 exact zbA.nd
 refine zx ?_ ?_
 refine zO 5 ?_ ?_
 exact zF jT (zF je (zg 4) zo) (zF yG (zF jT zo (zg 3)) zo)
 exact zbA.nd
 refine zJ ?_
 refine jR ?_
 refine j2 (zg 2) ?_
 refine zF je (zF yG (zF yG (zg 5) (zF wx (zg 4) zo)) (zF jT (zF jT zo (zg 3)) (zg 3))) zo
def zpL:FnScope ["_law_deck_here", "_law_many"] ["_law_deck_here", "_law_many"] (zT zh5):=⟨rfl,rfl,rfl,by decide +kernel,rfl,by decide +kernel,by decide +kernel⟩
def zpM:zk->Mo Fl :=
  zu (yd (mB (zj ye (zp yE (zc (zd 0) zh)) (mC (.int 0))))
  (zS (mC (.int 0)))
  yg) (zS (zj yt (yC zhY (zd 0) (mC (.int 0))) (zd 1)))
def yz:List PV->Mo PV:=yr 2 2 (zpM)
def yV (T:Txt w K mg):FOk P w K mg base "_law_next" 1 yz:=T.f__law_next.ok (k:=0) zpL fun f cdv A outer s H E hr =>
  by
 refine zx ?_ ?_
 refine yq (yk (yB (yn hr)) (yT jN T.b_len jM (zf (zg 0) zn)) zo) (zJ (zV zo)) yp
 refine zJ ?_
 refine zV ?_
 refine zF je ?_ (zg 1)
 refine zpy ?_ ?_
 exact (zg 0)
 exact zo
def zit:FnScope ["_law_cell", "_law_k", "_law_some"] ["_law_cell", "_law_k"] (zT zh6):=⟨rfl,rfl,rfl,by decide +kernel,rfl,by decide +kernel,by decide +kernel⟩
def zpN:zk->Mo Fl :=
  zu (zC 2 (y8 (zdz ["fun", "give", "go", "fail", "if", "else", "end", "call", "is", "of", "let", "add", "kind", "same"]))) (zu (yd (mB (zj oLt (zd 1) (mC (.int 14))))
  (zS (zj zw (zd 2) (zj yt (zj zZ (zd 1) (zj jb (zd 0) (mC (.int 5)))) (mC (.int 14)))))
  yg) (zS (zj zZ (mC (.str "z")) (zp zcE (zc (zd 1) zh)))))
def zeX:List PV->Mo PV:=yr 2 3 (zpN)
def zpO (T:Txt w K mg):FOk P w K mg base "_law_word_name" 1 zeX:=T.f__law_word_name.ok (k:=0) zit fun f cdv A outer s H E hr =>
  by
 refine zx ?_ ?_
 refine zO 2 ?_ ?_
 refine jm ?_
 refine zey ?_
 decide +kernel
 exact zit.nd
 refine zx ?_ (zJ (zV (zF yG zY (yX zoC T.b_str zev (zf (zg 1) zn)))))
 refine yq (yk zcv (zg 1) zo) (zJ (zV (zN hr (zg 2) (zF je (zF yG (zg 1) (zF wx (zg 0) zo)) zo)))) yp
def zbB:FnScope ["_law_cell", "_law_k", "_law_letters", "_law_size", "_law_both", "_law_signs"] ["_law_cell", "_law_k"] (zT zdH):=⟨rfl,rfl,rfl,by decide +kernel,rfl,by decide +kernel,by decide +kernel⟩
def ziu:zk->Mo Fl :=
  zu (zC 5 (jh (iRng1 (zc (zd 3) zh)) (zj zw (zd 5) (zj yt (zj zZ (zj zZ (zj jb (zd 1) (mC (.int 1024))) (zj yD (zj yD (zd 2) (zd 2)) (zd 0))) (zj yD (zd 0) (zd 0))) (mC (.int 36)))))) (zu (yd (mB (zj ye (zj yt (zj jb (zd 0) (mC (.int 8))) (mC (.int 2))) (mC (.int 0))))
  (zC 5 (jh (iRng1 (zc (zd 3) zh)) (zj zw (zd 5) (zj yt (zj zZ (zj jb (zd 1) (mC (.int 1024))) (zj yD (zd 0) (zd 0))) (mC (.int 36))))))
  yg) (zu (zcL (zd 5) (mC (.int 0)) (zj zw (zd 2) (zj yt (zj zZ (zj jb (zd 0) (mC (.int 64))) (zj jb (zd 1) (mC (.int 36)))) (mC (.int 26))))) (zu (zcL (zd 5) (zj zZ (mC (.int 1)) (zj yt (zj jb (zd 0) (mC (.int 16))) (zj jd (zd 3) (mC (.int 1))))) (zj zw (zd 4) (zj yt (zj zZ (zj jb (zd 0) (mC (.int 256))) (zd 1)) (mC (.int 36))))) (zS (zdG (mC (.str "")) (zd 5))))))
def ziv:zk->Mo Fl :=
  zu (yd (w8 (mB (zj ye (zd 3) (mC (.int 1)))) (mB (zj oLt (zd 1) (mC (.int 26)))))
  (zS (zj zw (zd 2) (zj yt (zj zZ (zj jb (zd 0) (mC (.int 8))) (zd 1)) (mC (.int 26)))))
  yg) (zu (zC 3 (zp zaR (zc (zd 3) (zc (mC (.int 2)) zh)))) (zu (zC 4 (zj zZ (zd 2) (mC (.str "0123456789")))) (ziu)))
def zeY:zk->Mo Fl :=
  zu (yd (mB (zj ye (zj yt (zd 0) (mC (.int 5))) (mC (.int 3))))
  (zS (zp zeX (zc (zd 0) (zc (zd 1) zh))))
  yg) (zu (zC 2 (mC (.str "abcdefghijklmnopqrstuvwxyz"))) (zu (zC 3 (zj zZ (mC (.int 1)) (zj yt (zj jb (zd 0) (mC (.int 5))) (mC (.int 8))))) (ziv)))
def yN:List PV->Mo PV:=yr 2 6 (zeY)
def jx (T:Txt w K mg):FOk P w K mg base "_law_name" 2 yN:=T.f__law_name.ok (k:=1) zbB fun f cdv A outer s H E hr =>
  by
 refine zx ?_ ?_
 refine yq (yk (yB (yn hr)) (zF je (zg 0) zo) zo) (zJ (zV (zD (zpO T) (hr.mono (by decide)) zI (zf (zg 0) (zf (zg 1) zn))))) yp
 refine zx ?_ ?_
 refine zO 2 ?_ ?_
 exact zY
 exact zbB.nd
 refine zx ?_ ?_
 refine zO 3 ?_ ?_
 exact zF yG zo (zF je (zF wx (zg 0) zo) zo)
 exact zbB.nd
 refine zx ?_ ?_
 refine yq (ww (zcs (yk (yB (yn hr)) (zg 3) zo) (zcr (yk zcv (zg 1) zo)))) (zJ (zV (zN hr (zg 2) (zF je (zF yG (zF wx (zg 0) zo) (zg 1)) zo)))) yp
 refine zx ?_ ?_
 refine zO 3 ?_ ?_
 exact yT (zeD rfl) T.b_max zeE (zf (zg 3) (zf zo zn))
 exact zbB.nd
 refine zx ?_ ?_
 refine zO 4 ?_ ?_
 exact zF yG (zg 2) zY
 exact zbB.nd
 refine zx ?_ ?_
 refine zdB 5 (N:=["_law_cell", "_law_k", "_law_letters", "_law_size", "_law_both", "_law_signs"]) rfl (by exact ⟨rfl,by decide +kernel,by decide +kernel,rfl,by show ∀y:Str×NameKind,y∈_->y.2=NameKind.free->List.lookup y.1 (zT zdH).names=some NameKind.cell;decide +kernel⟩) rfl (by decide +kernel) ?_ ?_ zbB.nd rfl (by first|exact Or.inl rfl|exact Or.inr rfl) (by first|exact .inl rfl|exact .inr rfl|assumption) (by rfl)
 exact jC T.b_range (zf (zg 3) zn)
 intro _ _ _ _ _
 refine zN hr (zg 5) ?_
 refine zF je ?_ zo
 refine zF yG (zF yG (zF wx (zg 1) zo) (zF jT (zF jT (zg 2) (zg 2)) (zg 0))) (zF jT (zg 0) (zg 0))
 refine zx ?_ ?_
 refine yq (yk (yB (yn hr)) (zF je (zF wx (zg 0) zo) zo) zo) ?_ yp
 refine zJ ?_
 refine zdB 5 (N:=["_law_cell", "_law_k", "_law_letters", "_law_size", "_law_both", "_law_signs"]) rfl (by exact ⟨rfl,by decide +kernel,by decide +kernel,rfl,by show ∀y:Str×NameKind,y∈_->y.2=NameKind.free->List.lookup y.1 (zT zdH).names=some NameKind.cell;decide +kernel⟩) rfl (by decide +kernel) ?_ ?_ zbB.nd rfl (by first|exact Or.inl rfl|exact Or.inr rfl) (by first|exact .inl rfl|exact .inr rfl|assumption) (by rfl)
 exact jC T.b_range (zf (zg 3) zn)
 intro _ _ _ _ _
 exact zN hr (zg 5) (zF je (zF yG (zF wx (zg 1) zo) (zF jT (zg 0) (zg 0))) zo)
 refine zx ?_ ?_
 refine zhT ?_ ?_ ?_
 exact (zg 5)
 exact zo
 exact zN hr (zg 2) (zF je (zF yG (zF wx (zg 0) zo) (zF wx (zg 1) zo)) zo)
 refine zx ?_ ?_
 refine zhT ?_ ?_ ?_
 exact (zg 5)
 exact zF yG zo (zF je (zF wx (zg 0) zo) (zF wm (zg 3) zo))
 exact zN hr (zg 4) (zF je (zF yG (zF wx (zg 0) zo) (zg 1)) zo)
 refine zJ ?_
 refine zV ?_
 refine zhX ?_ ?_
 exact zY
 exact (zg 5)
def zbe:FnScope ["_law_deck_here", "_law_cell", "_law_seed", "_law_many", "_law_steps", "_law_k", "_law_atom_here", "_law_main"] ["_law_deck_here"] (zT zh7):=⟨rfl,rfl,rfl,by decide +kernel,rfl,by decide +kernel,by decide +kernel⟩
def zpP:zk->Mo Fl :=
  zu (zC 1 (zp yz (zc (zd 0) (zc (mC (.int 1000000007)) zh)))) (zu (zC 2 (zp yz (zc (zd 0) (zc (mC (.int 1000003)) zh)))) (zu (zC 3 (zj zw (y8 (zc (mC (.int 59)) (zc (mC (.int 58)) (zc (mC (.int 20)) zh)))) (zj yt (zd 2) (mC (.int 3))))) (zu (zC 4 (y8 zh)) (zu (yU (iRng1 (zc (zd 3) zh)) (gN 5)
  (zu (zC 6 (zA (zc (mC (.str "of")) (zc (zp yN (zc (zd 1) (zc (zj yt (zj yD (zd 2) (zd 5)) (zj zZ (zd 5) (mC (.int 1)))) zh))) zh))))
  (yH (yC yM (zd 4) (zA (zc (mC (.str "let")) (zc (zp yN (zc (zd 1) (zc (zj zZ (zd 5) (mC (.int 1))) zh))) (zc (mC (.str "add")) (zc (zA (zc (zd 6) (zc (zA (zc (mC (.str "is")) (zc (zj jd (zj yt (zj yD (zd 2) (zd 5)) (mC (.int 2001))) (mC (.int 1000))) zh))) zh))) zh))))))))) (zu (zC 7 (zA (zc (zp yN (zc (zd 2) (zc (mC (.int 0)) zh))) (zc (zA (zc (zp yN (zc (zd 1) (zc (mC (.int 0)) zh))) zh)) (zc (zA (zc (zp yL (zc (zd 4) zh)) (zc (zA (zc (mC (.str "give")) (zc (zA (zc (mC (.str "of")) (zc (zp yN (zc (zd 1) (zc (zd 3) zh))) zh))) zh))) zh))) zh))))) (zS (zA (zc (zd 7) zh))))))))
def zeZ:List PV->Mo PV:=yr 1 8 (zpP)
def zpQ (T:Txt w K mg):FOk P w K mg base "_law_rows_program" 3 zeZ:=T.f__law_rows_program.ok (k:=2) zbe fun f cdv A outer s H E hr =>
  by
 refine zx ?_ ?_
 refine zO 1 ?_ ?_
 exact zD (yV T) (hr.mono (by decide)) zI (zf (zg 0) (zf zo zn))
 exact zbe.nd
 refine zx ?_ ?_
 refine zO 2 ?_ ?_
 exact zD (yV T) (hr.mono (by decide)) zI (zf (zg 0) (zf zo zn))
 exact zbe.nd
 refine zx ?_ ?_
 refine zO 3 ?_ ?_
 exact zN hr (jm (zf zo (zf zo (zf zo zn)))) (zF je (zg 2) zo)
 exact zbe.nd
 refine zx ?_ ?_
 refine zO 4 ?_ ?_
 exact jm zn
 exact zbe.nd
 refine zx ?_ ?_
 refine jL (jB rfl rfl) rfl ?_ ?_ ?_
 exact jC T.b_range (zf (zg 3) zn)
 exact (jS 5 zbe.nd)
 refine zx ?_ ?_
 refine zO 6 ?_ ?_
 refine zL ?_
 refine zf zY ?_
 refine zf (zD (jx T) (hr.mono (by decide)) zI (zf (zg 1) (zf (zF je (zF jT (zg 2) (zg 5)) (zF yG (zg 5) zo)) zn))) zn
 exact zbe.nd
 refine zJ ?_
 refine jR ?_
 refine j2 (zg 4) ?_
 refine zL ?_
 refine zf zY ?_
 refine zf (zD (jx T) (hr.mono (by decide)) zI (zf (zg 1) (zf (zF yG (zg 5) zo) zn))) ?_
 refine zf zY ?_
 refine zf ?_ zn
 refine zL ?_
 refine zf (zg 6) ?_
 refine zf (zL (zf zY (zf (zF wm (zF je (zF jT (zg 2) (zg 5)) zo) zo) zn))) zn
 refine zx ?_ (zJ (zV (zL (zf (zg 7) zn))))
 refine zO 7 ?_ ?_
 refine zL ?_
 refine zf (zD (jx T) (hr.mono (by decide)) zI (zf (zg 2) (zf zo zn))) ?_
 refine zf (zL (zf (zD (jx T) (hr.mono (by decide)) zI (zf (zg 1) (zf zo zn))) zn)) ?_
 refine zf ?_ zn
 refine zL ?_
 refine zf (yX jn T.b_tuple jf (zf (zg 4) zn)) ?_
 refine zf ?_ zn
 refine zL ?_
 refine zf zY ?_
 refine zf (zL (zf zY (zf (zD (jx T) (hr.mono (by decide)) zI (zf (zg 1) (zf (zg 3) zn))) zn))) zn
 exact zbe.nd
def zdM:FnScope ["_law_deck_here", "_law_letters", "_law_size", "_law_cell"] ["_law_deck_here"] (zT zeN):=⟨rfl,rfl,rfl,by decide +kernel,rfl,by decide +kernel,by decide +kernel⟩
def zpR:zk->Mo Fl :=
  zu (zC 1 (mC (.str "abcdefghijklmnopqrstuvwxyz"))) (zu (zC 2 (zj zZ (mC (.int 1)) (zp yz (zc (zd 0) (zc (mC (.int 8)) zh))))) (zu (zC 3 (zp yz (zc (zd 0) (zc (mC (.int 1000000007)) zh)))) (zS (zdG (mC (.str "")) (jh (iRng1 (zc (zd 2) zh)) (zj zw (zd 2) (zj yt (zj zZ (zj jb (zd 4) (zj zZ (mC (.int 1)) (zj yD (zj yD (zd 0) (zd 0)) (zd 0)))) (zj yD (zd 0) (zd 3))) (mC (.int 26)))))))))
def zaT:List PV->Mo PV:=yr 1 4 (zpR)
def zcP (T:Txt w K mg):FOk P w K mg base "_law_word" 2 zaT:=T.f__law_word.ok (k:=1) zdM fun f cdv A outer s H E hr =>
  by
 refine zx ?_ ?_
 refine zO 1 ?_ ?_
 exact zY
 exact zdM.nd
 refine zx ?_ ?_
 refine zO 2 ?_ ?_
 exact zF yG zo (zD (yV T) (hr.mono (by decide)) zI (zf (zg 0) (zf zo zn)))
 exact zdM.nd
 refine zx ?_ ?_
 refine zO 3 ?_ ?_
 exact zD (yV T) (hr.mono (by decide)) zI (zf (zg 0) (zf zo zn))
 exact zdM.nd
 refine zJ ?_
 refine zV ?_
 refine zhX ?_ ?_
 exact zY
 refine zcD (N:=["_law_deck_here", "_law_letters", "_law_size", "_law_cell"]) rfl (by exact ⟨rfl,by decide +kernel,by decide +kernel,rfl,by show ∀y:Str×NameKind,y∈_->y.2=NameKind.free->List.lookup y.1 (zT zeN).names=some NameKind.cell;decide +kernel⟩) rfl (by decide +kernel) ?_ ?_
 exact jC T.b_range (zf (zg 2) zn)
 intro _ _ _ _ _
 refine zN hr (zg 2) ?_
 refine zF je ?_ zo
 refine zF yG (zF wx (zg 4) (zF yG zo (zF jT (zF jT (zg 0) (zg 0)) (zg 0)))) (zF jT (zg 0) (zg 3))
def zau:FnScope ["_law_deck_here", "_law_cell", "_law_bits", "_law_block_here", "_law_k", "_law_name_here", "_law_step_here", "_law_end"] ["_law_deck_here"] (zT zh8):=⟨rfl,rfl,rfl,by decide +kernel,rfl,by decide +kernel,by decide +kernel⟩
def zpS:zk->Mo Fl :=
  zu (zC 1 (zp yz (zc (zd 0) (zc (mC (.int 1000000007)) zh)))) (zu (zC 2 (zp yz (zc (zd 0) (zc (mC (.int 256)) zh)))) (zu (zC 3 (zA (zc (zA zh) (zc (zA (zc (mC (.str "give")) (zc (zA (zc (mC (.str "of")) (zc (zp yN (zc (zd 1) (zc (mC (.int 8)) zh))) zh))) zh))) zh)))) (zu (yU (iRng1 (zc (mC (.int 8)) zh)) (gN 4)
  (zu (zC 5 (zp yN (zc (zd 1) (zc (zj jd (mC (.int 8)) (zd 4)) zh))))
  (zu (zC 6 (zA (zc (mC (.str "let")) (zc (zd 5) (zc (mC (.str "down")) (zc (zA (zc (zA (zc (mC (.str "of")) (zc (zp yN (zc (zd 1) (zc (zj jd (mC (.int 7)) (zd 4)) zh))) zh))) zh)) zh))))))
  (zu (zC 7 (zA (zc (mC (.str "if")) (zc (zA (zc (mC (.str "of")) (zc (zd 5) zh))) (zc (zd 3) (zc (zA (zc (zA zh) (zc (zA (zc (mC (.str "fail")) (zc (zp zaT (zc (zd 0) zh)) zh))) zh))) zh))))))
  (zu (yd (mB (zj ye (zj zbY (zj zbZ (zd 2) (zd 4)) (mC (.int 1))) (mC (.int 1))))
  (zC 7 (zA (zc (mC (.str "if")) (zc (zA (zc (mC (.str "of")) (zc (zd 5) zh))) (zc (zA (zc (zA zh) (zc (zA (zc (mC (.str "give")) (zc (zA (zc (mC (.str "is")) (zc (zd 4) zh))) zh))) zh))) (zc (zd 3) zh))))))
  yg)
  (zC 3 (zA (zc (zA (zc (zd 6) zh)) (zc (zd 7) zh))))))))) (zS (zA (zc (zA (zc (zp yN (zc (zd 2) (zc (mC (.int 0)) zh))) (zc (zA (zc (zp yN (zc (zd 1) (zc (mC (.int 0)) zh))) zh)) (zc (zd 3) zh)))) zh))))))
def ze0:List PV->Mo PV:=yr 1 8 (zpS)
def zpT (T:Txt w K mg):FOk P w K mg base "_law_deep_program" 3 ze0:=T.f__law_deep_program.ok (k:=2) zau fun f cdv A outer s H E hr =>
  by
 refine zx ?_ ?_
 refine zO 1 ?_ ?_
 exact zD (yV T) (hr.mono (by decide)) zI (zf (zg 0) (zf zo zn))
 exact zau.nd
 refine zx ?_ ?_
 refine zO 2 ?_ ?_
 exact zD (yV T) (hr.mono (by decide)) zI (zf (zg 0) (zf zo zn))
 exact zau.nd
 refine zx ?_ ?_
 refine zO 3 ?_ ?_
 refine zL ?_
 refine zf (zL zn) ?_
 refine zf ?_ zn
 refine zL ?_
 refine zf zY ?_
 refine zf (zL (zf zY (zf (zD (jx T) (hr.mono (by decide)) zI (zf (zg 1) (zf zo zn))) zn))) zn
 exact zau.nd
 refine zx ?_ ?_
 refine jL (jB rfl rfl) rfl ?_ ?_ ?_
 exact jC T.b_range (zf zo zn)
 exact (jS 4 zau.nd)
 refine zx ?_ ?_
 refine zO 5 ?_ ?_
 exact zD (jx T) (hr.mono (by decide)) zI (zf (zg 1) (zf (zF wm zo (zg 4)) zn))
 exact zau.nd
 refine zx ?_ ?_
 refine zO 6 ?_ ?_
 refine zL ?_
 refine zf zY ?_
 refine zf (zg 5) ?_
 refine zf zY ?_
 refine zf ?_ zn
 refine zL ?_
 refine zf ?_ zn
 refine zL (zf zY (zf (zD (jx T) (hr.mono (by decide)) zI (zf (zg 1) (zf (zF wm zo (zg 4)) zn))) zn))
 exact zau.nd
 refine zx ?_ ?_
 refine zO 7 ?_ ?_
 refine zL ?_
 refine zf zY ?_
 refine zf (zL (zf zY (zf (zg 5) zn))) ?_
 refine zf (zg 3) ?_
 refine zf ?_ zn
 refine zL ?_
 refine zf (zL zn) (zf (zL (zf zY (zf (zD (zcP T) (hr.mono (by decide)) zI (zf (zg 0) zn)) zn))) zn)
 exact zau.nd
 refine zx ?_ ?_
 refine yq (yk (yB (yn hr)) (zF zow (zF zox (zg 2) (zg 4)) zo) zo) ?_ yp
 refine zJ ?_
 refine zO 7 ?_ ?_
 refine zL ?_
 refine zf zY ?_
 refine zf (zL (zf zY (zf (zg 5) zn))) ?_
 refine zf ?_ (zf (zg 3) zn)
 refine zL ?_
 refine zf (zL zn) ?_
 refine zf (zL (zf zY (zf (zL (zf zY (zf (zg 4) zn))) zn))) zn
 exact zau.nd
 refine zJ ?_
 refine zO 3 ?_ ?_
 exact zL (zf (zL (zf (zg 6) zn)) (zf (zg 7) zn))
 exact zau.nd
 refine zJ ?_
 refine zV ?_
 refine zL ?_
 refine zf ?_ zn
 refine zL ?_
 refine zf (zD (jx T) (hr.mono (by decide)) zI (zf (zg 2) (zf zo zn))) ?_
 refine zf (zL (zf (zD (jx T) (hr.mono (by decide)) zI (zf (zg 1) (zf zo zn))) zn)) (zf (zg 3) zn)
def zb7:FnScope ["_law_deck_here", "_law_cell", "_law_step_here", "_law_many", "_law_program_here", "_law_k"] ["_law_deck_here"] (zT zh9):=⟨rfl,rfl,rfl,by decide +kernel,rfl,by decide +kernel,by decide +kernel⟩
def zpU:zk->Mo Fl :=
  zu (zC 1 (zp yz (zc (zd 0) (zc (mC (.int 1000000007)) zh)))) (zu (zC 2 (zj zZ (mC (.int 1)) (zj yD (mC (.int 2)) (zp yz (zc (zd 0) (zc (mC (.int 100)) zh)))))) (zu (zC 3 (zj zw (y8 (zc (mC (.int 200)) (zc (mC (.int 200)) (zc (mC (.int 137)) zh)))) (zj yt (zd 2) (mC (.int 3))))) (zu (zC 4 (y8 zh)) (zu (yU (iRng1 (zc (zd 3) zh)) (gN 5)
  (yH (yC yM (zd 4) (zA (zc (zp yN (zc (zd 1) (zc (zd 5) zh))) (zc (zA zh) (zc (zA (zc (zA zh) (zc (zA (zc (mC (.str "go")) (zc (zp yN (zc (zd 1) (zc (zj yt (zj zZ (zj yD (zd 5) (zd 2)) (mC (.int 1))) (zd 3)) zh))) (zc (zA zh) zh)))) zh))) zh))))))) (zS (zp yL (zc (zd 4) zh)))))))
def ze1:List PV->Mo PV:=yr 1 6 (zpU)
def zpV (T:Txt w K mg):FOk P w K mg base "_law_long_program" 3 ze1:=T.f__law_long_program.ok (k:=2) zb7 fun f cdv A outer s H E hr =>
  by
 refine zx ?_ ?_
 refine zO 1 ?_ ?_
 exact zD (yV T) (hr.mono (by decide)) zI (zf (zg 0) (zf zo zn))
 exact zb7.nd
 refine zx ?_ ?_
 refine zO 2 ?_ ?_
 exact zF yG zo (zF jT zo (zD (yV T) (hr.mono (by decide)) zI (zf (zg 0) (zf zo zn))))
 exact zb7.nd
 refine zx ?_ ?_
 refine zO 3 ?_ ?_
 exact zN hr (jm (zf zo (zf zo (zf zo zn)))) (zF je (zg 2) zo)
 exact zb7.nd
 refine zx ?_ ?_
 refine zO 4 ?_ ?_
 exact jm zn
 exact zb7.nd
 refine zx ?_ (zJ (zV (yX jn T.b_tuple jf (zf (zg 4) zn))))
 refine jL (jB rfl rfl) rfl ?_ ?_ ?_
 exact jC T.b_range (zf (zg 3) zn)
 exact (jS 5 zb7.nd)
 refine zJ ?_
 refine jR ?_
 refine j2 (zg 4) ?_
 refine zL ?_
 refine zf (zD (jx T) (hr.mono (by decide)) zI (zf (zg 1) (zf (zg 5) zn))) ?_
 refine zf (zL zn) ?_
 refine zf ?_ zn
 refine zL ?_
 refine zf (zL zn) ?_
 refine zf ?_ zn
 refine zL ?_
 refine zf zY ?_
 refine zf (zD (jx T) (hr.mono (by decide)) zI (zf (zg 1) (zf (zF je (zF yG (zF jT (zg 5) (zg 2)) zo) (zg 3)) zn))) (zf (zL zn) zn)
def zdN:FnScope ["_law_deck_here", "_law_way", "_law_some", "_law_number_here"] ["_law_deck_here"] (zT zia):=⟨rfl,rfl,rfl,by decide +kernel,rfl,by decide +kernel,by decide +kernel⟩
def zpW:zk->Mo Fl :=
  zu (zC 1 (zp yz (zc (zd 0) (zc (mC (.int 6)) zh)))) (zu (yd (mB (zj oLt (zd 1) (mC (.int 2))))
  (zS (zp yz (zc (zd 0) (zc (mC (.int 10)) zh))))
  yg) (zu (yd (mB (zj ye (zd 1) (mC (.int 2))))
  (zS (zj jd (mC (.int 0)) (zp yz (zc (zd 0) (zc (mC (.int 1000)) zh)))))
  yg) (zu (yd (mB (zj ye (zd 1) (mC (.int 3))))
  (zu (zC 2 (y8 (zc (zj jd (zj w9 (mC (.int 10)) (mC (.int 18))) (mC (.int 1))) (zc (zj jd (mC (.int 1)) (zj w9 (mC (.int 10)) (mC (.int 18)))) (zc (zj w9 (mC (.int 10)) (mC (.int 17))) (zc (zj jd (mC (.int 1)) (zj w9 (mC (.int 10)) (mC (.int 17)))) (zc (mC (.int 99)) (zc (ju wn (mC (.int 10))) zh))))))))
  (zS (zj zw (zd 2) (zp yz (zc (zd 0) (zc (mC (.int 6)) zh))))))
  yg) (zu (zC 3 (zj zZ (zj yD (zp yz (zc (zd 0) (zc (zj w9 (mC (.int 10)) (mC (.int 9))) zh))) (zj w9 (mC (.int 10)) (mC (.int 9)))) (zp yz (zc (zd 0) (zc (zj w9 (mC (.int 10)) (mC (.int 9))) zh))))) (zS (zj zw (y8 (zc (zd 3) (zc (zj jd (mC (.int 0)) (zd 3)) zh))) (zj yt (zd 1) (mC (.int 2)))))))))
def zdO:List PV->Mo PV:=yr 1 4 (zpW)
def ziw (T:Txt w K mg):FOk P w K mg base "_law_number" 2 zdO:=T.f__law_number.ok (k:=1) zdN fun f cdv A outer s H E hr =>
  by
 refine zx ?_ ?_
 refine zO 1 ?_ ?_
 exact zD (yV T) (hr.mono (by decide)) zI (zf (zg 0) (zf zo zn))
 exact zdN.nd
 refine zx ?_ ?_
 refine yq (yk zcv (zg 1) zo) (zJ (zV (zD (yV T) (hr.mono (by decide)) zI (zf (zg 0) (zf zo zn))))) yp
 refine zx ?_ ?_
 refine yq (yk (yB (yn hr)) (zg 1) zo) (zJ (zV (zF wm zo (zD (yV T) (hr.mono (by decide)) zI (zf (zg 0) (zf zo zn)))))) yp
 refine zx ?_ ?_
 refine yq (yk (yB (yn hr)) (zg 1) zo) ?_ yp
 refine zx ?_ (zJ (zV (zN hr (zg 2) (zD (yV T) (hr.mono (by decide)) zI (zf (zg 0) (zf zo zn))))))
 refine zO 2 ?_ ?_
 refine jm ?_
 refine zf (zF wm (zF zbt zo zo) zo) ?_
 refine zf (zF wm zo (zF zbt zo zo)) ?_
 refine zf (zF zbt zo zo) (zf (zF wm zo (zF zbt zo zo)) (zf zo (zf (zaL zaM zo) zn)))
 exact zdN.nd
 refine zx ?_ ?_
 refine zO 3 ?_ ?_
 refine zF yG (zF jT (zD (yV T) (hr.mono (by decide)) zI (zf (zg 0) (zf (zF zbt zo zo) zn))) (zF zbt zo zo)) (zD (yV T) (hr.mono (by decide)) zI (zf (zg 0) (zf (zF zbt zo zo) zn)))
 exact zdN.nd
 refine zJ ?_
 refine zV (zN hr (jm (zf (zg 3) (zf (zF wm zo (zg 3)) zn))) (zF je (zg 1) zo))
def wJ:FnScope ["_law_deck_here", "_law_way", "_law_cell", "_law_letters", "_law_value_here", "_law_k", "_law_word_here", "_law_record"] ["_law_deck_here"] (zT zdI):=⟨rfl,rfl,rfl,by decide +kernel,rfl,by decide +kernel,by decide +kernel⟩
def zpX:zk->Mo Fl :=
  zu (zC 1 (zp yz (zc (zd 0) (zc (mC (.int 5)) zh)))) (zu (zC 2 (zp yz (zc (zd 0) (zc (mC (.int 1000003)) zh)))) (zu (zC 3 (mC (.str "abcdefghijklmnopqrstuvwxyz"))) (zu (yd (mB (zj ye (zd 1) (mC (.int 0))))
  (zS (zp yL (zc (jh (iRng1 (zc (mC (.int 59)) zh)) (zj jd (zj yt (zj yD (zd 3) (zj zZ (zd 0) (mC (.int 1)))) (mC (.int 1999))) (mC (.int 999)))) zh)))
  yg) (zu (yd (mB (zj ye (zd 1) (mC (.int 1))))
  (zS (zp yL (zc (jh (iRng1 (zc (zj yt (zd 2) (mC (.int 60))) zh)) (zA zh)) zh)))
  yg) (zu (zC 4 (zp zdO (zc (zd 0) zh))) (zu (yd (mB (zj ye (zd 1) (mC (.int 2))))
  (zu (yU (iRng1 (zc (mC (.int 59)) zh)) (gN 5)
  (zC 4 (zA (zc (zd 4) zh))))
  (zS (zd 4)))
  yg) (zu (yd (mB (zj ye (zd 1) (mC (.int 3))))
  (zu (zC 6 (zp zaT (zc (zd 0) zh)))
  (zu (yU (iRng1 (zc (mC (.int 59)) zh)) (gN 5)
  (zC 4 (zcK [((zd 6),(zd 4))])))
  (zS (zd 4))))
  yg) (zu (zC 7 zew) (zu (yU (iRng1 (zc (mC (.int 59)) zh)) (gN 5)
  (zu (zC 6 (zj zZ (zj zw (zd 3) (zj yt (zj zZ (zd 2) (zj yD (mC (.int 7)) (zd 5))) (mC (.int 26)))) (zj zw (zd 3) (zj jb (zd 5) (mC (.int 26))))))
  (zbx (zd 7) (zd 6) (zj yt (zj yD (zd 2) (zd 5)) (mC (.int 1999)))))) (zS (zd 7)))))))))))
def zbf:List PV->Mo PV:=yr 1 8 (zpX)
def zpY (T:Txt w K mg):FOk P w K mg base "_law_large" 3 zbf:=T.f__law_large.ok (k:=2) wJ fun f cdv A outer s H E hr =>
  by
 refine zx ?_ ?_
 refine zO 1 ?_ ?_
 exact zD (yV T) (hr.mono (by decide)) zI (zf (zg 0) (zf zo zn))
 exact wJ.nd
 refine zx ?_ ?_
 refine zO 2 ?_ ?_
 exact zD (yV T) (hr.mono (by decide)) zI (zf (zg 0) (zf zo zn))
 exact wJ.nd
 refine zx ?_ ?_
 refine zO 3 ?_ ?_
 exact zY
 exact wJ.nd
 refine zx ?_ ?_
 refine yq (yk (yB (yn hr)) (zg 1) zo) ?_ yp
 refine zJ ?_
 refine zV ?_
 refine yX jn T.b_tuple jf ?_
 refine zf ?_ zn
 refine zdx (M:=["_law_deck_here", "_law_way", "_law_cell", "_law_letters", "_law_value_here", "~_law_k", "_law_word_here", "_law_record"]) rfl (by exact ⟨rfl,by decide +kernel,by decide +kernel,rfl,by show ∀y:Str×NameKind,y∈_->y.2=NameKind.free->List.lookup y.1 (zT zdI).names=some NameKind.cell;decide +kernel⟩) (by exact ⟨rfl,by show ∀p∈List.zip (["_law_deck_here", "_law_way", "_law_cell", "_law_letters", "_law_value_here", "~_law_k", "_law_word_here", "_law_record"]:List Str) (["_law_deck_here", "_law_way", "_law_cell", "_law_letters", "_law_value_here", "_law_k", "_law_word_here", "_law_record"]:List Str),p.1=p.2\/p.1∉(_:List Str);decide +kernel⟩) (by decide +kernel) ?_ ?_
 exact jC T.b_range (zf zo zn)
 intro _ _ _ _ _
 exact zF wm (zF je (zF jT (zg 3) (zF yG (zg 0) zo)) zo) zo
 refine zx ?_ ?_
 refine yq (yk (yB (yn hr)) (zg 1) zo) ?_ yp
 refine zJ ?_
 refine zV ?_
 refine yX jn T.b_tuple jf ?_
 refine zf ?_ zn
 refine zdx (M:=["_law_deck_here", "_law_way", "_law_cell", "_law_letters", "_law_value_here", "~_law_k", "_law_word_here", "_law_record"]) rfl (by exact ⟨rfl,by decide +kernel,by decide +kernel,rfl,by show ∀y:Str×NameKind,y∈_->y.2=NameKind.free->List.lookup y.1 (zT zdI).names=some NameKind.cell;decide +kernel⟩) (by exact ⟨rfl,by show ∀p∈List.zip (["_law_deck_here", "_law_way", "_law_cell", "_law_letters", "_law_value_here", "~_law_k", "_law_word_here", "_law_record"]:List Str) (["_law_deck_here", "_law_way", "_law_cell", "_law_letters", "_law_value_here", "_law_k", "_law_word_here", "_law_record"]:List Str),p.1=p.2\/p.1∉(_:List Str);decide +kernel⟩) (by decide +kernel) ?_ ?_
 exact jC T.b_range (zf (zF je (zg 2) zo) zn)
 intro _ _ _ _ _
 exact zL zn
 refine zx ?_ ?_
 refine zO 4 ?_ ?_
 exact zD (ziw T) (hr.mono (by decide)) zI (zf (zg 0) zn)
 exact wJ.nd
 refine zx ?_ ?_
 refine yq (yk (yB (yn hr)) (zg 1) zo) ?_ yp
 refine zx ?_ (zJ (zV (zg 4)))
 refine jL (jB rfl rfl) rfl ?_ ?_ ?_
 exact jC T.b_range (zf zo zn)
 exact (jS 5 wJ.nd)
 refine zJ ?_
 refine zO 4 ?_ ?_
 exact zL (zf (zg 4) zn)
 exact wJ.nd
 refine zx ?_ ?_
 refine yq (yk (yB (yn hr)) (zg 1) zo) ?_ yp
 refine zx ?_ ?_
 refine zO 6 ?_ ?_
 exact zD (zcP T) (hr.mono (by decide)) zI (zf (zg 0) zn)
 exact wJ.nd
 refine zx ?_ (zJ (zV (zg 4)))
 refine jL (jB rfl rfl) rfl ?_ ?_ ?_
 exact jC T.b_range (zf zo zn)
 exact (jS 5 wJ.nd)
 refine zJ ?_
 refine zO 4 ?_ ?_
 refine zpl ?_ (by simp) (by decide)
 refine zpk ?_ ?_ ?_
 exact (zg 6)
 exact (zg 4)
 exact zpj
 exact wJ.nd
 refine zx ?_ ?_
 refine zO 7 ?_ ?_
 exact zhb
 exact wJ.nd
 refine zx ?_ (zJ (zV (zg 7)))
 refine jL (jB rfl rfl) rfl ?_ ?_ ?_
 exact jC T.b_range (zf zo zn)
 exact (jS 5 wJ.nd)
 refine zx ?_ ?_
 refine zO 6 ?_ ?_
 refine zF yG (zN hr (zg 3) (zF je (zF yG (zg 2) (zF jT zo (zg 5))) zo)) (zN hr (zg 3) (zF wx (zg 5) zo))
 exact wJ.nd
 refine zJ ?_
 refine zhg ?_ ?_ ?_ ?_ ?_
 exact (yn hr)
 exact (zg 7)
 exact (zg 6)
 exact zF je (zF jT (zg 2) (zg 5)) zo
 rfl
def zbg:FnScope ["_law_deck_here", "_law_cell", "_law_params", "_law_value_here", "_law_turned", "_law_name_here", "_law_steps", "_law_atoms_here"] ["_law_deck_here"] (zT zdJ):=⟨rfl,rfl,rfl,by decide +kernel,rfl,by decide +kernel,by decide +kernel⟩
def zpZ:zk->Mo Fl :=
  zu (zC 1 (zp yz (zc (zd 0) (zc (mC (.int 1000000007)) zh)))) (zu (zC 2 (zp yL (zc (jh (iRng1 (zc (mC (.int 6)) zh)) (zp yN (zc (zd 2) (zc (zd 0) zh)))) zh))) (zu (zC 3 (zp zbf (zc (zd 0) zh))) (zu (zC 4 (zp yL (zc (jh (yO (zbz (zd 2) (pSome (ju wn (mC (.int 1)))))) (zA (zc (mC (.str "of")) (zc (zd 0) zh)))) zh))) (zu (zC 5 (zp yN (zc (zd 1) (zc (mC (.int 6)) zh)))) (zu (zC 6 (zA (zc (zA (zc (mC (.str "call")) (zc (zd 5) (zc (zj zw (zd 2) (mC (.int 0))) (zc (zd 4) zh))))) (zc (zA (zc (mC (.str "let")) (zc (zp yN (zc (zd 1) (zc (mC (.int 7)) zh))) (zc (mC (.str "set")) (zc (zj zZ (zA (zc (zA (zc (mC (.str "is")) (zc (zd 3) zh))) zh)) (wP (zd 4) pNone (pSome (mC (.int 2))))) zh))))) zh)))) (zu (zC 7 (zj zZ (zA (zc (zA (zc (mC (.str "is")) (zc (zd 3) zh))) (zc (zA (zc (mC (.str "of")) (zc (zd 5) zh))) zh))) (wP (zd 4) (pSome (mC (.int 2))) pNone))) (zS (zA (zc (zA (zc (zj zw (zd 2) (mC (.int 0))) (zc (zd 2) (zc (zA (zc (zd 6) (zc (zA (zc (mC (.str "go")) (zc (zj zw (zd 2) (mC (.int 0))) (zc (zd 7) zh)))) zh))) zh)))) zh)))))))))
def ze2:List PV->Mo PV:=yr 1 8 (zpZ)
def zp0 (T:Txt w K mg):FOk P w K mg base "_law_wide_program" 4 ze2:=T.f__law_wide_program.ok (k:=3) zbg fun f cdv A outer s H E hr =>
  by
 refine zx ?_ ?_
 refine zO 1 ?_ ?_
 exact zD (yV T) (hr.mono (by decide)) zI (zf (zg 0) (zf zo zn))
 exact zbg.nd
 refine zx ?_ ?_
 refine zO 2 ?_ ?_
 refine yX jn T.b_tuple jf ?_
 refine zf ?_ zn
 refine zcD (N:=["_law_deck_here", "_law_cell", "_law_params", "_law_value_here", "_law_turned", "_law_name_here", "_law_steps", "_law_atoms_here"]) rfl (by exact ⟨rfl,by decide +kernel,by decide +kernel,rfl,by show ∀y:Str×NameKind,y∈_->y.2=NameKind.free->List.lookup y.1 (zT zdJ).names=some NameKind.cell;decide +kernel⟩) rfl (by decide +kernel) ?_ ?_
 exact jC T.b_range (zf zo zn)
 intro _ _ _ _ _
 exact zD (jx T) (hr.mono (by decide)) zap (zf (zg 2) (zf (zg 0) zn))
 exact zbg.nd
 refine zx ?_ ?_
 refine zO 3 ?_ ?_
 exact zD (zpY T) (hr.mono (by decide)) zI (zf (zg 0) zn)
 exact zbg.nd
 refine zx ?_ ?_
 refine zO 4 ?_ ?_
 refine yX jn T.b_tuple jf ?_
 refine zf ?_ zn
 refine zcD (N:=["_law_deck_here", "_law_cell", "_law_params", "_law_value_here", "_law_turned", "_law_name_here", "_law_steps", "_law_atoms_here"]) rfl (by exact ⟨rfl,by decide +kernel,by decide +kernel,rfl,by show ∀y:Str×NameKind,y∈_->y.2=NameKind.free->List.lookup y.1 (zT zdJ).names=some NameKind.cell;decide +kernel⟩) rfl (by decide +kernel) ?_ ?_
 refine j6 ?_
 refine zh1 ?_ ?_
 exact (zg 2)
 exact za7 (zaL zaM zo)
 intro _ _ _ _ _
 exact zL (zf zY (zf (zg 0) zn))
 exact zbg.nd
 refine zx ?_ ?_
 refine zO 5 ?_ ?_
 exact zD (jx T) (hr.mono (by decide)) zI (zf (zg 1) (zf zo zn))
 exact zbg.nd
 refine zx ?_ ?_
 refine zO 6 ?_ ?_
 refine zL ?_
 refine zf (zL (zf zY (zf (zg 5) (zf (zN hr (zg 2) zo) (zf (zg 4) zn))))) ?_
 refine zf ?_ zn
 refine zL ?_
 refine zf zY ?_
 refine zf (zD (jx T) (hr.mono (by decide)) zI (zf (zg 1) (zf zo zn))) ?_
 refine zf zY ?_
 refine zf ?_ zn
 refine zF yG (zL (zf (zL (zf zY (zf (zg 3) zn))) zn)) ?_
 refine zbU ?_ ?_ ?_
 exact (zg 4)
 exact zbT
 exact za7 zo
 exact zbg.nd
 refine zx ?_ ?_
 refine zO 7 ?_ ?_
 refine zF yG ?_ ?_
 refine zL ?_
 refine zf (zL (zf zY (zf (zg 3) zn))) (zf (zL (zf zY (zf (zg 5) zn))) zn)
 refine zbU ?_ ?_ ?_
 exact (zg 4)
 exact za7 zo
 exact zbT
 exact zbg.nd
 refine zJ ?_
 refine zV ?_
 refine zL ?_
 refine zf ?_ zn
 refine zL ?_
 refine zf (zN hr (zg 2) zo) ?_
 refine zf (zg 2) ?_
 refine zf ?_ zn
 refine zL ?_
 refine zf (zg 6) (zf (zL (zf zY (zf (zN hr (zg 2) zo) (zf (zg 7) zn)))) zn)
def zbh:FnScope ["_law_deck_here", "_law_cell", "_law_used", "_law_scope", "_law_deep", "_law_room", "_law_steps", "_law_turn", "_law_name_here", "_law_one", "_law_other"] ["_law_deck_here", "_law_cell", "_law_used", "_law_scope", "_law_deep", "_law_room"] (zT zib):=⟨rfl,rfl,rfl,by decide +kernel,rfl,by decide +kernel,by decide +kernel⟩
def zix (mr:List PV->Mo PV):zk->Mo Fl :=
  zu (yd (mB (zj ye (zd 4) (mC (.int 0))))
  (zS (zA (zc (zp yL (zc (zd 6) zh)) (zc (zA (zc (mC (.str "give")) (zc (zA (zc (mC (.str "of")) (zc (zj zw (zd 3) (ju wn (mC (.int 1)))) zh))) zh))) zh))))
  yg) (zu (zC 9 (zp mr (zc (zd 0) (zc (zd 1) (zc (zd 2) (zc (zd 3) (zc (zj jd (zd 4) (mC (.int 1))) (zc (zd 5) zh)))))))) (zu (zC 10 (zp mr (zc (zd 0) (zc (zd 1) (zc (zd 2) (zc (zd 3) (zc (zj jd (zd 4) (mC (.int 1))) (zc (zd 5) zh)))))))) (zS (zA (zc (zp yL (zc (zd 6) zh)) (zc (zA (zc (mC (.str "if")) (zc (zA (zc (mC (.str "of")) (zc (zj zw (zd 3) (mC (.int 0))) zh))) (zc (zd 9) (zc (zd 10) zh))))) zh))))))
def ziy (mr:List PV->Mo PV):zk->Mo Fl :=
  zu (zC 6 (y8 zh)) (zu (zC 3 (zp jY (zc (zd 3) zh))) (zu (yU (iRng1 (zc (zp zcF (zc (zp yE (zc (zd 5) zh)) (zc (zp yz (zc (zd 0) (zc (mC (.int 4)) zh))) zh))) zh)) (gN 7)
  (zu (yH (ju zby (zd 5)))
  (zu (zC 8 (zp yN (zc (zd 1) (zc (zp yE (zc (zd 2) zh)) zh))))
  (zu (yH (yC yM (zd 6) (zA (zc (mC (.str "let")) (zc (zd 8) (zc (mC (.str "add")) (zc (zA (zc (zA (zc (mC (.str "of")) (zc (zj zw (zd 3) (ju wn (mC (.int 1)))) zh))) (zc (zA (zc (mC (.str "is")) (zc (zp yE (zc (zd 2) zh)) zh))) zh))) zh)))))))
  (zu (yH (yC yM (zd 2) (zd 8)))
  (yH (yC yM (zd 3) (zd 8)))))))) (zix mr)))
def ze3 (mr:List PV->Mo PV):List PV->Mo PV:=yr 6 11 (ziy mr)
def zp1 (T:Txt w K mg) {k:Nat} (hk:2<=k) {mr:List PV->Mo PV} (hmr:FOk P w K mg base "_law_branches" k mr):FOk P w K mg base "_law_branches" (k+1) (ze3 mr):=T.f__law_branches.ok (k:=k+0) zbh fun f cdv A outer s H E hr =>
  by
 refine zx ?_ ?_
 refine zO 6 ?_ ?_
 exact jm zn
 exact zbh.nd
 refine zx ?_ ?_
 refine zO 3 ?_ ?_
 exact yX (zcG rfl) T.b_list zcA (zf (zg 3) zn)
 exact zbh.nd
 refine zx ?_ ?_
 refine jL (jB rfl rfl) rfl ?_ ?_ ?_
 refine jC T.b_range ?_
 refine zf ?_ zn
 refine yT (zoK rfl) T.b_min zoL ?_
 refine zf (yT jN T.b_len jM (zf (zg 5) zn)) (zf (zD (yV T) (hr.mono (by omega)) zI (zf (zg 0) (zf zo zn))) zn)
 exact (jS 7 zbh.nd)
 refine zx (jR (zhl (zg 5))) ?_
 refine zx ?_ ?_
 refine zO 8 ?_ ?_
 exact zD (jx T) (hr.mono (by omega)) zI (zf (zg 1) (zf (yT jN T.b_len jM (zf (zg 2) zn)) zn))
 exact zbh.nd
 refine zx ?_ ?_
 refine jR ?_
 refine j2 (zg 6) ?_
 refine zL ?_
 refine zf zY ?_
 refine zf (zg 8) ?_
 refine zf zY ?_
 refine zf ?_ zn
 refine zL ?_
 refine zf (zL (zf zY (zf (zN hr (zg 3) (zaL zaM zo)) zn))) (zf (zL (zf zY (zf (yT jN T.b_len jM (zf (zg 2) zn)) zn))) zn)
 refine zx (jR (j2 (zg 2) (zg 8))) (zJ (jR (j2 (zg 3) (zg 8))))
 refine zx ?_ ?_
 refine yq (yk (yB (yn hr)) (zg 4) zo) ?_ yp
 refine zJ ?_
 refine zV ?_
 refine zL ?_
 refine zf (yX jn T.b_tuple jf (zf (zg 6) zn)) ?_
 refine zf ?_ zn
 refine zL ?_
 refine zf zY (zf (zL (zf zY (zf (zN hr (zg 3) (zaL zaM zo)) zn))) zn)
 refine zx ?_ ?_
 refine zO 9 ?_ ?_
 refine zD hmr (hr.mono (by omega)) zI ?_
 refine zf (zg 0) ?_
 refine zf (zg 1) (zf (zg 2) (zf (zg 3) (zf (zF wm (zg 4) zo) (zf (zg 5) zn))))
 exact zbh.nd
 refine zx ?_ ?_
 refine zO 10 ?_ ?_
 refine zD hmr (hr.mono (by omega)) zI ?_
 refine zf (zg 0) ?_
 refine zf (zg 1) (zf (zg 2) (zf (zg 3) (zf (zF wm (zg 4) zo) (zf (zg 5) zn))))
 exact zbh.nd
 refine zJ ?_
 refine zV ?_
 refine zL ?_
 refine zf (yX jn T.b_tuple jf (zf (zg 6) zn)) ?_
 refine zf ?_ zn
 refine zL ?_
 refine zf zY ?_
 refine zf (zL (zf zY (zf (zN hr (zg 3) zo) zn))) (zf (zg 9) (zf (zg 10) zn))
def wK:Nat->List PV->Mo PV
 | 0=>yr 6 11 zbw
 | n+1=>ze3 (wK n)
def ze4 (T:Txt w K mg):∀n,FOk P w K mg base "_law_branches" (2+1+1*n) (wK n)
 | 0=>T.f__law_branches.ok (k:=2) zbh fun f cdv A outer s H E hr=>zb2
 | n+1=>(zp1 T (by omega) (ze4 T n)).mono (by omega)
def zav:FnScope ["_law_deck_here", "_law_most", "_law_cell", "_law_used", "_law_room", "_law_one", "_law_other", "_law_steps", "_law_k", "_law_name_here", "_law_atom_here"] ["_law_deck_here", "_law_most"] (zT zic):=⟨rfl,rfl,rfl,by decide +kernel,rfl,by decide +kernel,by decide +kernel⟩
def zp2:zk->Mo Fl :=
  zu (zC 2 (zp yz (zc (zd 0) (zc (mC (.int 1000000007)) zh)))) (zu (zC 3 (y8 (zc (zp yN (zc (zd 2) (zc (mC (.int 0)) zh))) zh))) (zu (zC 4 (zj zeL (y8 (zc (mC (.int 0)) zh)) (zj jd (zd 1) (mC (.int 31))))) (zu (zC 5 (zp (wK 6) (zc (zd 0) (zc (zd 2) (zc (zd 3) (zc (wP (zd 3) pNone (pSome (mC (.int 1)))) (zc (mC (.int 3)) (zc (zd 4) zh)))))))) (zu (zC 6 (zp (wK 6) (zc (zd 0) (zc (zd 2) (zc (zd 3) (zc (wP (zd 3) pNone (pSome (mC (.int 1)))) (zc (mC (.int 3)) (zc (zd 4) zh)))))))) (zu (zC 7 (y8 zh)) (zu (yU (iRng1 (zc (zp yE (zc (zd 4) zh)) zh)) (gN 8)
  (zu (zC 9 (zp yN (zc (zd 2) (zc (zp yE (zc (zd 3) zh)) zh))))
  (zu (yH (yC yM (zd 7) (zA (zc (mC (.str "let")) (zc (zd 9) (zc (mC (.str "less")) (zc (zA (zc (zA (zc (mC (.str "is")) (zc (zd 8) zh))) (zc (zA (zc (mC (.str "of")) (zc (zj zw (zd 3) (mC (.int 0))) zh))) zh))) zh)))))))
  (yH (yC yM (zd 3) (zd 9)))))) (zu (zC 10 (zA (zc (mC (.str "of")) (zc (zj zw (y8 (zc (zj zw (zd 3) (mC (.int 0))) (zc (zj zw (zd 3) (ju wn (mC (.int 1)))) zh))) (zp zgW (zc (zj j5 (zp yE (zc (zd 7) zh)) (mC (.int 0))) zh))) zh)))) (zS (zA (zc (zA (zc (zp yN (zc (zd 2) (zc (mC (.int 90)) zh))) (zc (zA (zc (zj zw (zd 3) (mC (.int 0))) zh)) (zc (zA (zc (zp yL (zc (zd 7) zh)) (zc (zA (zc (mC (.str "if")) (zc (zd 10) (zc (zd 5) (zc (zd 6) zh))))) zh))) zh)))) zh))))))))))
def ze5:List PV->Mo PV:=yr 2 11 (zp2)
def zp3 (T:Txt w K mg):FOk P w K mg base "_law_tree_program" 10 ze5:=T.f__law_tree_program.ok (k:=9) zav fun f cdv A outer s H E hr =>
  by
 refine zx ?_ ?_
 refine zO 2 ?_ ?_
 exact zD (yV T) (hr.mono (by decide)) zI (zf (zg 0) (zf zo zn))
 exact zav.nd
 refine zx ?_ ?_
 refine zO 3 ?_ ?_
 exact jm (zf (zD (jx T) (hr.mono (by decide)) zI (zf (zg 2) (zf zo zn))) zn)
 exact zav.nd
 refine zx ?_ ?_
 refine zO 4 ?_ ?_
 exact zF zpH (jm (zf zo zn)) (zF wm (zg 1) zo)
 exact zav.nd
 refine zx ?_ ?_
 refine zO 5 ?_ ?_
 refine zD (ze4 T 6) (hr.mono (by decide)) zI ?_
 refine zf (zg 0) ?_
 refine zf (zg 2) ?_
 refine zf (zg 3) ?_
 refine zf ?_ (zf zo (zf (zg 4) zn))
 refine zbU ?_ ?_ ?_
 exact (zg 3)
 exact zbT
 exact za7 zo
 exact zav.nd
 refine zx ?_ ?_
 refine zO 6 ?_ ?_
 refine zD (ze4 T 6) (hr.mono (by decide)) zI ?_
 refine zf (zg 0) ?_
 refine zf (zg 2) ?_
 refine zf (zg 3) ?_
 refine zf ?_ (zf zo (zf (zg 4) zn))
 refine zbU ?_ ?_ ?_
 exact (zg 3)
 exact zbT
 exact za7 zo
 exact zav.nd
 refine zx ?_ ?_
 refine zO 7 ?_ ?_
 exact jm zn
 exact zav.nd
 refine zx ?_ ?_
 refine jL (jB rfl rfl) rfl ?_ ?_ ?_
 exact jC T.b_range (zf (yT jN T.b_len jM (zf (zg 4) zn)) zn)
 exact (jS 8 zav.nd)
 refine zx ?_ ?_
 refine zO 9 ?_ ?_
 exact zD (jx T) (hr.mono (by decide)) zI (zf (zg 2) (zf (yT jN T.b_len jM (zf (zg 3) zn)) zn))
 exact zav.nd
 refine zx ?_ (zJ (jR (j2 (zg 3) (zg 9))))
 refine jR ?_
 refine j2 (zg 7) ?_
 refine zL ?_
 refine zf zY ?_
 refine zf (zg 9) ?_
 refine zf zY ?_
 refine zf ?_ zn
 refine zL ?_
 refine zf (zL (zf zY (zf (zg 8) zn))) (zf (zL (zf zY (zf (zN hr (zg 3) zo) zn))) zn)
 refine zx ?_ ?_
 refine zO 10 ?_ ?_
 refine zL ?_
 refine zf zY ?_
 refine zf ?_ zn
 refine zN hr (jm (zf (zN hr (zg 3) zo) (zf (zN hr (zg 3) (zaL zaM zo)) zn))) (yX znB T.b_int zdw (zf (zcu za6 (yT jN T.b_len jM (zf (zg 7) zn)) zo) zn))
 exact zav.nd
 refine zJ ?_
 refine zV ?_
 refine zL ?_
 refine zf ?_ zn
 refine zL ?_
 refine zf (zD (jx T) (hr.mono (by decide)) zI (zf (zg 2) (zf zo zn))) ?_
 refine zf (zL (zf (zN hr (zg 3) zo) zn)) ?_
 refine zf ?_ zn
 refine zL ?_
 refine zf (yX jn T.b_tuple jf (zf (zg 7) zn)) (zf (zL (zf zY (zf (zg 10) (zf (zg 5) (zf (zg 6) zn))))) zn)
def ziz:FnScope ["_law_deck_here", "_law_many", "_law_cell"] ["_law_deck_here", "_law_many"] (zT zeO):=⟨rfl,rfl,rfl,by decide +kernel,rfl,by decide +kernel,by decide +kernel⟩
def zp4:zk->Mo Fl :=
  zu (zC 2 (zp yz (zc (zd 0) (zc (mC (.int 1000000007)) zh)))) (zS (jh (iRng1 (zc (zd 1) zh)) (zA (zc (zp yN (zc (zd 3) (zc (zd 0) zh))) (zc (zj zw (y8 (zc (mC (.int 0)) (zc (mC (.int 1)) (zc (mC (.int 2)) (zc (mC (.int 3)) (zc (mC (.int 1)) (zc (mC (.int 2)) (zc (mC (.int 6)) zh)))))))) (zp yz (zc (zd 1) (zc (mC (.int 7)) zh)))) zh)))))
def ze6:List PV->Mo PV:=yr 2 3 (zp4)
def zp5 (T:Txt w K mg):FOk P w K mg base "_law_heads" 3 ze6:=T.f__law_heads.ok (k:=2) ziz fun f cdv A outer s H E hr =>
  by
 refine zx ?_ ?_
 refine zO 2 ?_ ?_
 exact zD (yV T) (hr.mono (by decide)) zI (zf (zg 0) (zf zo zn))
 exact ziz.nd
 refine zJ ?_
 refine zV ?_
 refine zcD (N:=["_law_deck_here", "_law_many", "_law_cell"]) rfl (by exact ⟨rfl,by decide +kernel,by decide +kernel,rfl,by show ∀y:Str×NameKind,y∈_->y.2=NameKind.free->List.lookup y.1 (zT zeO).names=some NameKind.cell;decide +kernel⟩) rfl (by decide +kernel) ?_ ?_
 exact jC T.b_range (zf (zg 1) zn)
 intro _ _ _ _ _
 refine zL ?_
 refine zf (zD (jx T) (hr.mono (by decide)) zap (zf (zg 3) (zf (zg 0) zn))) ?_
 refine zf ?_ zn
 refine zN hr ?_ (zD (yV T) (hr.mono (by decide)) zap (zf (zg 1) (zf zo zn)))
 refine jm ?_
 refine zf zo ?_
 refine zf zo (zf zo (zf zo (zf zo (zf zo (zf zo zn)))))
def ze7:FnScope ["_law_k", "_law_some"] ["_law_k"] (zT zid):=⟨rfl,rfl,rfl,by decide +kernel,rfl,by decide +kernel,by decide +kernel⟩
def zp6:zk->Mo Fl :=
  zu (zC 1 (y8 (zdz ["add2", "sub2", "mul2", "div2", "rem2", "less2", "same2", "down1", "kind1", "front2", "head1", "rest1"]))) (zu (zC 1 (zj zZ (zd 1) (y8 (zdz ["many1", "item2", "put3", "field2", "set3"])))) (zS (zA (zc (wP (zj zw (zd 1) (zd 0)) pNone (pSome (ju wn (mC (.int 1))))) (zc (zp zcO (zc (zj zw (zj zw (zd 1) (zd 0)) (ju wn (mC (.int 1)))) zh)) zh)))))
def ze8:List PV->Mo PV:=yr 1 2 (zp6)
def zp7 (T:Txt w K mg):FOk P w K mg base "_law_op" 1 ze8:=T.f__law_op.ok (k:=0) ze7 fun f cdv A outer s H E hr =>
  by
 refine zx ?_ ?_
 refine zO 1 ?_ ?_
 refine jm ?_
 refine zey ?_
 decide +kernel
 exact ze7.nd
 refine zx ?_ ?_
 refine zO 1 ?_ ?_
 refine zF yG (zg 1) ?_
 refine jm ?_
 refine zey ?_
 decide +kernel
 exact ze7.nd
 refine zJ ?_
 refine zV ?_
 refine zL ?_
 refine zf ?_ (zf (yX zpz T.b_int zdw (zf (zN hr (zN hr (zg 1) (zg 0)) (zaL zaM zo)) zn)) zn)
 refine zbU ?_ ?_ ?_
 exact zN hr (zg 1) (zg 0)
 exact zbT
 exact za7 (zaL zaM zo)
def zb8:FnScope ["_law_deck_here", "_law_deep", "_law_way", "_law_record", "_law_k", "_law_word_here"] ["_law_deck_here", "_law_deep"] (zT zeP):=⟨rfl,rfl,rfl,by decide +kernel,rfl,by decide +kernel,by decide +kernel⟩
def ziA (mr:List PV->Mo PV):zk->Mo Fl :=
  zu (yd (w8 (mB (zj j5 (zd 1) (mC (.int 0)))) (mB (zj ye (zd 2) (mC (.int 7)))))
  (zu (zC 3 zew)
  (zu (yU (iRng1 (zc (zp yz (zc (zd 0) (zc (mC (.int 4)) zh))) zh)) (gN 4)
  (zu (zC 5 (zp zaT (zc (zd 0) zh)))
  (zbx (zd 3) (zd 5) (zp mr (zc (zd 0) (zc (zj jd (zd 1) (mC (.int 1))) zh))))))
  (zS (zd 3))))
  yg) (zS (zp zdO (zc (zd 0) zh)))
def ziB (mr:List PV->Mo PV):zk->Mo Fl :=
  zu (yd (w8 (mB (zj j5 (zd 1) (mC (.int 0)))) (j1 (mB (zj ye (zd 2) (mC (.int 5)))) (mB (zj ye (zd 2) (mC (.int 6))))))
  (zS (zp yL (zc (jh (iRng1 (zc (zp yz (zc (zd 0) (zc (mC (.int 4)) zh))) zh)) (zp mr (zc (zd 1) (zc (zj jd (zd 2) (mC (.int 1))) zh)))) zh)))
  yg) (ziA mr)
def ziC (mr:List PV->Mo PV):zk->Mo Fl :=
  zu (yd (j1 (mB (zj ye (zd 2) (mC (.int 3)))) (mB (zj ye (zd 2) (mC (.int 4)))))
  (zS (zp zaT (zc (zd 0) zh)))
  yg) (ziB mr)
def zdP (mr:List PV->Mo PV):zk->Mo Fl :=
  zu (zC 2 (zp yz (zc (zd 0) (zc (mC (.int 8)) zh)))) (ziC mr)
def ze9 (mr:List PV->Mo PV):List PV->Mo PV:=yr 2 6 (zdP mr)
def zp8 (T:Txt w K mg) {k:Nat} (hk:2<=k) {mr:List PV->Mo PV} (hmr:FOk P w K mg base "_law_value" k mr):FOk P w K mg base "_law_value" (k+1) (ze9 mr):=T.f__law_value.ok (k:=k+0) zb8 fun f cdv A outer s H E hr =>
  by
 refine zx ?_ ?_
 refine zO 2 ?_ ?_
 exact zD (yV T) (hr.mono (by omega)) zI (zf (zg 0) (zf zo zn))
 exact zb8.nd
 refine zx ?_ ?_
 refine yq (ww (zaK (yk (yB (yn hr)) (zg 2) zo) (zaJ (yk (yB (yn hr)) (zg 2) zo)))) (zJ (zV (zD (zcP T) (hr.mono (by omega)) zI (zf (zg 0) zn)))) yp
 refine zx ?_ ?_
 refine yq ?_ ?_ yp
 refine ww ?_
 refine zcs (yk za6 (zg 1) zo) (zcr (ww (zaK (yk (yB (yn hr)) (zg 2) zo) (zaJ (yk (yB (yn hr)) (zg 2) zo)))))
 refine zJ ?_
 refine zV ?_
 refine yX jn T.b_tuple jf ?_
 refine zf ?_ zn
 refine zdx (M:=["_law_deck_here", "_law_deep", "_law_way", "_law_record", "~_law_k", "_law_word_here"]) rfl (by exact ⟨rfl,by decide +kernel,by decide +kernel,rfl,by show ∀y:Str×NameKind,y∈_->y.2=NameKind.free->List.lookup y.1 (zT zeP).names=some NameKind.cell;decide +kernel⟩) (by exact ⟨rfl,by show ∀p∈List.zip (["_law_deck_here", "_law_deep", "_law_way", "_law_record", "~_law_k", "_law_word_here"]:List Str) (["_law_deck_here", "_law_deep", "_law_way", "_law_record", "_law_k", "_law_word_here"]:List Str),p.1=p.2\/p.1∉(_:List Str);decide +kernel⟩) (by decide +kernel) ?_ ?_
 exact jC T.b_range (zf (zD (yV T) (hr.mono (by omega)) zI (zf (zg 0) (zf zo zn))) zn)
 intro _ _ _ _ _
 exact zD hmr (hr.mono (by omega)) zap (zf (zg 1) (zf (zF wm (zg 2) zo) zn))
 refine zx ?_ (zJ (zV (zD (ziw T) (hr.mono (by omega)) zI (zf (zg 0) zn))))
 refine yq (ww (zcs (yk za6 (zg 1) zo) (zcr (yk (yB (yn hr)) (zg 2) zo)))) ?_ yp
 refine zx ?_ ?_
 refine zO 3 ?_ ?_
 exact zhb
 exact zb8.nd
 refine zx ?_ (zJ (zV (zg 3)))
 refine jL (jB rfl rfl) rfl ?_ ?_ ?_
 exact jC T.b_range (zf (zD (yV T) (hr.mono (by omega)) zI (zf (zg 0) (zf zo zn))) zn)
 exact (jS 4 zb8.nd)
 refine zx ?_ ?_
 refine zO 5 ?_ ?_
 exact zD (zcP T) (hr.mono (by omega)) zI (zf (zg 0) zn)
 exact zb8.nd
 refine zJ ?_
 refine zhg ?_ ?_ ?_ ?_ ?_
 exact (yn hr)
 exact (zg 3)
 exact (zg 5)
 exact zD hmr (hr.mono (by omega)) zI (zf (zg 0) (zf (zF wm (zg 1) zo) zn))
 rfl
def wA:Nat->List PV->Mo PV
 | 0=>yr 2 6 zbw
 | n+1=>ze9 (wA n)
def ziD (T:Txt w K mg):∀n,FOk P w K mg base "_law_value" (2+1+1*n) (wA n)
 | 0=>T.f__law_value.ok (k:=2) zb8 fun f cdv A outer s H E hr=>zb2
 | n+1=>(zp8 T (by omega) (ziD T n)).mono (by omega)
def zp9:FnScope ["_law_deck_here", "_law_scope"] ["_law_deck_here", "_law_scope"] (zT zie):=⟨rfl,rfl,rfl,by decide +kernel,rfl,by decide +kernel,by decide +kernel⟩
def zqa:zk->Mo Fl :=
  zu (yd (w8 (mB (zj j5 (zp yz (zc (zd 0) (zc (mC (.int 3)) zh))) (mC (.int 0)))) (mB (zj j5 (zp yE (zc (zd 1) zh)) (mC (.int 0)))))
  (zS (zA (zc (mC (.str "of")) (zc (zj zw (zd 1) (zp yz (zc (zd 0) (zc (zp yE (zc (zd 1) zh)) zh)))) zh))))
  yg) (zS (zA (zc (mC (.str "is")) (zc (zp (wA 5) (zc (zd 0) (zc (mC (.int 1)) zh))) zh))))
def zb9:List PV->Mo PV:=yr 2 2 (zqa)
def zfa (T:Txt w K mg):FOk P w K mg base "_law_atom" 9 zb9:=T.f__law_atom.ok (k:=8) zp9 fun f cdv A outer s H E hr =>
  by
 refine zx ?_ ?_
 refine yq ?_ ?_ yp
 refine ww ?_
 refine zcs (yk za6 (zD (yV T) (hr.mono (by decide)) zI (zf (zg 0) (zf zo zn))) zo) (zcr (yk za6 (yT jN T.b_len jM (zf (zg 1) zn)) zo))
 refine zJ ?_
 refine zV ?_
 refine zL ?_
 refine zf zY ?_
 refine zf (zN hr (zg 1) (zD (yV T) (hr.mono (by decide)) zI (zf (zg 0) (zf (yT jN T.b_len jM (zf (zg 1) zn)) zn)))) zn
 refine zJ (zV (zL (zf zY (zf (zD (ziD T 5) (hr.mono (by decide)) zI (zf (zg 0) (zf zo zn))) zn))))
def zqb:FnScope ["_law_deck_here", "_law_scope", "_law_many"] ["_law_deck_here", "_law_scope", "_law_many"] (zT zeQ):=⟨rfl,rfl,rfl,by decide +kernel,rfl,by decide +kernel,by decide +kernel⟩
def zqc:zk->Mo Fl :=
  (zS (zp yL (zc (jh (iRng1 (zc (zd 2) zh)) (zp zb9 (zc (zd 1) (zc (zd 2) zh)))) zh)))
def zcQ:List PV->Mo PV:=yr 3 3 (zqc)
def zfb (T:Txt w K mg):FOk P w K mg base "_law_atoms" 10 zcQ:=T.f__law_atoms.ok (k:=9) zqb fun f cdv A outer s H E hr =>
  by
 refine zJ ?_
 refine zV ?_
 refine yX jn T.b_tuple jf ?_
 refine zf ?_ zn
 refine zcD (N:=["_law_deck_here", "_law_scope", "_law_many"]) rfl (by exact ⟨rfl,by decide +kernel,by decide +kernel,rfl,by show ∀y:Str×NameKind,y∈_->y.2=NameKind.free->List.lookup y.1 (zT zeQ).names=some NameKind.cell;decide +kernel⟩) rfl (by decide +kernel) ?_ ?_
 exact jC T.b_range (zf (zg 2) zn)
 intro _ _ _ _ _
 exact zD (zfa T) (hr.mono (by decide)) zap (zf (zg 1) (zf (zg 2) zn))
def zdQ:FnScope ["_law_deck_here", "_law_heads_here", "_law_scope", "_law_name_here", "_law_way", "_law_word_here", "_law_many", "_law_aim"] ["_law_deck_here", "_law_heads_here", "_law_scope", "_law_name_here"] (zT zif):=⟨rfl,rfl,rfl,by decide +kernel,rfl,by decide +kernel,by decide +kernel⟩
def zqd:zk->Mo Fl :=
  zu (zC 4 (zp yz (zc (zd 0) (zc (mC (.int 22)) zh)))) (zu (yd (mB (zj oLt (zd 4) (mC (.int 17))))
  (zu (sTo (g2 5 6) (zp ze8 (zc (zd 4) zh)))
  (zS (zA (zc (mC (.str "let")) (zc (zd 3) (zc (zd 5) (zc (zp zcQ (zc (zd 0) (zc (zd 2) (zc (zd 6) zh)))) zh)))))))
  yg) (zu (sTo (g2 7 6) (zj zw (zd 1) (zp yz (zc (zd 0) (zc (zp yE (zc (zd 1) zh)) zh))))) (zS (zA (zc (mC (.str "call")) (zc (zd 3) (zc (zd 7) (zc (zp zcQ (zc (zd 0) (zc (zd 2) (zc (zd 6) zh)))) zh))))))))
def zcR:List PV->Mo PV:=yr 4 8 (zqd)
def zqe (T:Txt w K mg):FOk P w K mg base "_law_step" 11 zcR:=T.f__law_step.ok (k:=10) zdQ fun f cdv A outer s H E hr =>
  by
 refine zx ?_ ?_
 refine zO 4 ?_ ?_
 exact zD (yV T) (hr.mono (by decide)) zI (zf (zg 0) (zf zo zn))
 exact zdQ.nd
 refine zx ?_ ?_
 refine yq (yk zcv (zg 4) zo) ?_ yp
 refine zx ?_ ?_
 refine zcy ?_ ?_
 exact (zbW 5 6 rfl zdQ.nd)
 exact zD (zp7 T) (hr.mono (by decide)) zI (zf (zg 4) zn)
 refine zJ ?_
 refine zV ?_
 refine zL ?_
 refine zf zY ?_
 refine zf (zg 3) (zf (zg 5) (zf (zD (zfb T) (hr.mono (by decide)) zI (zf (zg 0) (zf (zg 2) (zf (zg 6) zn)))) zn))
 refine zx ?_ ?_
 refine zcy ?_ ?_
 exact (zbW 7 6 rfl zdQ.nd)
 exact zN hr (zg 1) (zD (yV T) (hr.mono (by decide)) zI (zf (zg 0) (zf (yT jN T.b_len jM (zf (zg 1) zn)) zn)))
 refine zJ ?_
 refine zV ?_
 refine zL ?_
 refine zf zY ?_
 refine zf (zg 3) (zf (zg 7) (zf (zD (zfb T) (hr.mono (by decide)) zI (zf (zg 0) (zf (zg 2) (zf (zg 6) zn)))) zn))
def zab:FnScope ["_law_deck_here", "_law_heads_here", "_law_scope", "_law_used", "_law_cell", "_law_deep", "_law_steps", "_law_turn", "_law_name_here", "_law_way", "_law_atom_here", "_law_first", "_law_second", "_law_aim", "_law_many"] ["_law_deck_here", "_law_heads_here", "_law_scope", "_law_used", "_law_cell", "_law_deep"] (zT zig):=⟨rfl,rfl,rfl,by decide +kernel,rfl,by decide +kernel,by decide +kernel⟩
def ziE (mr:List PV->Mo PV):zk->Mo Fl :=
  zu (yd (mB (zj ye (zd 9) (mC (.int 1))))
  (zS (zA (zc (zp yL (zc (zd 6) zh)) (zc (zA (zc (mC (.str "fail")) (zc (zp zaT (zc (zd 0) zh)) zh))) zh))))
  yg) (zu (yd (mB (zj ye (zd 9) (mC (.int 2))))
  (zu (sTo (g2 13 14) (zj zw (zd 1) (zp yz (zc (zd 0) (zc (zp yE (zc (zd 1) zh)) zh)))))
  (zS (zA (zc (zp yL (zc (zd 6) zh)) (zc (zA (zc (mC (.str "go")) (zc (zd 13) (zc (zp zcQ (zc (zd 0) (zc (zd 2) (zc (zd 14) zh)))) zh)))) zh)))))
  yg) (zS (zA (zc (zp yL (zc (zd 6) zh)) (zc (zA (zc (mC (.str "give")) (zc (zp zb9 (zc (zd 0) (zc (zd 2) zh))) zh))) zh)))))
def zfc (mr:List PV->Mo PV):zk->Mo Fl :=
  zu (yd (w8 (mB (zj j5 (zd 9) (mC (.int 3)))) (mB (zj oLt (zd 5) (mC (.int 3)))))
  (zu (zC 10 (zp zb9 (zc (zd 0) (zc (zd 2) zh))))
  (zu (zC 11 (zp mr (zc (zd 0) (zc (zd 1) (zc (zd 2) (zc (zd 3) (zc (zd 4) (zc (zj zZ (zd 5) (mC (.int 1))) zh))))))))
  (zu (zC 12 (zp mr (zc (zd 0) (zc (zd 1) (zc (zd 2) (zc (zd 3) (zc (zd 4) (zc (zj zZ (zd 5) (mC (.int 1))) zh))))))))
  (zS (zA (zc (zp yL (zc (zd 6) zh)) (zc (zA (zc (mC (.str "if")) (zc (zd 10) (zc (zd 11) (zc (zd 12) zh))))) zh)))))))
  yg) (ziE mr)
def ziF (mr:List PV->Mo PV):zk->Mo Fl :=
  zu (zC 2 (zp jY (zc (zd 2) zh))) (zu (zC 6 (y8 zh)) (zu (yU (iRng1 (zc (zp yz (zc (zd 0) (zc (mC (.int 4)) zh))) zh)) (gN 7)
  (zu (zC 8 (zp yN (zc (zd 4) (zc (zp yE (zc (zd 3) zh)) zh))))
  (zu (yH (yC yM (zd 6) (zp zcR (zc (zd 0) (zc (zd 1) (zc (zd 2) (zc (zd 8) zh)))))))
  (zu (yH (yC yM (zd 3) (zd 8)))
  (yH (yC yM (zd 2) (zd 8))))))) (zu (zC 9 (zp yz (zc (zd 0) (zc (mC (.int 6)) zh)))) (zfc mr))))
def zfd (mr:List PV->Mo PV):List PV->Mo PV:=yr 6 15 (ziF mr)
def zqf (T:Txt w K mg) {k:Nat} (hk:11<=k) {mr:List PV->Mo PV} (hmr:FOk P w K mg base "_law_block" k mr):FOk P w K mg base "_law_block" (k+1) (zfd mr):=T.f__law_block.ok (k:=k+0) zab fun f cdv A outer s H E hr =>
  by
 refine zx ?_ ?_
 refine zO 2 ?_ ?_
 exact yX (zcG rfl) T.b_list zcA (zf (zg 2) zn)
 exact zab.nd
 refine zx ?_ ?_
 refine zO 6 ?_ ?_
 exact jm zn
 exact zab.nd
 refine zx ?_ ?_
 refine jL (jB rfl rfl) rfl ?_ ?_ ?_
 exact jC T.b_range (zf (zD (yV T) (hr.mono (by omega)) zI (zf (zg 0) (zf zo zn))) zn)
 exact (jS 7 zab.nd)
 refine zx ?_ ?_
 refine zO 8 ?_ ?_
 exact zD (jx T) (hr.mono (by omega)) zI (zf (zg 4) (zf (yT jN T.b_len jM (zf (zg 3) zn)) zn))
 exact zab.nd
 refine zx ?_ ?_
 refine jR (j2 (zg 6) (zD (zqe T) (hr.mono (by omega)) zI (zf (zg 0) (zf (zg 1) (zf (zg 2) (zf (zg 8) zn))))))
 refine zx (jR (j2 (zg 3) (zg 8))) (zJ (jR (j2 (zg 2) (zg 8))))
 refine zx ?_ ?_
 refine zO 9 ?_ ?_
 exact zD (yV T) (hr.mono (by omega)) zI (zf (zg 0) (zf zo zn))
 exact zab.nd
 refine zx ?_ ?_
 refine yq (ww (zcs (yk za6 (zg 9) zo) (zcr (yk zcv (zg 5) zo)))) ?_ yp
 refine zx ?_ ?_
 refine zO 10 ?_ ?_
 exact zD (zfa T) (hr.mono (by omega)) zI (zf (zg 0) (zf (zg 2) zn))
 exact zab.nd
 refine zx ?_ ?_
 refine zO 11 ?_ ?_
 refine zD hmr (hr.mono (by omega)) zI ?_
 refine zf (zg 0) ?_
 refine zf (zg 1) (zf (zg 2) (zf (zg 3) (zf (zg 4) (zf (zF yG (zg 5) zo) zn))))
 exact zab.nd
 refine zx ?_ ?_
 refine zO 12 ?_ ?_
 refine zD hmr (hr.mono (by omega)) zI ?_
 refine zf (zg 0) ?_
 refine zf (zg 1) (zf (zg 2) (zf (zg 3) (zf (zg 4) (zf (zF yG (zg 5) zo) zn))))
 exact zab.nd
 refine zJ ?_
 refine zV ?_
 refine zL ?_
 refine zf (yX jn T.b_tuple jf (zf (zg 6) zn)) (zf (zL (zf zY (zf (zg 10) (zf (zg 11) (zf (zg 12) zn))))) zn)
 refine zx ?_ ?_
 refine yq (yk (yB (yn hr)) (zg 9) zo) ?_ yp
 refine zJ ?_
 refine zV ?_
 refine zL ?_
 refine zf (yX jn T.b_tuple jf (zf (zg 6) zn)) (zf (zL (zf zY (zf (zD (zcP T) (hr.mono (by omega)) zI (zf (zg 0) zn)) zn))) zn)
 refine zx ?_ ?_
 refine yq (yk (yB (yn hr)) (zg 9) zo) ?_ yp
 refine zx ?_ ?_
 refine zcy ?_ ?_
 exact (zbW 13 14 rfl zab.nd)
 exact zN hr (zg 1) (zD (yV T) (hr.mono (by omega)) zI (zf (zg 0) (zf (yT jN T.b_len jM (zf (zg 1) zn)) zn)))
 refine zJ ?_
 refine zV ?_
 refine zL ?_
 refine zf (yX jn T.b_tuple jf (zf (zg 6) zn)) ?_
 refine zf ?_ zn
 refine zL ?_
 refine zf zY (zf (zg 13) (zf (zD (zfb T) (hr.mono (by omega)) zI (zf (zg 0) (zf (zg 2) (zf (zg 14) zn)))) zn))
 refine zJ ?_
 refine zV ?_
 refine zL ?_
 refine zf (yX jn T.b_tuple jf (zf (zg 6) zn)) ?_
 refine zf (zL (zf zY (zf (zD (zfa T) (hr.mono (by omega)) zI (zf (zg 0) (zf (zg 2) zn))) zn))) zn
def wa:Nat->List PV->Mo PV
 | 0=>yr 6 15 zbw
 | n+1=>zfd (wa n)
def ziG (T:Txt w K mg):∀n,FOk P w K mg base "_law_block" (11+1+1*n) (wa n)
 | 0=>T.f__law_block.ok (k:=11) zab fun f cdv A outer s H E hr=>zb2
 | n+1=>(zqf T (by omega) (ziG T n)).mono (by omega)
def zbC:FnScope ["_law_deck_here", "_law_heads_here", "_law_program_here", "_law_name_here", "_law_many", "_law_cell", "_law_used", "_law_params"] ["_law_deck_here"] (zT zeR):=⟨rfl,rfl,rfl,by decide +kernel,rfl,by decide +kernel,by decide +kernel⟩
def zqg:zk->Mo Fl :=
  zu (zC 1 (zp ze6 (zc (zd 0) (zc (zj zZ (mC (.int 1)) (zp yz (zc (zd 0) (zc (mC (.int 4)) zh)))) zh)))) (zu (zC 2 (y8 zh)) (zu (yU (yO (zd 1)) (g2 3 4)
  (zu (zC 5 (zp yz (zc (zd 0) (zc (mC (.int 1000000007)) zh))))
  (zu (zC 6 (jh (iRng1 (zc (zd 4) zh)) (zp yN (zc (zd 6) (zc (zd 0) zh)))))
  (zu (zC 7 (zp yL (zc (zd 6) zh)))
  (yH (yC yM (zd 2) (zA (zc (zd 3) (zc (zd 7) (zc (zp (wa 6) (zc (zd 0) (zc (zd 1) (zc (zd 7) (zc (zd 6) (zc (zd 5) (zc (mC (.int 0)) zh))))))) zh)))))))))) (zS (zp yL (zc (zd 2) zh)))))
def zfe:List PV->Mo PV:=yr 1 8 (zqg)
def zqh (T:Txt w K mg):FOk P w K mg base "_law_program" 19 zfe:=T.f__law_program.ok (k:=18) zbC fun f cdv A outer s H E hr =>
  by
 refine zx ?_ ?_
 refine zO 1 ?_ ?_
 refine zD (zp5 T) (hr.mono (by decide)) zI (zf (zg 0) (zf (zF yG zo (zD (yV T) (hr.mono (by decide)) zI (zf (zg 0) (zf zo zn)))) zn))
 exact zbC.nd
 refine zx ?_ ?_
 refine zO 2 ?_ ?_
 exact jm zn
 exact zbC.nd
 refine zx ?_ (zJ (zV (yX jn T.b_tuple jf (zf (zg 2) zn))))
 refine jL (jB rfl rfl) rfl ?_ ?_ ?_
 exact j6 (zg 1)
 exact (zbW 3 4 rfl zbC.nd)
 refine zx ?_ ?_
 refine zO 5 ?_ ?_
 exact zD (yV T) (hr.mono (by decide)) zI (zf (zg 0) (zf zo zn))
 exact zbC.nd
 refine zx ?_ ?_
 refine zdB 6 (N:=["_law_deck_here", "_law_heads_here", "_law_program_here", "_law_name_here", "_law_many", "_law_cell", "_law_used", "_law_params"]) rfl (by exact ⟨rfl,by decide +kernel,by decide +kernel,rfl,by show ∀y:Str×NameKind,y∈_->y.2=NameKind.free->List.lookup y.1 (zT zeR).names=some NameKind.cell;decide +kernel⟩) rfl (by decide +kernel) ?_ ?_ zbC.nd rfl (by first|exact Or.inl rfl|exact Or.inr rfl) (by first|exact .inl rfl|exact .inr rfl|assumption) (by rfl)
 exact jC T.b_range (zf (zg 4) zn)
 intro _ _ _ _ _
 exact zD (jx T) (hr.mono (by decide)) zap (zf (zg 6) (zf (zg 0) zn))
 refine zx ?_ ?_
 refine zO 7 ?_ ?_
 exact yX jn T.b_tuple jf (zf (zg 6) zn)
 exact zbC.nd
 refine zJ ?_
 refine jR ?_
 refine j2 (zg 2) ?_
 refine zL ?_
 refine zf (zg 3) ?_
 refine zf (zg 7) ?_
 refine zf ?_ zn
 refine zD (ziG T 6) (hr.mono (by decide)) zI ?_
 refine zf (zg 0) (zf (zg 1) (zf (zg 7) (zf (zg 6) (zf (zg 5) (zf zo zn)))))
def ziH:FnScope ["_law_deck_here", "_law_way"] ["_law_deck_here"] (zT zih):=⟨rfl,rfl,rfl,by decide +kernel,rfl,by decide +kernel,by decide +kernel⟩
def ziI:zk->Mo Fl :=
  zu (yd (j1 (mB (zj ye (zd 1) (mC (.int 5)))) (mB (zj ye (zd 1) (mC (.int 6)))))
  (zS (zp ze5 (zc (zd 0) (zc (zj zZ (mC (.int 54)) (zd 1)) zh))))
  yg) (zS (zp zfe (zc (zd 0) zh)))
def zff:zk->Mo Fl :=
  zu (yd (mB (zj ye (zd 1) (mC (.int 1))))
  (zS (zp zeZ (zc (zd 0) zh)))
  yg) (zu (yd (mB (zj ye (zd 1) (mC (.int 2))))
  (zS (zp ze0 (zc (zd 0) zh)))
  yg) (zu (yd (mB (zj ye (zd 1) (mC (.int 3))))
  (zS (zp ze1 (zc (zd 0) zh)))
  yg) (zu (yd (mB (zj ye (zd 1) (mC (.int 4))))
  (zS (zp ze2 (zc (zd 0) zh)))
  yg) (ziI))))
def zqi:zk->Mo Fl :=
  zu (zC 1 (zp yz (zc (zd 0) (zc (mC (.int 12)) zh)))) (zff)
def zcS:List PV->Mo PV:=yr 1 2 (zqi)
def ziJ (T:Txt w K mg):FOk P w K mg base "_law_any_program" 20 zcS:=T.f__law_any_program.ok (k:=19) ziH fun f cdv A outer s H E hr =>
  by
 refine zx ?_ ?_
 refine zO 1 ?_ ?_
 exact zD (yV T) (hr.mono (by decide)) zI (zf (zg 0) (zf zo zn))
 exact ziH.nd
 refine zx ?_ ?_
 refine yq (yk (yB (yn hr)) (zg 1) zo) (zJ (zV (zD (zpQ T) (hr.mono (by decide)) zI (zf (zg 0) zn)))) yp
 refine zx ?_ ?_
 refine yq (yk (yB (yn hr)) (zg 1) zo) (zJ (zV (zD (zpT T) (hr.mono (by decide)) zI (zf (zg 0) zn)))) yp
 refine zx ?_ ?_
 refine yq (yk (yB (yn hr)) (zg 1) zo) (zJ (zV (zD (zpV T) (hr.mono (by decide)) zI (zf (zg 0) zn)))) yp
 refine zx ?_ ?_
 refine yq (yk (yB (yn hr)) (zg 1) zo) (zJ (zV (zD (zp0 T) (hr.mono (by decide)) zI (zf (zg 0) zn)))) yp
 refine zx ?_ (zJ (zV (zD (zqh T) (hr.mono (by decide)) zI (zf (zg 0) zn))))
 refine yq (ww (zaK (yk (yB (yn hr)) (zg 1) zo) (zaJ (yk (yB (yn hr)) (zg 1) zo)))) (zJ (zV (zD (zp3 T) (hr.mono (by decide)) zI (zf (zg 0) (zf (zF yG zo (zg 1)) zn))))) yp
def zbD:FnScope ["_law_block_here", "_law_rows", "_law_deepest", "_law_waiting", "_law_deep"] ["_law_block_here"] (zT zii):=⟨rfl,rfl,rfl,by decide +kernel,rfl,by decide +kernel,by decide +kernel⟩
def zqj:zk->Mo Fl :=
  zu (zC 1 (y8 zh)) (zu (zC 2 (mC (.int 0))) (zu (zC 3 (y8 (zc (zA (zc (zd 0) (zc (mC (.int 0)) zh))) zh))) (zu (zgZ (mB (zj j5 (zp yE (zc (zd 3) zh)) (mC (.int 0))))
  (zu (sTo (g2 0 4) (ju zby (zd 3)))
  (zu (zC 2 (zp zaR (zc (zd 2) (zc (zd 4) zh))))
  (zu (zC 1 (zj zZ (zj zZ (zd 1) (zp jY (zc (zj zw (zd 0) (mC (.int 0))) zh))) (y8 (zc (zj zw (zd 0) (mC (.int 1))) zh))))
  (yd (mB (zj ye (zj zw (zj zw (zd 0) (mC (.int 1))) (mC (.int 0))) (mC (.str "if"))))
  (zu (yH (yC yM (zd 3) (zA (zc (zj zw (zj zw (zd 0) (mC (.int 1))) (mC (.int 3))) (zc (zj zZ (zd 4) (mC (.int 1))) zh)))))
  (yH (yC yM (zd 3) (zA (zc (zj zw (zj zw (zd 0) (mC (.int 1))) (mC (.int 2))) (zc (zj zZ (zd 4) (mC (.int 1))) zh))))))
  yg))))) (zS (zA (zc (zd 1) (zc (zd 2) zh)))))))
def zbE:List PV->Mo PV:=yr 1 5 (zqj)
def zfg (T:Txt w K mg):FOk P w K mg base "_law_lines" 1 zbE:=T.f__law_lines.ok (k:=0) zbD fun f cdv A outer s H E hr =>
  by
 refine zx ?_ ?_
 refine zO 1 ?_ ?_
 exact jm zn
 exact zbD.nd
 refine zx ?_ ?_
 refine zO 2 ?_ ?_
 exact zo
 exact zbD.nd
 refine zx ?_ ?_
 refine zO 3 ?_ ?_
 exact jm (zf (zL (zf (zg 0) (zf zo zn))) zn)
 exact zbD.nd
 refine zx ?_ (zJ (zV (zL (zf (zg 1) (zf (zg 2) zn)))))
 refine znS (jB rfl rfl) ?_ ?_
 exact yk za6 (yT jN T.b_len jM (zf (zg 3) zn)) zo
 refine zx ?_ ?_
 refine zcy ?_ ?_
 exact (zbW 0 4 rfl zbD.nd)
 exact zhl (zg 3)
 refine zx ?_ ?_
 refine zO 2 ?_ ?_
 exact yT (zeD rfl) T.b_max zeE (zf (zg 2) (zf (zg 4) zn))
 exact zbD.nd
 refine zx ?_ ?_
 refine zO 1 ?_ ?_
 refine zF yG (zF yG (zg 1) (yX (zcG rfl) T.b_list zcA (zf (zN hr (zg 0) zo) zn))) (jm (zf (zN hr (zg 0) zo) zn))
 exact zbD.nd
 refine zJ ?_
 refine yq (yk (yB (yn hr)) (zN hr (zN hr (zg 0) zo) zo) zY) ?_ yp
 refine zx ?_ ?_
 refine jR ?_
 refine j2 (zg 3) (zL (zf (zN hr (zN hr (zg 0) zo) zo) (zf (zF yG (zg 4) zo) zn)))
 refine zJ ?_
 refine jR ?_
 refine j2 (zg 3) (zL (zf (zN hr (zN hr (zg 0) zo) zo) (zf (zF yG (zg 4) zo) zn)))
def ziK:FnScope ["_law_found", "_law_due"] ["_law_found", "_law_due"] (zT zdK):=⟨rfl,rfl,rfl,by decide +kernel,rfl,by decide +kernel,by decide +kernel⟩
def ziL (mr:List PV->Mo PV):zk->Mo Fl :=
  zu (yd (mB (zp (wy isT) (zc (zd 1) (zc (mC (.ty "str")) zh))))
  (zS (zam (zp (wy isT) (zc (zd 0) (zc (mC (.ty "str")) zh))) (zj wQ (zd 0) (zd 1))))
  yg) (zu (yd (mB (zp (wy isT) (zc (zd 1) (zc (mC (.ty "tuple")) zh))))
  (zu (yd (j1 (wg (mB (zp (wy isT) (zc (zd 0) (zc (mC (.ty "tuple")) zh))))) (mB (zj oNe (zp yE (zc (zd 0) zh)) (zp yE (zc (zd 1) zh)))))
  (zS (mC (.bl false)))
  yg)
  (zS (zp zcJ (zc (zeH (zet (zc (zd 0) (zc (zd 1) zh))) (zp mr (zc (zd 0) (zc (zd 1) zh)))) zh))))
  yg) (zu (yd (j1 (wg (mB (zp (wy isT) (zc (zd 0) (zc (mC (.ty "dict")) zh))))) (mB (zj oNe (zp yE (zc (zd 0) zh)) (zp yE (zc (zd 1) zh)))))
  (zS (mC (.bl false)))
  yg) (zS (zp zcJ (zc (zeG (zd 1) (zam (zj (zar false) (zd 0) (zd 1)) (zp mr (zc (zj wI (zd 1) (zd 0)) (zc (zj wI (zd 2) (zd 0)) zh))))) zh)))))
def zfh (mr:List PV->Mo PV):zk->Mo Fl :=
  zu (yd (mB (zp (wy isT) (zc (zd 1) (zc (mC (.ty "int")) zh))))
  (zS (zam (zp (wy isT) (zc (zd 0) (zc (mC (.ty "int")) zh))) (zam (zem (zp (wy isT) (zc (zd 0) (zc (mC (.ty "bool")) zh)))) (zj wQ (zd 0) (zd 1)))))
  yg) (ziL mr)
def zbi (mr:List PV->Mo PV):List PV->Mo PV:=yr 2 2 (zfh mr)
def zqk (T:Txt w K mg) {k:Nat} (hk:1<=k) {mr:List PV->Mo PV} (hmr:FOk P w K mg base "_law_alike" k mr):FOk P w K mg base "_law_alike" (k+1) (zbi mr):=T.f__law_alike.ok (k:=k+0) ziK fun f cdv A outer s H E hr =>
  by
 refine zx ?_ ?_
 refine yq ?_ ?_ yp
 refine wF ?_
 refine yT (za9 T.is) T.b_isinstance zba ?_
 refine zf (zg 1) ?_
 refine zf ?_ zn
 exact (za8 T.b_int zdw)
 refine zJ ?_
 refine zV ?_
 refine zbR ?_ ?_
 refine yT (za9 T.is) T.b_isinstance zba ?_
 refine zf (zg 0) ?_
 refine zf ?_ zn
 exact (za8 T.b_int zdw)
 refine zbR ?_ ?_
 refine zni ?_
 refine yT (za9 T.is) T.b_isinstance zba ?_
 refine zf (zg 0) ?_
 refine zf ?_ zn
 exact (za8 T.b_bool znV)
 refine zct ?_
 exact zcu (zeF (yn hr)) (zg 0) (zg 1)
 refine zx ?_ ?_
 refine yq ?_ ?_ yp
 refine wF ?_
 refine yT (za9 T.is) T.b_isinstance zba ?_
 refine zf (zg 1) ?_
 refine zf ?_ zn
 exact (za8 T.b_str zev)
 refine zJ ?_
 refine zV ?_
 refine zbR ?_ ?_
 refine yT (za9 T.is) T.b_isinstance zba ?_
 refine zf (zg 0) ?_
 refine zf ?_ zn
 exact (za8 T.b_str zev)
 refine zct ?_
 exact zcu (zeF (yn hr)) (zg 0) (zg 1)
 refine zx ?_ ?_
 refine yq ?_ ?_ yp
 refine wF ?_
 refine yT (za9 T.is) T.b_isinstance zba ?_
 refine zf (zg 1) ?_
 refine zf ?_ zn
 exact (za8 T.b_tuple jf)
 refine zx ?_ ?_
 refine yq ?_ ?_ yp
 refine ww ?_
 refine zaK ?_ (zaJ (yk (zgV (yn hr)) (yT jN T.b_len jM (zf (zg 0) zn)) (yT jN T.b_len jM (zf (zg 1) zn))))
 refine za5 ?_
 refine wF ?_
 refine yT (za9 T.is) T.b_isinstance zba ?_
 refine zf (zg 0) ?_
 refine zf ?_ zn
 exact (za8 T.b_tuple jf)
 refine zJ ?_
 refine zV ?_
 exact zbQ
 refine zJ ?_
 refine zV ?_
 refine yT (zhM rfl) T.b_all zhN ?_
 refine zf ?_ zn
 refine zpi (N:=["_law_found", "_law_due"]) rfl (by exact ⟨rfl,by decide +kernel,by decide +kernel,by show ∀y:Str×NameKind,y∈_->y.2=NameKind.free->List.lookup y.1 (zT zdK).names=some NameKind.cell;decide +kernel⟩) rfl (by decide +kernel) ?_ ?_
 refine znR T.b_zip ?_
 exact zf (zg 0) (zf (zg 1) zn)
 intro _ _ _ _ _
 exact zD hmr (hr.mono (by omega)) zap (zf (zg 0) (zf (zg 1) zn))
 refine zx ?_ ?_
 refine yq ?_ ?_ yp
 refine ww ?_
 refine zaK ?_ (zaJ (yk (zgV (yn hr)) (yT jN T.b_len jM (zf (zg 0) zn)) (yT jN T.b_len jM (zf (zg 1) zn))))
 refine za5 ?_
 refine wF ?_
 refine yT (za9 T.is) T.b_isinstance zba ?_
 refine zf (zg 0) ?_
 refine zf ?_ zn
 exact (za8 T.b_dict znW)
 refine zJ ?_
 refine zV ?_
 exact zbQ
 refine zJ ?_
 refine zV ?_
 refine yT (zhM rfl) T.b_all zhN ?_
 refine zf ?_ zn
 refine zpf (N:=["_law_found", "_law_due"]) rfl (by exact ⟨rfl,by decide +kernel,by decide +kernel,rfl,by show ∀y:Str×NameKind,y∈_->y.2=NameKind.free->List.lookup y.1 (zT zdK).names=some NameKind.cell;decide +kernel⟩) rfl (by decide +kernel) ?_ ?_
 exact (zg 1)
 intro _ _ _ _ _
 refine zbR ?_ ?_
 exact zcu (zpt (yn hr)) (zg 0) (zg 1)
 refine zct ?_
 refine zD hmr (hr.mono (by omega)) zap ?_
 refine zf ?_ ?_
 refine zen ?_ ?_ ?_ ?_
 exact (zhJ (yn hr))
 exact (zg 1)
 exact (zg 0)
 exact fun _ _=>rfl
 refine zf ?_ zn
 refine zen ?_ ?_ ?_ ?_
 exact (zhJ (yn hr))
 exact (zg 2)
 exact (zg 0)
 exact fun _ _=>rfl
def jW:Nat->List PV->Mo PV
 | 0=>yr 2 2 zbw
 | n+1=>zbi (jW n)
def zaw (T:Txt w K mg):∀n,FOk P w K mg base "_law_alike" (1+1+1*n) (jW n)
 | 0=>T.f__law_alike.ok (k:=1) ziK fun f cdv A outer s H E hr=>zb2
 | n+1=>(zqk T (by omega) (zaw T n)).mono (by omega)
def zdR:FnScope ["block", "end", "lines"] ["block"] (zT zij):=⟨rfl,rfl,rfl,by decide +kernel,rfl,by decide +kernel,by decide +kernel⟩
def zql (mr:List PV->Mo PV):zk->Mo Fl :=
  zu (zC 1 (zj zw (zd 0) (mC (.int 1)))) (zu (zC 2 (zj zZ (zj zw (zd 0) (mC (.int 0))) (zA (zc (zd 1) zh)))) (zu (yd (mB (zj ye (zj zw (zd 1) (mC (.int 0))) (mC (.str "if"))))
  (zS (zj zZ (zj zZ (zd 2) (zp mr (zc (zj zw (zd 1) (mC (.int 2))) zh))) (zp mr (zc (zj zw (zd 1) (mC (.int 3))) zh))))
  yg) (zS (zd 2))))
def zfi (mr:List PV->Mo PV):List PV->Mo PV:=yr 1 3 (zql mr)
def zqm (T:Txt w K mg) {k:Nat} (hk:1<=k) {mr:List PV->Mo PV} (hmr:FOk P w K mg base "lines_of" k mr):FOk P w K mg base "lines_of" (k+1) (zfi mr):=T.f_lines_of.ok (k:=k+0) zdR fun f cdv A outer s H E hr =>
  by
 refine zx ?_ ?_
 refine zO 1 ?_ ?_
 exact zN hr (zg 0) zo
 exact zdR.nd
 refine zx ?_ ?_
 refine zO 2 ?_ ?_
 exact zF yG (zN hr (zg 0) zo) (zL (zf (zg 1) zn))
 exact zdR.nd
 refine zx ?_ (zJ (zV (zg 2)))
 refine yq (yk (yB (yn hr)) (zN hr (zg 1) zo) zY) ?_ yp
 refine zJ ?_
 refine zV ?_
 refine zF yG (zF yG (zg 2) (zD hmr (hr.mono (by omega)) zI (zf (zN hr (zg 1) zo) zn))) (zD hmr (hr.mono (by omega)) zI (zf (zN hr (zg 1) zo) zn))
def wS:Nat->List PV->Mo PV
 | 0=>yr 1 3 zbw
 | n+1=>zfi (wS n)
def zcT (T:Txt w K mg):∀n,FOk P w K mg base "lines_of" (1+1+1*n) (wS n)
 | 0=>T.f_lines_of.ok (k:=1) zdR fun f cdv A outer s H E hr=>zb2
 | n+1=>(zqm T (by omega) (zcT T n)).mono (by omega)
def zfj:FnScope ["block", "end"] ["block"] (zT zik):=⟨rfl,rfl,rfl,by decide +kernel,rfl,by decide +kernel,by decide +kernel⟩
def zqn (mr:List PV->Mo PV):zk->Mo Fl :=
  zu (zC 1 (zj zw (zd 0) (mC (.int 1)))) (zu (yd (mB (zj ye (zj zw (zd 1) (mC (.int 0))) (mC (.str "if"))))
  (zS (zj zZ (mC (.int 1)) (zp zaR (zc (zp mr (zc (zj zw (zd 1) (mC (.int 2))) zh)) (zc (zp mr (zc (zj zw (zd 1) (mC (.int 3))) zh)) zh)))))
  yg) (zS (mC (.int 0))))
def zfk (mr:List PV->Mo PV):List PV->Mo PV:=yr 1 2 (zqn mr)
def zqo (T:Txt w K mg) {k:Nat} (hk:1<=k) {mr:List PV->Mo PV} (hmr:FOk P w K mg base "depth_of" k mr):FOk P w K mg base "depth_of" (k+1) (zfk mr):=T.f_depth_of.ok (k:=k+0) zfj fun f cdv A outer s H E hr =>
  by
 refine zx ?_ ?_
 refine zO 1 ?_ ?_
 exact zN hr (zg 0) zo
 exact zfj.nd
 refine zx ?_ (zJ (zV zo))
 refine yq (yk (yB (yn hr)) (zN hr (zg 1) zo) zY) ?_ yp
 refine zJ ?_
 refine zV ?_
 refine zF yG zo ?_
 refine yT (zeD rfl) T.b_max zeE ?_
 refine zf (zD hmr (hr.mono (by omega)) zI (zf (zN hr (zg 1) zo) zn)) (zf (zD hmr (hr.mono (by omega)) zI (zf (zN hr (zg 1) zo) zn)) zn)
def zcU:Nat->List PV->Mo PV
 | 0=>yr 1 2 zbw
 | n+1=>zfk (zcU n)
def ziM (T:Txt w K mg):∀n,FOk P w K mg base "depth_of" (1+1+1*n) (zcU n)
 | 0=>T.f_depth_of.ok (k:=1) zfj fun f cdv A outer s H E hr=>zb2
 | n+1=>(zqo T (by omega) (ziM T n)).mono (by omega)
def zqp:FnScope ["line"] ["line"] (zT zil):=⟨rfl,rfl,rfl,by decide +kernel,rfl,by decide +kernel,by decide +kernel⟩
def zqq:zk->Mo Fl :=
  zu (yd (mB (zj ye (zj zw (zd 0) (mC (.int 0))) (mC (.str "call"))))
  (zS (zA (zc (zj zw (zd 0) (mC (.int 2))) (zc (zj zw (zd 0) (mC (.int 3))) zh))))
  yg) (zu (yd (mB (zj ye (zj zw (zd 0) (mC (.int 0))) (mC (.str "go"))))
  (zS (zA (zc (zj zw (zd 0) (mC (.int 1))) (zc (zj zw (zd 0) (mC (.int 2))) zh))))
  yg) (zS (mC .non)))
def zdS:List PV->Mo PV:=yr 1 1 (zqq)
def zqr (T:Txt w K mg):FOk P w K mg base "aim_of" 1 zdS:=T.f_aim_of.ok (k:=0) zqp fun f cdv A outer s H E hr =>
  by
 refine zx ?_ ?_
 refine yq (yk (yB (yn hr)) (zN hr (zg 0) zo) zY) (zJ (zV (zL (zf (zN hr (zg 0) zo) (zf (zN hr (zg 0) zo) zn))))) yp
 refine zx ?_ ?_
 refine yq (yk (yB (yn hr)) (zN hr (zg 0) zo) zY) (zJ (zV (zL (zf (zN hr (zg 0) zo) (zf (zN hr (zg 0) zo) zn))))) yp
 refine zJ ?_
 refine zV ?_
 exact zel
def ziN:FnScope ["block", "aims"] ["block"] (zT zdL):=⟨rfl,rfl,rfl,by decide +kernel,rfl,by decide +kernel,by decide +kernel⟩
def zqs:zk->Mo Fl :=
  zu (zC 1 (jh (yO (zp (wS 12) (zc (zd 0) zh))) (zp zdS (zc (zd 0) zh)))) (zS (zp yL (zc (wR (yO (zd 1)) (mB (zj zb1 (zd 0) (mC .non))) (zd 0)) zh)))
def zdT:List PV->Mo PV:=yr 1 2 (zqs)
def ziO (T:Txt w K mg):FOk P w K mg base "aims_of" 15 zdT:=T.f_aims_of.ok (k:=14) ziN fun f cdv A outer s H E hr =>
  by
 refine zx ?_ ?_
 refine zdB 1 (N:=["block", "aims"]) rfl (by exact ⟨rfl,by decide +kernel,by decide +kernel,rfl,by show ∀y:Str×NameKind,y∈_->y.2=NameKind.free->List.lookup y.1 (zT zdL).names=some NameKind.cell;decide +kernel⟩) rfl (by decide +kernel) ?_ ?_ ziN.nd rfl (by first|exact Or.inl rfl|exact Or.inr rfl) (by first|exact .inl rfl|exact .inr rfl|assumption) (by rfl)
 exact j6 (zD (zcT T 12) (hr.mono (by decide)) zI (zf (zg 0) zn))
 intro _ _ _ _ _
 exact zD (zqr T) (hr.mono (by decide)) zap (zf (zg 0) zn)
 refine zJ ?_
 refine zV ?_
 refine yX jn T.b_tuple jf ?_
 refine zf ?_ zn
 refine zdD (N:=["block", "aims"]) rfl (by exact ⟨rfl,by decide +kernel,by decide +kernel,by show ∀y:Str×NameKind,y∈_->y.2=NameKind.free->List.lookup y.1 (zT zdL).names=some NameKind.cell;decide +kernel⟩) rfl (by decide +kernel) ?_ ?_ ?_
 exact j6 (zg 1)
 intro _ _ _ _ _
 refine yk zoN (zg 0) ?_
 exact zel
 intro _ _ _ _ _
 exact (zg 0)
def zfl:FnScope ["_law_rows", "_law_aims_here", "_law_line"] ["_law_rows"] (zT zim):=⟨rfl,rfl,rfl,by decide +kernel,rfl,by decide +kernel,by decide +kernel⟩
def zqt:zk->Mo Fl :=
  zu (zC 1 (y8 zh)) (zu (yU (yO (zd 0)) (gN 2)
  (zu (yd (mB (zj ye (zj zw (zd 2) (mC (.int 0))) (mC (.str "call"))))
  (yH (yC yM (zd 1) (zA (zc (zj zw (zd 2) (mC (.int 2))) (zc (zj zw (zd 2) (mC (.int 3))) zh)))))
  yg)
  (yd (mB (zj ye (zj zw (zd 2) (mC (.int 0))) (mC (.str "go"))))
  (yH (yC yM (zd 1) (zA (zc (zj zw (zd 2) (mC (.int 1))) (zc (zj zw (zd 2) (mC (.int 2))) zh)))))
  yg))) (zS (zp yL (zc (zd 1) zh))))
def zdU:List PV->Mo PV:=yr 1 3 (zqt)
def ziP (T:Txt w K mg):FOk P w K mg base "_law_aims" 1 zdU:=T.f__law_aims.ok (k:=0) zfl fun f cdv A outer s H E hr =>
  by
 refine zx ?_ ?_
 refine zO 1 ?_ ?_
 exact jm zn
 exact zfl.nd
 refine zx ?_ (zJ (zV (yX jn T.b_tuple jf (zf (zg 1) zn))))
 refine jL (jB rfl rfl) rfl ?_ ?_ ?_
 exact j6 (zg 0)
 exact (jS 2 zfl.nd)
 refine zx ?_ ?_
 refine yq (yk (yB (yn hr)) (zN hr (zg 2) zo) zY) ?_ yp
 refine zJ ?_
 refine jR (j2 (zg 1) (zL (zf (zN hr (zg 2) zo) (zf (zN hr (zg 2) zo) zn))))
 refine zJ ?_
 refine yq (yk (yB (yn hr)) (zN hr (zg 2) zo) zY) ?_ yp
 refine zJ ?_
 refine jR (j2 (zg 1) (zL (zf (zN hr (zg 2) zo) (zf (zN hr (zg 2) zo) zn))))
def zqu:FnScope ["line"] ["line"] (zT zin):=⟨rfl,rfl,rfl,by decide +kernel,rfl,by decide +kernel,by decide +kernel⟩
def zqv:zk->Mo Fl :=
  (zS (zj (j8 false) (zj zw (zd 0) (mC (.int 0))) (zA (zc (mC (.str "let")) (zc (mC (.str "call")) zh)))))
def zca:List PV->Mo PV:=yr 1 1 (zqv)
def ziQ (T:Txt w K mg):FOk P w K mg base "is_step" 1 zca:=T.f_is_step.ok (k:=0) zqu fun f cdv A outer s H E hr =>
  by
 exact zJ (zV (zcu (zov (yn hr)) (zN hr (zg 0) zo) (zL (zf zY (zf zY zn)))))
def zqw:FnScope ["block"] ["block"] (zT zeS):=⟨rfl,rfl,rfl,by decide +kernel,rfl,by decide +kernel,by decide +kernel⟩
def zqx:zk->Mo Fl :=
  (zS (zp yL (zc (wR (yO (zp (wS 12) (zc (zd 0) zh))) (mB (zp zca (zc (zd 0) zh))) (zj zw (zd 0) (mC (.int 1)))) zh)))
def zfm:List PV->Mo PV:=yr 1 1 (zqx)
def zqy (T:Txt w K mg):FOk P w K mg base "steps_of" 15 zfm:=T.f_steps_of.ok (k:=14) zqw fun f cdv A outer s H E hr =>
  by
 refine zJ ?_
 refine zV ?_
 refine yX jn T.b_tuple jf ?_
 refine zf ?_ zn
 refine zdD (N:=["block"]) rfl (by exact ⟨rfl,by decide +kernel,by decide +kernel,by show ∀y:Str×NameKind,y∈_->y.2=NameKind.free->List.lookup y.1 (zT zeS).names=some NameKind.cell;decide +kernel⟩) rfl (by decide +kernel) ?_ ?_ ?_
 exact j6 (zD (zcT T 12) (hr.mono (by decide)) zI (zf (zg 0) zn))
 intro _ _ _ _ _
 exact wF (zD (ziQ T) (hr.mono (by decide)) zap (zf (zg 0) zn))
 intro _ _ _ _ _
 exact zN hr (zg 0) zo
def zfn:FnScope ["_law_function", "_law_rows", "_law_deepest", "_law_names"] ["_law_function"] (zT zeT):=⟨rfl,rfl,rfl,by decide +kernel,rfl,by decide +kernel,by decide +kernel⟩
def zqz:zk->Mo Fl :=
  zu (sTo (g2 1 2) (zp zbE (zc (zj zw (zd 0) (mC (.int 2))) zh))) (zu (zC 3 (zp yL (zc (wR (yO (zd 1)) (j1 (mB (zj ye (zj zw (zd 0) (mC (.int 0))) (mC (.str "let")))) (mB (zj ye (zj zw (zd 0) (mC (.int 0))) (mC (.str "call"))))) (zj zw (zd 0) (mC (.int 1)))) zh))) (zu (yd (j1 (wg (mB (zp (jW 75) (zc (zp (wS 12) (zc (zj zw (zd 0) (mC (.int 2))) zh)) (zc (zp yL (zc (zd 1) zh)) zh))))) (wg (mB (zp (jW 75) (zc (zp (zcU 12) (zc (zj zw (zd 0) (mC (.int 2))) zh)) (zc (zd 2) zh))))))
  (zS (mC (.bl false)))
  yg) (zS (zam (zp (jW 75) (zc (zp zdT (zc (zj zw (zd 0) (mC (.int 2))) zh)) (zc (zp zdU (zc (zd 1) zh)) zh))) (zp (jW 75) (zc (zp zfm (zc (zj zw (zd 0) (mC (.int 2))) zh)) (zc (zd 3) zh)))))))
def zcV:List PV->Mo PV:=yr 1 4 (zqz)
def zqA (T:Txt w K mg):FOk P w K mg base "_law_fits" 78 zcV:=T.f__law_fits.ok (k:=77) zfn fun f cdv A outer s H E hr =>
  by
 refine zx ?_ ?_
 refine zcy ?_ ?_
 exact (zbW 1 2 rfl zfn.nd)
 exact zD (zfg T) (hr.mono (by decide)) zI (zf (zN hr (zg 0) zo) zn)
 refine zx ?_ ?_
 refine zO 3 ?_ ?_
 refine yX jn T.b_tuple jf ?_
 refine zf ?_ zn
 refine zdD (N:=["_law_function", "_law_rows", "_law_deepest", "_law_names"]) rfl (by exact ⟨rfl,by decide +kernel,by decide +kernel,by show ∀y:Str×NameKind,y∈_->y.2=NameKind.free->List.lookup y.1 (zT zeT).names=some NameKind.cell;decide +kernel⟩) rfl (by decide +kernel) ?_ ?_ ?_
 exact j6 (zg 1)
 intro _ _ _ _ _
 refine ww (zaK (yk (yB (yn hr)) (zN hr (zg 0) zo) zY) (zaJ (yk (yB (yn hr)) (zN hr (zg 0) zo) zY)))
 intro _ _ _ _ _
 exact zN hr (zg 0) zo
 exact zfn.nd
 refine zx ?_ ?_
 refine yq ?_ ?_ yp
 refine ww ?_
 refine zaK ?_ ?_
 refine za5 ?_
 refine wF ?_
 refine zD (zaw T 75) (hr.mono (by decide)) zI ?_
 refine zf (zD (zcT T 12) (hr.mono (by decide)) zI (zf (zN hr (zg 0) zo) zn)) (zf (yX jn T.b_tuple jf (zf (zg 1) zn)) zn)
 refine zaJ ?_
 refine za5 (wF (zD (zaw T 75) (hr.mono (by decide)) zI (zf (zD (ziM T 12) (hr.mono (by decide)) zI (zf (zN hr (zg 0) zo) zn)) (zf (zg 2) zn))))
 refine zJ ?_
 refine zV ?_
 exact zbQ
 refine zJ ?_
 refine zV ?_
 refine zbR ?_ ?_
 refine zD (zaw T 75) (hr.mono (by decide)) zI ?_
 refine zf (zD (ziO T) (hr.mono (by decide)) zI (zf (zN hr (zg 0) zo) zn)) (zf (zD (ziP T) (hr.mono (by decide)) zI (zf (zg 1) zn)) zn)
 refine zct ?_
 exact zD (zaw T 75) (hr.mono (by decide)) zI (zf (zD (zqy T) (hr.mono (by decide)) zI (zf (zN hr (zg 0) zo) zn)) (zf (zg 3) zn))
def ziR:FnScope ["program", "name", "function"] ["program", "name"] (zT zio):=⟨rfl,rfl,rfl,by decide +kernel,rfl,by decide +kernel,by decide +kernel⟩
def zqB:zk->Mo Fl :=
  zu (yU (yO (zd 0)) (gN 2)
  (yd (mB (zj wQ (zj zw (zd 2) (mC (.int 0))) (zd 1)))
  (zS (zd 2))
  yg)) (zS (mC .non))
def zcb:List PV->Mo PV:=yr 2 3 (zqB)
def ziS (T:Txt w K mg):FOk P w K mg base "function_by" 1 zcb:=T.f_function_by.ok (k:=0) ziR fun f cdv A outer s H E hr =>
  by
 refine zx ?_ ?_
 refine jL (jB rfl rfl) rfl ?_ ?_ ?_
 exact j6 (zg 0)
 exact (jS 2 ziR.nd)
 refine zJ ?_
 refine yq (yk (zeF (yn hr)) (zN hr (zg 2) zo) (zg 1)) (zJ (zV (zg 2))) yp
 refine zJ ?_
 refine zV ?_
 exact zel
def zqC:FnScope ["line"] ["line"] (zT ziq):=⟨rfl,rfl,rfl,by decide +kernel,rfl,by decide +kernel,by decide +kernel⟩
def zqD:zk->Mo Fl :=
  zu (yd (mB (zp zca (zc (zd 0) zh)))
  (zS (zj zw (zd 0) (mC (.int 3))))
  yg) (zu (yd (mB (zj ye (zj zw (zd 0) (mC (.int 0))) (mC (.str "go"))))
  (zS (zj zw (zd 0) (mC (.int 2))))
  yg) (zu (yd (mB (zj ye (zj zw (zd 0) (mC (.int 0))) (mC (.str "fail"))))
  (zS (zA zh))
  yg) (zS (zA (zc (zj zw (zd 0) (mC (.int 1))) zh)))))
def zcW:List PV->Mo PV:=yr 1 1 (zqD)
def zqE (T:Txt w K mg):FOk P w K mg base "atoms_of" 2 zcW:=T.f_atoms_of.ok (k:=1) zqC fun f cdv A outer s H E hr =>
  by
 refine zx ?_ ?_
 refine yq (wF (zD (ziQ T) (hr.mono (by decide)) zI (zf (zg 0) zn))) (zJ (zV (zN hr (zg 0) zo))) yp
 refine zx ?_ ?_
 refine yq (yk (yB (yn hr)) (zN hr (zg 0) zo) zY) (zJ (zV (zN hr (zg 0) zo))) yp
 refine zx ?_ (zJ (zV (zL (zf (zN hr (zg 0) zo) zn))))
 refine yq (yk (yB (yn hr)) (zN hr (zg 0) zo) zY) (zJ (zV (zL zn))) yp
def zdV:FnScope ["program", "values", "function", "line"] ["program"] (zT zeU):=⟨rfl,rfl,rfl,by decide +kernel,rfl,by decide +kernel,by decide +kernel⟩
def zqF:zk->Mo Fl :=
  zu (zC 1 (y8 zh)) (zu (yU (yO (zd 0)) (gN 2)
  (yU (yO (zp (wS 12) (zc (zj zw (zd 2) (mC (.int 2))) zh))) (gN 3)
  (yH (yC zdu (zd 1) (wR (yO (zp zcW (zc (zd 3) zh))) (mB (zj ye (zj zw (zd 0) (mC (.int 0))) (mC (.str "is")))) (zj zw (zd 0) (mC (.int 1)))))))) (zS (zp yL (zc (zd 1) zh))))
def zfo:List PV->Mo PV:=yr 1 4 (zqF)
def zqG (T:Txt w K mg):FOk P w K mg base "values_of" 15 zfo:=T.f_values_of.ok (k:=14) zdV fun f cdv A outer s H E hr =>
  by
 refine zx ?_ ?_
 refine zO 1 ?_ ?_
 exact jm zn
 exact zdV.nd
 refine zx ?_ (zJ (zV (yX jn T.b_tuple jf (zf (zg 1) zn))))
 refine jL (jB rfl rfl) rfl ?_ ?_ ?_
 exact j6 (zg 0)
 exact (jS 2 zdV.nd)
 refine zJ ?_
 refine jL (jB rfl rfl) rfl ?_ ?_ ?_
 exact j6 (zD (zcT T 12) (hr.mono (by decide)) zI (zf (zN hr (zg 2) zo) zn))
 exact (jS 3 zdV.nd)
 refine zJ ?_
 refine jR ?_
 refine znT ?_ ?_
 exact (zg 1)
 refine zdD (N:=["program", "values", "function", "line"]) rfl (by exact ⟨rfl,by decide +kernel,by decide +kernel,by show ∀y:Str×NameKind,y∈_->y.2=NameKind.free->List.lookup y.1 (zT zeU).names=some NameKind.cell;decide +kernel⟩) rfl (by decide +kernel) ?_ ?_ ?_
 exact j6 (zD (zqE T) (hr.mono (by decide)) zI (zf (zg 3) zn))
 intro _ _ _ _ _
 exact yk (yB (yn hr)) (zN hr (zg 0) zo) zY
 intro _ _ _ _ _
 exact zN hr (zg 0) zo
def zqH:FnScope ["_law_line"] ["_law_line"] (zT zir):=⟨rfl,rfl,rfl,by decide +kernel,rfl,by decide +kernel,by decide +kernel⟩
def zqI:zk->Mo Fl :=
  zu (yd (j1 (mB (zj ye (zj zw (zd 0) (mC (.int 0))) (mC (.str "give")))) (mB (zj ye (zj zw (zd 0) (mC (.int 0))) (mC (.str "if")))))
  (zS (zA (zc (zj zw (zd 0) (mC (.int 1))) zh)))
  yg) (zu (yd (mB (zj ye (zj zw (zd 0) (mC (.int 0))) (mC (.str "go"))))
  (zS (zj zw (zd 0) (mC (.int 2))))
  yg) (zu (yd (mB (zj ye (zj zw (zd 0) (mC (.int 0))) (mC (.str "fail"))))
  (zS (zA zh))
  yg) (zS (zj zw (zd 0) (mC (.int 3))))))
def zcX:List PV->Mo PV:=yr 1 1 (zqI)
def zqJ (T:Txt w K mg):FOk P w K mg base "_law_line_atoms" 1 zcX:=T.f__law_line_atoms.ok (k:=0) zqH fun f cdv A outer s H E hr =>
  by
 refine zx ?_ ?_
 refine yq ?_ (zJ (zV (zL (zf (zN hr (zg 0) zo) zn)))) yp
 refine ww (zaK (yk (yB (yn hr)) (zN hr (zg 0) zo) zY) (zaJ (yk (yB (yn hr)) (zN hr (zg 0) zo) zY)))
 refine zx ?_ ?_
 refine yq (yk (yB (yn hr)) (zN hr (zg 0) zo) zY) (zJ (zV (zN hr (zg 0) zo))) yp
 refine zx ?_ (zJ (zV (zN hr (zg 0) zo)))
 refine yq (yk (yB (yn hr)) (zN hr (zg 0) zo) zY) (zJ (zV (zL zn))) yp
def zcY:FnScope ["_law_program_here", "_law_values_here", "_law_function", "_law_line", "_law_atom_here"] ["_law_program_here"] (zT zis):=⟨rfl,rfl,rfl,by decide +kernel,rfl,by decide +kernel,by decide +kernel⟩
def zqK:zk->Mo Fl :=
  zu (zC 1 (y8 zh)) (zu (yU (yO (zd 0)) (gN 2)
  (yU (yO (zj zw (zp zbE (zc (zj zw (zd 2) (mC (.int 2))) zh)) (mC (.int 0)))) (gN 3)
  (yU (yO (zp zcX (zc (zd 3) zh))) (gN 4)
  (yd (mB (zj ye (zj zw (zd 4) (mC (.int 0))) (mC (.str "is"))))
  (yH (yC yM (zd 1) (zj zw (zd 4) (mC (.int 1)))))
  yg)))) (zS (zp yL (zc (zd 1) zh))))
def zfp:List PV->Mo PV:=yr 1 5 (zqK)
def zqL (T:Txt w K mg):FOk P w K mg base "_law_values" 2 zfp:=T.f__law_values.ok (k:=1) zcY fun f cdv A outer s H E hr =>
  by
 refine zx ?_ ?_
 refine zO 1 ?_ ?_
 exact jm zn
 exact zcY.nd
 refine zx ?_ (zJ (zV (yX jn T.b_tuple jf (zf (zg 1) zn))))
 refine jL (jB rfl rfl) rfl ?_ ?_ ?_
 exact j6 (zg 0)
 exact (jS 2 zcY.nd)
 refine zJ ?_
 refine jL (jB rfl rfl) rfl ?_ ?_ ?_
 exact j6 (zN hr (zD (zfg T) (hr.mono (by decide)) zI (zf (zN hr (zg 2) zo) zn)) zo)
 exact (jS 3 zcY.nd)
 refine zJ ?_
 refine jL (jB rfl rfl) rfl ?_ ?_ ?_
 exact j6 (zD (zqJ T) (hr.mono (by decide)) zI (zf (zg 3) zn))
 exact (jS 4 zcY.nd)
 refine zJ ?_
 refine yq (yk (yB (yn hr)) (zN hr (zg 4) zo) zY) (zJ (jR (j2 (zg 1) (zN hr (zg 4) zo)))) yp
def zbF:FnScope ["_law_script", "_law_deck_here", "_law_program_here", "_law_kept", "_law_step_here", "_law_function", "_law_first"] ["_law_script"] (zT zeV):=⟨rfl,rfl,rfl,by decide +kernel,rfl,by decide +kernel,by decide +kernel⟩
def zqM:zk->Mo Fl :=
  zu (zC 1 (zp zeW (zc (zd 0) zh))) (zu (zC 2 (zp zcS (zc (zp jY (zc (zd 1) zh)) zh))) (zu (zC 3 (zp zcS (zc (zp jY (zc (zd 1) zh)) zh))) (zu (zC 4 (zj zZ (mC (.int 1)) (zj jb (zp yE (zc (zd 2) zh)) (mC (.int 6))))) (zu (yU (yO (zbz (zd 2) (pSome (zd 4)))) (gN 5)
  (yd (j1 (wg (mB (zp zcV (zc (zd 5) zh)))) (wg (mB (zp (jW 75) (zc (zp zcb (zc (zd 2) (zc (zj zw (zd 5) (mC (.int 0))) zh))) (zc (zd 5) zh))))))
  (zS (mC (.bl false)))
  yg)) (zu (yd (wg (mB (zp (jW 75) (zc (zp zfo (zc (zd 2) zh)) (zc (zp zfp (zc (zd 3) zh)) zh)))))
  (zS (mC (.bl false)))
  yg) (zu (zC 6 (zj zw (zd 2) (mC (.int 0)))) (zu (yd (wg (mB (zp (jW 75) (zc (zp zdT (zc (zj zw (zd 6) (mC (.int 2))) zh)) (zc (zp zdU (zc (zj zw (zp zbE (zc (zj zw (zd 6) (mC (.int 2))) zh)) (mC (.int 0))) zh)) zh)))))
  (zS (mC (.bl false)))
  yg) (zS (zam (zp (jW 75) (zc (zd 2) (zc (zd 3) zh))) (zp (jW 75) (zc (zp zcb (zc (zd 2) (zc (zj zw (zj zw (zd 2) (ju wn (mC (.int 1)))) (mC (.int 0))) zh))) (zc (zj zw (zd 3) (ju wn (mC (.int 1)))) zh))))))))))))
def ziT:List PV->Mo PV:=yr 1 7 (zqM)
def zqN (T:Txt w K mg) {f:Addr} {fd:FuncData} (F:Fun K "law" "law" zeV f fd):FnOk P w K mg base (CXe P w) 79 f fd ["_law_script"] (spM K mg ziT):=zdv (k:=78) F zbF fun cdv A outer s H E hr =>
  by
 refine zx ?_ ?_
 refine zO 1 ?_ ?_
 exact zD (zpK T) (hr.mono (by decide)) zI (zf (zg 0) zn)
 exact zbF.nd
 refine zx ?_ ?_
 refine zO 2 ?_ ?_
 exact zD (ziJ T) (hr.mono (by decide)) zI (zf (yX (zcG rfl) T.b_list zcA (zf (zg 1) zn)) zn)
 exact zbF.nd
 refine zx ?_ ?_
 refine zO 3 ?_ ?_
 exact zD (ziJ T) (hr.mono (by decide)) zI (zf (yX (zcG rfl) T.b_list zcA (zf (zg 1) zn)) zn)
 exact zbF.nd
 refine zx ?_ ?_
 refine zO 4 ?_ ?_
 exact zF yG zo (zF wx (yT jN T.b_len jM (zf (zg 2) zn)) zo)
 exact zbF.nd
 refine zx ?_ ?_
 refine jL (jB rfl rfl) rfl ?_ ?_ ?_
 refine j6 ?_
 refine zh1 ?_ ?_
 exact (zg 2)
 exact za7 (zg 4)
 exact (jS 5 zbF.nd)
 refine zJ ?_
 refine yq ?_ ?_ yp
 refine ww ?_
 refine zaK (za5 (wF (zD (zqA T) (hr.mono (by decide)) zI (zf (zg 5) zn)))) ?_
 refine zaJ ?_
 refine za5 ?_
 refine wF ?_
 refine zD (zaw T 75) (hr.mono (by decide)) zI (zf (zD (ziS T) (hr.mono (by decide)) zI (zf (zg 2) (zf (zN hr (zg 5) zo) zn))) (zf (zg 5) zn))
 refine zJ ?_
 refine zV ?_
 exact zbQ
 refine zx ?_ ?_
 refine yq ?_ ?_ yp
 refine za5 ?_
 refine wF (zD (zaw T 75) (hr.mono (by decide)) zI (zf (zD (zqG T) (hr.mono (by decide)) zI (zf (zg 2) zn)) (zf (zD (zqL T) (hr.mono (by decide)) zI (zf (zg 3) zn)) zn)))
 refine zJ ?_
 refine zV ?_
 exact zbQ
 refine zx ?_ ?_
 refine zO 6 ?_ ?_
 exact zN hr (zg 2) zo
 exact zbF.nd
 refine zx ?_ ?_
 refine yq ?_ ?_ yp
 refine za5 ?_
 refine wF ?_
 refine zD (zaw T 75) (hr.mono (by decide)) zI ?_
 refine zf (zD (ziO T) (hr.mono (by decide)) zI (zf (zN hr (zg 6) zo) zn)) ?_
 refine zf (zD (ziP T) (hr.mono (by decide)) zI (zf (zN hr (zD (zfg T) (hr.mono (by decide)) zI (zf (zN hr (zg 6) zo) zn)) zo) zn)) zn
 refine zJ ?_
 refine zV ?_
 exact zbQ
 refine zJ ?_
 refine zV ?_
 refine zbR ?_ ?_
 exact zD (zaw T 75) (hr.mono (by decide)) zI (zf (zg 2) (zf (zg 3) zn))
 refine zct ?_
 refine zD (zaw T 75) (hr.mono (by decide)) zI ?_
 refine zf (zD (ziS T) (hr.mono (by decide)) zI (zf (zg 2) (zf (zN hr (zN hr (zg 2) (zaL zaM zo)) zo) zn))) (zf (zN hr (zg 3) (zaL zaM zo)) zn)
end
def ziU (i j:Int) (h:0<j):jK i j=i%j:=by unfold jK;rw [zH h]
def zqO (i j:Int) (h:0<j):wG i j=i/j:=by unfold wG;rw [zH h]
inductive Tr where
 | num (i:Int)|word (z:Str)|row (ts:List Tr)|rec_ (ks:List Str) (ts:List Tr)
mutual
def sz:Tr->Nat
 | .num _=>1
 | .word _=>1
 | .row ts=>1+szs ts
 | .rec_ _ ts=>1+szs ts
def szs:List Tr->Nat
 | []=>0
 | t::ts=>sz t+szs ts
end
mutual
def dp:Tr->Nat
 | .num _=>0
 | .word _=>0
 | .row ts=>1+dps ts
 | .rec_ _ ts=>1+dps ts
def dps:List Tr->Nat
 | []=>0
 | t::ts=>max (dp t) (dps ts)
end
mutual
def TR (st:Sto):Tr->PV->Prop
 | .num i,v=>v=.int i
 | .word z,v=>v=.str z/\z.length<=1000
 | .row ts,v=>∃xs,v=.tup xs/\TRs st ts xs
 | .rec_ ks ts,v=>∃n xs,v=.ref n/\st[n]?=some (.dic ks xs)/\ks.Nodup/\ks.length=xs.length/\TRs st ts xs/\∀k∈ks,k.length<=1000
def TRs (st:Sto):List Tr->List PV->Prop
 | [],xs=>xs=[]
 | t::ts,xs=>∃x r,xs=x::r/\TR st t x/\TRs st ts r
end
def Dk (a b:Sto):Prop:=∀(n:Nat) (ks:List Str) (xs:List PV),a[n]?=some (SO.dic ks xs)->b[n]?=some (SO.dic ks xs)
mutual
def TR.mono {a b:Sto}(d:Dk a b):∀(t:Tr) {v:PV},TR a t v->TR b t v
 | .num _,_,h=>h
 | .word _,_,h=>h
 | .row ts,_,h=>by obtain ⟨xs,e,r⟩:=h;exact ⟨xs,e,TRs.mono d ts r⟩
 | .rec_ ks ts,_,h=>by obtain ⟨n,xs,e,h1,h2,h3,r,h4⟩:=h;exact ⟨n,xs,e,d _ _ _ h1,h2,h3,TRs.mono d ts r,h4⟩
def TRs.mono {a b:Sto}(d:Dk a b):∀(ts:List Tr) {xs:List PV},TRs a ts xs->TRs b ts xs
 | [],_,h=>h
 | t::ts,_,h=>by obtain ⟨x,r,e,h1,h2⟩:=h;exact ⟨x,r,e,TR.mono d t h1,TRs.mono d ts h2⟩
end
def TRs.len {st:Sto}:∀{ts:List Tr}{xs:List PV},TRs st ts xs->ts.length=xs.length
 | [],_,h=>by cases h;rfl
 | t::ts,_,h=>by obtain ⟨x,r,rfl,_,h2⟩:=h;simp [TRs.len h2]
def TRs.get {st:Sto}:∀{ts:List Tr}{xs:List PV}{i:Nat}{x:PV},TRs st ts xs->xs[i]?=some x->∃t,ts[i]?=some t/\TR st t x
 | [],_,_,_,h,e=>by cases h;simp at e
 | t::ts,_,0,x,h,e=>by obtain ⟨y,r,rfl,h1,_⟩:=h;simp at e;subst e;exact ⟨t,by simp,h1⟩
 | t::ts,_,i+1,x,h,e=>by obtain ⟨y,r,rfl,_,h2⟩:=h;simp at e;simpa using TRs.get h2 e
def TRs.append {st:Sto}:∀{ts us:List Tr}{xs ys:List PV},TRs st ts xs->TRs st us ys->TRs st (ts++us) (xs++ys)
 | [],_,_,_,h,h'=>by cases h;exact h'
 | t::ts,_,_,_,h,h'=>by obtain ⟨y,r,rfl,h1,h2⟩:=h;exact ⟨y,r++_,rfl,h1,TRs.append h2 h'⟩
def zax:∀a b:List Tr,szs (a++b)=szs a+szs b
 | [],b=>by simp [szs]
 | t::a,b=>by simp only [List.cons_append,szs,zax a b];omega
mutual
def zqP:∀t:Tr,0<sz t
 | .num _=>by simp [sz]
 | .word _=>by simp [sz]
 | .row ts=>by simp only [sz];omega
 | .rec_ _ ts=>by simp only [sz];omega
end
mutual
def zqQ:∀t:Tr,dp t<=sz t
 | .num _=>by simp [sz,dp]
 | .word _=>by simp [sz,dp]
 | .row ts=>by have:=dps_szs ts;simp only [sz,dp];omega
 | .rec_ _ ts=>by have:=dps_szs ts;simp only [sz,dp];omega
def dps_szs:∀ts:List Tr,dps ts<=szs ts
 | []=>by simp [szs,dps]
 | t::ts=>by have:=zqQ t;have:=dps_szs ts;simp only [szs,dps];omega
end
def zfq:∀{ts:List Tr}{t:Tr},t∈ts->sz t<=szs ts
 | u::ts,t,h=>by
  rcases yQ.mp h with rfl|h
  ·simp only [szs];omega
  ·have:=zfq h;simp only [szs];omega
def wT:∀{ts:List Tr}{t:Tr},t∈ts->dp t<=dps ts
 | u::ts,t,h=>by
  rcases yQ.mp h with rfl|h
  ·simp only [dps];omega
  ·have:=wT h;simp only [dps];omega
def ty:Tr->String
 | .num _ => "int"
 | .word _ => "str"
 | .row _ => "tuple"
 | .rec_ _ _ => "dict"
abbrev abc:Str := "abcdefghijklmnopqrstuvwxyz"
def isW (z:Str):Bool:=decide (1<=z.length)&&decide (z.length<=8)&&z.cps.toList.all fun c=>decide (c∈abc.cps.toList)
def t1:tyb "int" "str" = some false:=rfl
def t2:tyb "int" "tuple" = some false:=rfl
def t3:tyb "int" "dict" = some false:=rfl
def t4:tyb "int" "int" = some true:=rfl
def t5:tyb "str" "str" = some true:=rfl
def t8:tyb "str" "int" = some false:=rfl
def t17:tyb "int" "bool" = some false:=rfl
def ziV:∀ts:List Tr,ts.length<=szs ts
 | []=>by simp [szs]
 | t::ts=>by have:=zqP t;have:=ziV ts;simp only [szs,wq];omega
def Old (a b:Sto):Prop:=∀(n:Nat) so,a[n]?=some so->b[n]?=some so
def Old.refl (a:Sto):Old a a:=fun _ _ e=>e
def Old.trans {a b c:Sto}(h:Old a b) (h':Old b c):Old a c:=fun n so e=>h' n so (h n so e)
def Old.dk {a b:Sto}(h:Old a b):Dk a b:=fun n ks xs e=>h n _ e
def zqS {a b:Sto}(h:Pre a b):Old a b:=fun n so e=>h.get e
def yc (a d:Sto):Old a (a++d):=zqS (Pre.of a d)
def Ob (r:Nat) (a b:Sto):Prop:=∀(n:Nat) so,n≠r->a[n]?=some so->b[n]?=some so
def Ob.trans {r:Nat}{a b c:Sto}(h:Ob r a b) (h':Ob r b c):Ob r a c:=fun n so ne e=>h' n so ne (h n so ne e)
def zqT {r:Nat}{a b:Sto}(h:Old a b):Ob r a b:=fun n so _ e=>h n so e
def zqU (r:Nat) (a:Sto) (so:SO):Ob r a (a.set r so):=fun n s ne e=>by rw [yh (yJ ne)];exact e
mutual
def TR.one {st:Sto}:∀(t t':Tr) {v:PV},TR st t v->TR st t' v->t=t'
 | .num i,t',v,h,h'=>by
  cases h
  cases t' with
  | num j=>cases h';rfl
  | word z=>obtain ⟨e,_⟩:=h';cases e
  | row ts=>obtain ⟨_,e,_⟩:=h';cases e
  | rec_ ks ts=>obtain ⟨_,_,e,_⟩:=h';cases e
 | .word z,t',v,h,h'=>by
  obtain ⟨rfl,_⟩:=h
  cases t' with
  | num j=>cases h'
  | word z=>obtain ⟨e,_⟩:=h';cases e;rfl
  | row ts=>obtain ⟨_,e,_⟩:=h';cases e
  | rec_ ks ts=>obtain ⟨_,_,e,_⟩:=h';cases e
 | .row ts,t',v,h,h'=>by
  obtain ⟨xs,rfl,r⟩:=h
  cases t' with
  | num j=>cases h'
  | word z=>obtain ⟨e,_⟩:=h';cases e
  | row us=>obtain ⟨_,e,r'⟩:=h';cases e;rw [TRs.one ts us r r']
  | rec_ ks ts=>obtain ⟨_,_,e,_⟩:=h';cases e
 | .rec_ ks ts,t',v,h,h'=>by
  obtain ⟨n,xs,rfl,g,_,_,r,_⟩:=h
  cases t' with
  | num j=>cases h'
  | word z=>obtain ⟨e,_⟩:=h';cases e
  | row us=>obtain ⟨_,e,r'⟩:=h';cases e
  | rec_ ks' us =>
   obtain ⟨_,_,e,g',_,_,r',_⟩:=h'
   cases e
   rw [g] at g'
   cases g'
   rw [TRs.one ts us r r']
def TRs.one {st:Sto}:∀(ts us:List Tr) {xs:List PV},TRs st ts xs->TRs st us xs->ts=us
 | [],us,xs,h,h'=>by
  cases h
  cases us with
  | nil=>rfl
  | cons=>obtain ⟨_,_,e,_⟩:=h';cases e
 | t::ts,us,xs,h,h'=>by
  obtain ⟨x,r,rfl,h1,h2⟩:=h
  cases us with
  | nil=>cases h'
  | cons u us =>
   obtain ⟨_,_,e,g1,g2⟩:=h'
   cases e
   rw [TR.one t u h1 g1,TRs.one ts us h2 g2]
end
def ziW {g:PV->zk->Option zk}{body:zk->Mo Fl}(I:Nat->zk->Sto->Prop) (n:Nat) (hb:∀i e st,i<n->I i e st->∃e1 e2 st2,g (.int i) e=some e1/\body e1 st=.ok (.nx e2) st2/\I (i+1) e2 st2) :
  ∀(k i:Nat) (env:zk) (st:Sto),i+k=n->I i env st->∃env' st',forL g body ((List.range' i k).map fun i:Nat=>PV.int i) env st=.ok (.nx env') st'/\I n env' st'
 | 0,i,env,st,hk,h=>⟨env,st,by simp,by rw [<-hk];exact h⟩
 | k+1,i,env,st,hk,h=>by
  obtain ⟨e1,e2,st2,q1,q2,q3⟩:=hb i env st (by omega) h
  obtain ⟨env',st',r1,r2⟩:=ziW I n hb k (i+1) e2 st2 (by omega) q3
  refine ⟨env',st',?_,r2⟩
  rw [List.range'_succ,jH]
  unfold forL
  rw [q1]
  simp only
  rw [q2]
  simp only [zP]
  exact r1
def zqV (m:Nat) (st:Sto) (h:m<=1000):zbu [.int (m:Int)] st=.ok (.im ((List.range' 0 m).map fun i:Nat=>PV.int i)) st:=by
 have hr:cR (m:Int)=true:=by simp [cR];omega
 simp [hr,nums,List.range_eq_range']
def modNat (i:Int) (j:Nat) (h:0<j):∃b:Nat,b<j/\jK i j=b:=by
 have h1:=Int.emod_nonneg i (show (j:Int)≠0 by omega)
 have h2:=Int.emod_lt_of_pos i (show (0:Int)<j by omega)
 exact ⟨(i%j).toNat,by omega,by rw [ziU _ _ (by omega)];omega⟩
def zfr {st:Sto}{z:Str}:∀{ks:List Str}{ts:List Tr}{xs:List PV}{t:Tr},TRs st ts xs->(ks.zip ts).lookup z=some t->∃y,(ks.zip xs).lookup z=some y/\TR st t y
 | [],_,_,_,_,h=>by simp at h
 | _::_,[],_,_,_,h=>by simp at h
 | k::ks,u::ts,xs,t,r,h=>by
  obtain ⟨y,xs',rfl,r1,r2⟩:=r
  rw [List.zip_cons_cons,wZ] at h ⊢
  cases hz:(z==k) with
  | true =>
   rw [hz] at h
   cases h
   exact ⟨y,rfl,r1⟩
  | false =>
   rw [hz] at h
   exact zfr r2 h
def ziX {α:Type}{z:Str}:∀{ks:List Str}{us:List α},ks.length=us.length->z∈ks->∃u,(ks.zip us).lookup z=some u
 | [],_,_,h=>by cases h
 | _::_,[],h,_=>by simp at h
 | k::ks,u::us,hl,h=>by
  rw [List.zip_cons_cons,wZ]
  cases hz:(z==k) with
  | true=>exact ⟨u,rfl⟩
  | false =>
   rcases yQ.mp h with e|e
   ·simp [e] at hz
   ·exact ziX (by simpa using hl) e
def zM {st:Sto}{n:Nat}{so:SO}(h:st[n]?=some so):n<st.length:=(yI.mp h).1
def ziY {z:Str}{u:Tr}:∀{ks:List Str}{ts:List Tr},(ks.zip ts).lookup z=some u->u∈ts
 | [],_,h=>by simp at h
 | _::_,[],h=>by simp at h
 | k::ks,t::ts,h=>by
  rw [List.zip_cons_cons,wZ] at h
  cases hz:(z==k) with
  | true=>rw [hz] at h;cases h;exact yY ..
  | false=>rw [hz] at h;exact jc _ (ziY h)
def ziZ {fe:zk->Mo PV}{env:zk}(xs:List PV) (I:Nat->List PV->Sto->Prop) (step:∀i x ys st,xs[i]?=some x->I i ys st->∃y st1,fe (some x::env) st=.ok y st1/\I (i+1) (ys++[y]) st1) :
  ∀(k i:Nat) (ys:List PV) (st:Sto),i+k=xs.length->I i ys st->∃ys' st',compL fe env (xs.drop i) ys st=.ok (.ref st'.length) (st'++[.lst ys'])/\I xs.length ys' st'
 | 0,i,ys,st,hk,h=>⟨ys,st,by rw [zaX (by omega)];rfl,by rw [<-hk];exact h⟩
 | k+1,i,ys,st,hk,h=>by
  have hx:xs[i]?=some (xs[i]'(by omega)):=zU (by omega)
  obtain ⟨y,st1,e,h1⟩:=step i _ ys st hx h
  obtain ⟨ys',st',r,h2⟩:=ziZ xs I step k (i+1) (ys++[y]) st1 (by omega) h1
  refine ⟨ys',st',?_,h2⟩
  rw [wc (by omega)]
  unfold compL
  rw [e]
  simp only [zao,zP]
  exact r
def zi0 {fe:zk->Mo PV}{env:zk}{n:Nat}(xs:List PV) (I:Nat->List PV->Sto->Prop) (at_:∀i ys st,I i ys st->st[n]?=some (.lst xs)) (step:∀i x ys st,xs[i]?=some x->I i ys st->∃y st1,fe (some x::env) st=.ok y st1/\I (i+1) (ys++[y]) st1) :
  ∀(k i m:Nat) (ys:List PV) (st:Sto),i+k=xs.length->k<m->I i ys st->∃ys' st',compR fe env n m i ys st=.ok (.ref st'.length) (st'++[.lst ys'])/\I xs.length ys' st'
 | 0,i,m,ys,st,hk,hm,h=>by
  obtain ⟨m,rfl⟩:∃j,m=j+1:=⟨m-1,by omega⟩
  refine ⟨ys,st,?_,by rw [<-hk];exact h⟩
  unfold compR
  rw [yb (at_ _ _ _ h),zd8 (by omega)]
 | k+1,i,m,ys,st,hk,hm,h=>by
  obtain ⟨m,rfl⟩:∃j,m=j+1:=⟨m-1,by omega⟩
  have hx:xs[i]?=some (xs[i]'(by omega)):=zU (by omega)
  obtain ⟨y,st1,e,h1⟩:=step i _ ys st hx h
  obtain ⟨ys',st',r,h2⟩:=zi0 xs I at_ step k (i+1) m (ys++[y]) st1 (by omega) (by omega) h1
  refine ⟨ys',st',?_,h2⟩
  unfold compR
  rw [yb (at_ _ _ _ h),hx]
  simp only
  rw [e]
  simp only [zao,zP]
  exact r
def zi1 {fe:zk->Mo PV}{env:zk}(xs ys:List PV) (hl:xs.length=ys.length) (I:Nat->List PV->Sto->Prop) (step:∀i x y zs st,xs[i]?=some x->ys[i]?=some y->I i zs st->∃z st1,fe (some x::some y::env) st=.ok z st1/\I (i+1) (zs++[z]) st1) :
  ∀(k i:Nat) (zs:List PV) (st:Sto),i+k=ys.length->I i zs st->∃zs' st',zaq fe env (((xs.zip ys).map fun p=>PV.tup [p.1,p.2]).drop i) zs st=.ok (.ref st'.length) (st'++[.lst zs'])/\I ys.length zs' st'
 | 0,i,zs,st,hk,h=>⟨zs,st,by rw [zaX (by simp;omega)];rfl,by rw [<-hk];exact h⟩
 | k+1,i,zs,st,hk,h=>by
  have hx:xs[i]?=some (xs[i]'(by omega)):=zU (by omega)
  have hy:ys[i]?=some (ys[i]'(by omega)):=zU (by omega)
  obtain ⟨z,st1,e,h1⟩:=step i _ _ zs st hx hy h
  obtain ⟨zs',st',r,h2⟩:=zi1 xs ys hl I step k (i+1) (zs++[z]) st1 (by omega) h1
  refine ⟨zs',st',?_,h2⟩
  rw [wc (by simp;omega)]
  unfold zaq
  simp only [List.getElem_map,List.getElem_zip,pairOf]
  rw [e]
  simp only [zao,zP]
  exact r
def zi2 {fe:zk->Mo PV}{env:zk}(ks:List Str) (I:Nat->List PV->Sto->Prop) (step:∀i k ys st,ks[i]?=some k->I i ys st->∃y st1,fe (some (.str k)::env) st=.ok y st1/\I (i+1) (ys++[y]) st1) :
  ∀(k i:Nat) (ys:List PV) (st:Sto),i+k=ks.length->I i ys st->∃ys' st',compK fe env ((ks.drop i).map PV.str) ys st=.ok ys' st'/\I ks.length ys' st'
 | 0,i,ys,st,hk,h=>⟨ys,st,by rw [zaX (by omega)];rfl,by rw [<-hk];exact h⟩
 | k+1,i,ys,st,hk,h=>by
  have hx:ks[i]?=some (ks[i]'(by omega)):=zU (by omega)
  obtain ⟨y,st1,e,h1⟩:=step i _ ys st hx h
  obtain ⟨ys',st',r,h2⟩:=zi2 ks I step k (i+1) (ys++[y]) st1 (by omega) h1
  refine ⟨ys',st',?_,h2⟩
  rw [wc (by omega),jH]
  unfold compK
  rw [e]
  simp only [zao,zP]
  exact r
def wL {m:Nat}:∀{ts:List Tr},(∀t∈ts,dp t<=m)->dps ts<=m
 | [],_=>by simp [dps]
 | t::ts,h=>by have:=h t (yY ..);have:=wL (ts:=ts) fun u hu=>h u (jc _ hu);simp only [dps];omega
def Fz (S:List Nat) (a b:Sto):Prop:=∀(m:Nat) so,m∉S->a[m]?=some so->b[m]?=some so
def Fz.old {S:List Nat}{a b c:Sto}(h:Fz S a b) (o:Old b c):Fz S a c:=fun m so n e=>o m so (h m so n e)
def allT (n:Nat):(List.replicate n true).all id=true:=by induction n with|zero=>rfl|succ n ih=>simp
def zqW {st:Sto}{mr:List PV->Mo PV}{xs ys:List PV}(len:xs.length=ys.length) (hl:ys.length<=900000) (hm:∀(i:Nat) x y s,Old st s->xs[i]?=some x->ys[i]?=some y->∃s1,mr [x,y] s=.ok (.bl true) s1/\Old s s1):∃s1,zbi mr [.tup xs,.tup ys] st=.ok (.bl true) s1/\Old st s1:=by
 have ex:∀(zs:List PV) t,wy isT [.tup zs,.ty t] st=optB (tyb "tuple" t) st:=fun _ _=>rfl
 obtain ⟨zs',st',R,hz,ho⟩:=zi1 (fe:=(zp mr (zc (zd 0) (zc (zd 1) zh)))) (env:=[some (.tup xs),some (.tup ys)]) xs ys len (fun i zs s=>zs=(List.replicate i true).map PV.bl/\Old st s) (fun i x y zs s hx hy ⟨h1,h2⟩=>by
  obtain ⟨s1,e,o⟩:=hm i x y s h2 hx hy
  refine ⟨.bl true,s1,zt (zy (ze rfl) (ze rfl)) e,?_,h2.trans o⟩
  rw [h1,List.replicate_succ',jz];rfl) ys.length 0 [] st (by omega) ⟨rfl,Old.refl _⟩
 refine ⟨st'++[.lst zs'],?_,ho.trans (yc _ _)⟩
 have A:=zhR (st:=st'++[.lst zs']) (n:=st'.length) (bs:=List.replicate ys.length true) (by rw [<-hz];exact yi _ _)
 rw [allT] at A
 have lens:((xs.length:Int)=(ys.length:Int)):=by omega
 refine ya rfl ?_
 refine zq (zQ (zE (zt (zy (ze rfl) rfl) (by rw [ex];rfl)))) ?_
 refine zq (zQ (zE (zt (zy (ze rfl) rfl) (by rw [ex];rfl)))) ?_
 refine yK (yx (zE (zt (zy (ze rfl) rfl) (by rw [ex];rfl))) (zq (zQ (jO (zbb (b:=true) (zE (zt (zy (ze rfl) rfl) (by rw [ex];rfl)))) (zE (zm (zt (zB (ze rfl)) (zeI ..)) (zt (zB (ze rfl)) (zeI ..)) (by rw [zhV,zbN lens];rfl))))) (zW (zt (zB ?_) A))))
 rw [zpp,zol,zy (ze rfl) (ze rfl)]
 simp only [zP,zcz,imOf]
 exact (zH (by simp [zbv,lim];omega)).trans R
def zqX {a st:Sto}{mr:List PV->Mo PV}{ks:List Str}{xs ys:List PV}{p q:Nat}{S:List Nat}{ts:List Tr}(hp:a[p]?=some (.dic ks xs)) (hq:a[q]?=some (.dic ks ys)) (tr:TRs a ts xs) (tr':TRs a ts ys) (ll:ks.length=ys.length)
  (F:Fz S a st) (np:p∉S) (nq:q∉S)
  (hm:∀u x y s,u∈ts->Old (st.set q (.fdi ks ys)) s->TR a u x->TR a u y->∃s1,mr [x,y] s=.ok (.bl true) s1/\Old s s1):∃s1,zbi mr [.ref p,.ref q] st=.ok (.bl true) s1/\Old st s1:=by
 have gp:st[p]?=some (.dic ks xs):=F p _ np hp
 have gq:st[q]?=some (.dic ks ys):=F q _ nq hq
 have hlt:=zM gq
 have hl':=tr'.len
 have gq1:(st.set q (.fdi ks ys))[q]?=some (.fdi ks ys):=by rw [yZ hlt]
 have gp0:(st.set q (.fdi ks ys))[p]?=some (.fdi ks xs)\/(st.set q (.fdi ks ys))[p]?=some (.dic ks xs):=by
  by_cases e:q=p
  ·subst e
   rw [gp] at gq
   cases gq
   exact .inl gq1
  ·exact .inr (by rw [yh e];exact gp)
 have id1:∀n,wy isT [.ref q,.ty n] st=optB (tyb "dict" n) st:=fun n=>by
  show isiA isT st _ (soCls st[q]?) st=_
  rw [gq];rfl
 have id2:∀n,wy isT [.ref p,.ty n] st=optB (tyb "dict" n) st:=fun n=>by
  show isiA isT st _ (soCls st[p]?) st=_
  rw [gp];rfl
 have l1:=zhS gp
 have l2:=zhS gq
 obtain ⟨zs,s',R,hz,ho⟩:=zi2 (fe:=(zam (zj (zar false) (zd 0) (zd 1)) (zp mr (zc (zj wI (zd 1) (zd 0)) (zc (zj wI (zd 2) (zd 0)) zh))))) (env:=[some (.ref p),some (.ref q)]) ks (fun i zs s=>zs=(List.replicate i true).map PV.bl/\Old (st.set q (.fdi ks ys)) s) (fun i k zs s hk ⟨h1,h2⟩=>by
  have hu:=j3 hk
  obtain ⟨u,eu⟩:=ziX (us:=ts) (by omega) hu
  obtain ⟨y,hy,ty⟩:=zfr tr' eu
  obtain ⟨x,hx,tx⟩:=zfr tr eu
  obtain ⟨s1,e,o⟩:=hm u x y s (ziY eu) h2 tx ty
  have gq2:=h2 _ _ gq1
  have gp1:s[p]?=some (.fdi ks xs)\/s[p]?=some (.dic ks xs):=gp0.imp (fun g=>h2 _ _ g) (fun g=>h2 _ _ g)
  have i1:zar false (.str k) (.ref p) s=.ok (.bl true) s:=by
   rcases gp1 with g|g
   ·simp [zar,g,hx]
   ·simp [zar,g,j8,hx]
  have i2:wI (.ref p) (.str k) s=.ok x s:=by
   rcases gp1 with g|g
   ·simp [wI,g,hx]
   ·simp [wI,g,zw,zhc,wj,hx]
  have i3:wI (.ref q) (.str k) s=.ok y s:=by
   simp [wI,gq2,hy]
  refine ⟨.bl true,s1,zeJ (zm (ze rfl) (ze rfl) i1) (zt (zy (zm (ze rfl) (ze rfl) i2) (zm (ze rfl) (ze rfl) i3)) e),?_,h2.trans o⟩
  rw [h1,List.replicate_succ',jz];rfl) ks.length 0 [] (st.set q (.fdi ks ys)) (by omega) ⟨rfl,Old.refl _⟩
 have g3:(s'++[SO.lst zs])[q]?=some (.fdi ks ys):=yc _ _ _ _ (ho _ _ gq1)
 have hql:q<s'.length:=zM (ho _ _ gq1)
 refine ⟨(s'++[SO.lst zs]).set q (.dic ks ys),?_,fun m so e=>?_⟩
 ·have A:=zhR (st:=(s'++[SO.lst zs]).set q (.dic ks ys)) (n:=s'.length) (bs:=List.replicate ks.length true) (by rw [<-hz,yh (by omega)];exact yi _ _)
  rw [allT] at A
  have lens:((ks.length:Int)=(ks.length:Int)):=rfl
  refine ya rfl ?_
  refine zq (zQ (zE (zt (zy (ze rfl) rfl) (by rw [id1];rfl)))) ?_
  refine zq (zQ (zE (zt (zy (ze rfl) rfl) (by rw [id1];rfl)))) ?_
  refine zq (zQ (zE (zt (zy (ze rfl) rfl) (by rw [id1];rfl)))) ?_
  refine zq (zQ (jO (zbb (b:=true) (zE (zt (zy (ze rfl) rfl) (by rw [id2];rfl)))) (zE (zm (zt (zB (ze rfl)) l1) (zt (zB (ze rfl)) l2) (by rw [zhV,zbN lens];rfl))))) (zW (zt (zB ?_) A))
  rw [zpo,ze rfl]
  simp only [zP,zcI,zhQ gq]
  rw [List.drop_zero] at R
  refine (congrArg (fun r=>(noErr r).bind _) R).trans ?_
  simp only [zao,zP,thawM,g3]
 ·by_cases hm:q=m
  ·subst hm
   rw [gq] at e
   cases e
   rw [yZ (by simp;omega)]
  ·rw [yh hm]
   exact yc _ _ _ _ (ho m so (by rw [yh hm];exact e))
def zqY (n:Nat) (z:Str) (st:Sto):jW (n+1) [.str z,.str z] st=.ok (.bl true) st:=by
 have e:∀t,wy isT [.str z,.ty t] st=optB (tyb "str" t) st:=fun _=>rfl
 have q:wQ (.str z) (.str z) st=.ok (.bl true) st:=by
  unfold wQ
  rw [show eqT st 150 (.str z) (.str z)=some true by show some (z==z)=_;simp]
 show zbi (jW n) [.str z,.str z] st=_
 simp [zbi,yr,zfh,ziL,e,t5,t8,optB,q]
def zqZ {a:Sto}:∀(n:Nat) (t:Tr) (v w:PV) (S:List Nat) (st:Sto),dp t<n->sz t<=900000->Fz S a st->(∀m∈S,∃u',TR a u' (.ref m)/\dp t<dp u')->TR a t v->TR a t w->∃s1,jW n [v,w] st=.ok (.bl true) s1/\Old st s1:=by
 intro n
 induction n with
 | zero=>intro t v w S st h;omega
 | succ n ih =>
  intro t v w S st hd hz F big tv tw
  show ∃s1,zbi (jW n) [v,w] st=_/\_
  cases t with
  | num i =>
   cases tv;cases tw
   refine ⟨st,?_,Old.refl _⟩
   have e:∀t,wy isT [.int i,.ty t] st=optB (tyb "int" t) st:=fun _=>rfl
   have q:wQ (.int i) (.int i) st=.ok (.bl true) st:=by
    unfold wQ
    rw [show eqT st 150 (.int i) (.int i)=some true by show some (i==i)=_;simp]
   simp [zbi,yr,zfh,e,t4,t17,optB,q]
  | word z =>
   obtain ⟨rfl,_⟩:=tv
   obtain ⟨rfl,_⟩:=tw
   exact ⟨st,zqY n z st,Old.refl _⟩
  | row ts =>
   obtain ⟨xs,rfl,r1⟩:=tv
   obtain ⟨ys,rfl,r2⟩:=tw
   have l1:=r1.len
   have l2:=r2.len
   have hb:=ziV ts
   simp only [sz] at hz
   simp only [dp] at hd big
   refine zqW (by omega) (by omega) fun i x y s os hx hy=>?_
   obtain ⟨c,hc,tx⟩:=r1.get hx
   obtain ⟨c',hc',ty⟩:=r2.get hy
   rw [hc] at hc'
   cases hc'
   have hm:=j3 hc
   have hsz:=zfq hm
   have hdp:=wT hm
   exact ih c _ _ S s (by omega) (by omega) (F.old os) (fun m h=>by
    obtain ⟨u',h1,h2⟩:=big m h
    exact ⟨u',h1,by omega⟩) tx ty
  | rec_ ks ts =>
   have tv':=tv
   have tw':=tw
   obtain ⟨p,xs,rfl,g1,_,ll,r1,_⟩:=tv
   obtain ⟨q,ys,rfl,g2,_,ll2,r2,_⟩:=tw
   have np:∀m,TR a (.rec_ ks ts) (.ref m)->m∉S:=fun m h hm=>by
    obtain ⟨u,hu,hs⟩:=big m hm
    rw [TR.one _ _ h hu] at hs
    omega
   simp only [sz] at hz
   simp only [dp] at hd
   refine zqX g1 g2 r1 r2 ll2 F (np p tv') (np q tw') fun u x y s hu os tx ty=>?_
   have hsz:=zfq hu
   have hdp:=wT hu
   refine ih u x y (q::S) s (by omega) (by omega) (fun m so hm e=>os m so ?_) (fun m hm=>?_) tx ty
   ·rw [yh (fun e=>hm (by rw [e];exact yY ..))]
    exact F m so (fun h=>hm (jc _ h)) e
   ·rcases yQ.mp hm with e|e
    ·rw [e];exact ⟨_,tw',by simp only [dp];omega⟩
    ·obtain ⟨u',h1,h2⟩:=big m e
     exact ⟨u',h1,by simp only [dp] at h2;omega⟩
def zbj {st:Sto}{t:Tr}{v w:PV}(hd:dp t<75) (hz:sz t<=900000) (tv:TR st t v) (tw:TR st t w):∃s1,jW 75 [v,w] st=.ok (.bl true) s1/\Old st s1:=zqZ 75 t v w [] st hd hz (fun _ _ _ e=>e) (fun _ h=>nomatch h) tv tw
mutual
def gd:Tr->Prop
 | .num i => -1000000000000000000<i/\i<1000000000000000000
 | .word z=>isW z=true
 | .row ts=>gds ts
 | .rec_ ks ts=>ks.Nodup/\ks.length=ts.length/\(∀k∈ks,isW k=true)/\gds ts
def gds:List Tr->Prop
 | []=>True
 | t::ts=>gd t/\gds ts
end
def zcc:∀{ts:List Tr},gds ts↔∀t∈ts,gd t
 | []=>by simp [gds]
 | t::ts=>by simp [gds,zcc (ts:=ts)]
abbrev S (l:List Nat):Str:=⟨l.toArray⟩
def zi3 (z:Str):S z.cps.toList=z:=by cases z;simp [S]
def zbG (l:List Nat):(S l).length=l.length:=by show l.toArray.size=_;simp
def zdW (a b:List Nat):S a++S b=S (a++b):=by
 rw [<-zi3 (S a++S b),PySem.Str.cps_append]
 congr 1
 simp [S]
def zcd {z:Str}(h:isW z=true):1<=z.length/\z.length<=8:=by
 simp only [isW,we,za0] at h;exact h.1
def ad (x y:Str) (h:x.length+y.length<=1000000) (st:Sto):zZ (.str x) (.str y) st=.ok (.str (x++y)) st:=by
 rw [zoc,zH h]
def TR.old {a b:Sto}(o:Old a b) {t:Tr}{v:PV}(h:TR a t v):TR b t v:=h.mono o.dk t
def zi4 {α:Type}{l:List α}{i:Nat}{x:α}(h:l[i]?=some x):l.take (i+1)=l.take i++[x]:=by
 obtain ⟨hi,e⟩:=yI.mp h
 rw [<-e,List.take_append_getElem]
def vw (R:List Nat) (s:Sto):Sto:=s.mapIdx fun i so=>if i∈R then SO.lst [] else so
def zbH {R:List Nat}{s:Sto}{n:Nat}{ks:List Str}{xs:List PV}:(vw R s)[n]?=some (.dic ks xs)↔n∉R/\s[n]?=some (.dic ks xs):=by
 unfold vw
 rw [List.getElem?_mapIdx]
 cases h:s[n]? with
 | none=>simp
 | some so =>
  by_cases hn:n∈R
  ·simp [hn]
  ·simp [hn]
def zbk {R R':List Nat}{s s':Sto}(h:∀(n:Nat) ks xs,n∉R->s[n]?=some (SO.dic ks xs)->n∉R'/\s'[n]?=some (SO.dic ks xs)):Dk (vw R s) (vw R' s'):=fun n ks xs e=>zbH.mpr (h n ks xs (zbH.mp e).1 (zbH.mp e).2)
def jX {R:List Nat}{s s':Sto}(o:Old s s'):Dk (vw R s) (vw R s'):=zbk fun n _ _ h e=>⟨h,o n _ e⟩
def zi5 {R:List Nat}{s:Sto}:Dk (vw R s) s:=fun n ks xs e=>(zbH.mp e).2
def zi6 {R:List Nat}{s:Sto}{r:Nat}(so:SO):Dk (vw (r::R) s) (vw (r::R) (s.set r so)):=zbk fun n _ _ h e=>⟨h,by rw [yh (fun q=>h (by rw [q];exact yY ..))];exact e⟩
def zi7 {R:List Nat}{s:Sto}{r:Nat}:Dk (vw (r::R) s) (vw R s):=zbk fun n _ _ h e=>⟨fun m=>h (jc _ m),e⟩
def zdX {g:PV->zk->Option zk}{body:zk->Mo Fl}{n:Nat}(xs:List PV) (I:Nat->zk->Sto->Prop) (at_:∀i e st,I i e st->st[n]?=some (.lst xs)) (step:∀i x e st,xs[i]?=some x->I i e st->∃e1 e2 st2,g x e=some e1/\body e1 st=.ok (.nx e2) st2/\I (i+1) e2 st2) :
  ∀(k i m:Nat) (env:zk) (st:Sto),i+k=xs.length->k<m->I i env st->∃env' st',forR g body n m i env st=.ok (.nx env') st'/\I xs.length env' st'
 | 0,i,m,env,st,hk,hm,h=>by
  obtain ⟨m,rfl⟩:∃j,m=j+1:=⟨m-1,by omega⟩
  refine ⟨env,st,?_,by rw [<-hk];exact h⟩
  unfold forR
  rw [yb (at_ _ _ _ h),zd8 (by omega)]
 | k+1,i,m,env,st,hk,hm,h=>by
  obtain ⟨m,rfl⟩:∃j,m=j+1:=⟨m-1,by omega⟩
  have hx:xs[i]?=some (xs[i]'(by omega)):=zU (by omega)
  obtain ⟨e1,e2,st2,q1,q2,q3⟩:=step i _ env st hx h
  obtain ⟨env',st',r,h2⟩:=zdX xs I at_ step k (i+1) m e2 st2 (by omega) (by omega) q3
  refine ⟨env',st',?_,h2⟩
  unfold forR
  rw [yb (at_ _ _ _ h),hx]
  simp only
  rw [q1]
  simp only
  rw [q2]
  simp only [zP]
  exact r
def atI_get {α:Type}{l:List α}{k:Nat}{x:α}(h:l[k]?=some x):atI l (k:Int)=some x:=by
 have:=(yI.mp h).1
 have e:=(yI.mp h).2
 simp [atI,ixN,this,e]
def zfs (st:Sto):w9 (.int 10) (.int 9) st=.ok (.int 1000000000) st:=by
 have cp:cPow 10 9=true:=by decide
 have pw:((10:Int) ^ (9:Int).toNat)=1000000000:=by decide
 show (if cPow 10 9=true then Res.ok (PV.int (10 ^ (9:Int).toNat)) st else .stuck)=_
 rw [zH cp,pw]
def zi8 (st:Sto):w9 (.int 10) (.int 17) st=.ok (.int 100000000000000000) st:=by
 have cp:cPow 10 17=true:=by decide
 have pw:((10:Int) ^ (17:Int).toNat)=100000000000000000:=by decide
 show (if cPow 10 17=true then Res.ok (PV.int (10 ^ (17:Int).toNat)) st else .stuck)=_
 rw [zH cp,pw]
def zi9 (st:Sto):w9 (.int 10) (.int 18) st=.ok (.int 1000000000000000000) st:=by
 have cp:cPow 10 18=true:=by decide
 have pw:((10:Int) ^ (18:Int).toNat)=1000000000000000000:=by decide
 show (if cPow 10 18=true then Res.ok (PV.int (10 ^ (18:Int).toNat)) st else .stuck)=_
 rw [zH cp,pw]
def ltT {i j:Int}(b:Bool) (h:decide (i<j)=b) (st:Sto):oLt (.int i) (.int j) st=.ok (.bl b) st:=by rw [zpv,h]
def eqT' {i j:Int}(b:Bool) (h:decide (i=j)=b) (st:Sto):ye (.int i) (.int j) st=.ok (.bl b) st:=by rw [zdF,h]
def gtT {i j:Int}(b:Bool) (h:decide (j<i)=b) (st:Sto):j5 (.int i) (.int j) st=.ok (.bl b) st:=by rw [zhU,h]
def zja (cs:List Nat):PySem.Txt.join ("" : Str) (cs.map fun c=>(⟨#[c]⟩:Str))=S cs:=by
 show PySem.Builtin.Str.glued ("" : Str) (cs.map fun c=>(⟨#[c]⟩:Str))=_
 rw [PySem.StrLaws.glued_eq_join]
 have e0:("" : Str)=S []:=by decide +kernel
 rw [e0]
 induction cs with
 | nil=>rfl
 | cons c r ih =>
  cases r with
  | nil=>rfl
  | cons d r' =>
   show S [c]++S []++Str.join (S []) ((d::r').map fun c=>(⟨#[c]⟩:Str))=_
   rw [ih,zdW,zdW]
   simp
def ji (j:Nat):Nat:=(abc.cps.toList[j]?).getD 0
def zbl (j:Nat) (hj:j<26) (st:Sto):zw (.str abc) (.int j) st=.ok (.str ⟨#[ji j]⟩) st/\ji j∈abc.cps.toList:=by
 have hz:abc.cps.toList.length=26:=by decide +kernel
 have lt:j<abc.cps.toList.length:=by omega
 have hl:abc.length<=1000000:=by decide +kernel
 have e:abc.cps.toList[j]?=some (ji j):=by unfold ji;rw [zU lt];rfl
 refine ⟨?_,j3 e⟩
 rw [zez,zop,zH hl,atI_get e]
 rfl
def zq0 {n i:Nat}{x:PV}(h:(nums 0 n)[i]?=some x):i<n/\x=.int (i:Int):=by
 unfold nums at h
 rw [jk] at h
 cases e:(List.range n)[i]? with
 | none=>rw [e] at h;cases h
 | some j =>
  rw [e] at h
  obtain ⟨h1,h2⟩:=yI.mp e
  rw [List.getElem_range] at h2
  rw [zaY] at h1
  cases h
  exact ⟨h1,by subst h2;simp⟩
def zft (n:Nat):(nums 0 n).length=n:=by simp [nums]
def zq1 (m:Nat) (st:Sto) (h:m<=1000):zbu [.int (m:Int)] st=.ok (.im (nums 0 m)) st:=by
 have hr:cR (m:Int)=true:=by simp [cR];omega
 rw [zoD,zH hr];simp
def zay {fe:zk->Mo PV}{fs:zk->Mo (List PV)}{env:zk}{st s0:Sto}(n:Nat) (hn:n<=1000) (hf:fs env st=.ok [.int (n:Int)] s0) (I:Nat->List PV->Sto->Prop) (step:∀i ys st,i<n->I i ys st->∃y st1,fe (some (.int (i:Int))::env) st=.ok y st1/\I (i+1) (ys++[y]) st1) (h0:I 0 [] s0) :
  ∃ys' st',(jh (iRng1 fs) fe) env st=.ok (.ref st'.length) (st'++[.lst ys'])/\I n ys' st':=by
 obtain ⟨ys,s1,C,h⟩:=ziZ (fe:=fe) (env:=env) (nums 0 n) I (fun i x ys st hx h=>by
  obtain ⟨hi,rfl⟩:=zq0 hx
  exact step i ys st hi h) n 0 [] s0 (by rw [zft];omega) h0
 rw [zft] at h
 refine ⟨ys,s1,?_,h⟩
 rw [zdA,zhr,hf,zP,zq1 n _ hn,zP,zeA,zH (by rw [zft];simp [lim];omega)]
 exact C
def zfu:∀cs:List Nat,strsOf (cs.map fun c=>PV.str ⟨#[c]⟩)=some (cs.map fun c=>(⟨#[c]⟩:Str))
 | []=>rfl
 | c::cs=>by simp [strsOf,zfu cs]
def zfv:∀cs:List Nat,((cs.map fun c=>(⟨#[c]⟩:Str)).map (·.length)).sum=cs.length
 | []=>rfl
 | c::cs=>by have:=zfv cs;simp only [jH,List.sum_cons,wq,this];show 1+_=_;omega
def zjb {cs:List Nat}(h1:1<=cs.length) (h8:cs.length<=8) (hc:∀c∈cs,c∈abc.cps.toList):isW (S cs)=true:=by
 unfold isW
 rw [zbG]
 simp only [we,za0,List.all_eq_true]
 exact ⟨⟨h1,h8⟩,fun c h=>hc c (by simpa [S] using h)⟩
def le0:("" : Str).length=0:=by decide +kernel
def zjd {z:Str}{fa:zk->Mo PV}{e:zk}{st s1:Sto}{r:Nat}{xs:List PV}{zs:List Str}(h:fa e st=.ok (.ref r) s1) (hr:s1[r]?=some (.lst xs)) (hz:strsOf xs=some zs) (hl:(zs.map (·.length)).sum+zs.length*z.length<=1000000):zdG (mC (.str z)) fa e st=.ok (.str (PySem.Txt.join z zs)) s1:=by
 show (fa e st).bind _=_
 rw [h,zP]
 show yo s1 r _=_
 rw [yb hr,hz]
 exact zH hl
def zac {m:Nat}:∀{ts:List Tr},(∀t∈ts,sz t<=m)->szs ts<=ts.length*m
 | [],_=>by simp [szs]
 | t::ts,h=>by
  have:=h t (yY ..)
  have:=zac (ts:=ts) fun u hu=>h u (jc _ hu)
  simp only [szs,wq,Nat.add_mul];omega
def zje {fo fi fv:zk->Mo PV}{e:zk}{s s1:Sto}{r:Nat}{z:Str}{x:PV}{ks:List Str}{xs:List PV}(hv:fv e s=.ok x s1) (ho:fo e s1=.ok (.ref r) s1) (hi:fi e s1=.ok (.str z) s1) (hr:s1[r]?=some (.dic ks xs)) (hl:ks.length<=1000) :
  zbx fo fi fv e s=.ok (.nx e) (s1.set r (.dic (wH z x ks xs).1 (wH z x ks xs).2)):=by
 unfold zbx
 rw [hv,zP,ho,zP,hi,zP]
 show (wj s1 r _).bind _=_
 rw [zhQ hr,zH (by simp [lim];omega),zP]
def zad {fs:zk->Mo (List PV)}{gt:PV->zk->Option zk}{body:zk->Mo Fl}{e:zk}{st s0:Sto}(I:Nat->zk->Sto->Prop) (n:Nat) (hn:n<=1000) (hf:fs e st=.ok [.int (n:Int)] s0) (step:∀i e st,i<n->I i e st->∃e1 e2 st2,gt (.int (i:Int)) e=some e1/\body e1 st=.ok (.nx e2) st2/\I (i+1) e2 st2) (h0:I 0 e s0) :
  ∃e' s',yU (iRng1 fs) gt body e st=.ok (.nx e') s'/\I n e' s':=by
 obtain ⟨e',s',F,h⟩:=ziW (g:=gt) (body:=body) I n step n 0 e s0 (by omega) h0
 refine ⟨e',s',?_,h⟩
 rw [zan,zhr,hf,zP,zqV n _ hn,zP,zom]
 exact F
abbrev sR (n:Nat):Option PV:=some (.ref n)
abbrev sI (n:Nat):Option PV:=some (.int (n:Int))
def Dc (d:Nat) (l:List Int) (s:Sto):Prop:=s[d]?=some (.lst (l.map PV.int))
structure Nx (d:Nat) (l:List Int) (a b:Sto):Prop where
 ob:Ob d a b
 dc:Dc d l b
def Nx.trans {d:Nat}{l l':List Int}{a b c:Sto}(h:Nx d l a b) (h':Nx d l' b c):Nx d l' a c:=⟨h.ob.trans h'.ob,h'.dc⟩
def Nx.refl {d:Nat}{l:List Int}{a:Sto}(h:Dc d l a):Nx d l a a:=⟨fun _ _ _ e=>e,h⟩
def Nx.of {d:Nat}{l:List Int}{a b:Sto}(h:Dc d l a) (o:Old a b):Nx d l a b:=⟨zqT o,o _ _ h⟩
def Nx.lt {d:Nat}{l:List Int}{a b:Sto}(h:Nx d l a b) {n:Nat}(hn:n<a.length):n<b.length:=by
 by_cases e:n=d
 ·rw [e];exact zM h.dc
 ·exact zM (h.ob n _ e (zU hn))
def Nx.vw {d:Nat}{l l0:List Int}{a b:Sto}{R:List Nat}(h:Nx d l a b) (hd:Dc d l0 a):Dk (FK25.vw R a) (FK25.vw R b):=zbk fun n ks xs hn e=>⟨hn,h.ob n _ (fun q=>by rw [q,show a[d]?=_ from hd] at e;cases e) e⟩
def rn (l:List Int) (m:Nat):Nat:=match l with
 | []=>0
 | i::_=>(jK i m).toNat
def yW {m:Nat}(hm:0<m) (l:List Int):rn l m<m:=by
 cases l with
 | nil=>exact hm
 | cons i l=>obtain ⟨b,hb,e⟩:=modNat i m hm;show (jK i m).toNat<m;rw [e];simpa using hb
def yu {d:Nat}{l:List Int}{st:Sto}(hd:Dc d l st) (m:Nat) (hm:0<m):∃(s1:Sto),yz [.ref d,.int (m:Int)] st=.ok (.int (rn l m:Int)) s1/\Nx d l.tail st s1:=by
 have e:st[d]?=some (.lst (l.map PV.int)):=hd
 cases l with
 | nil =>
  exact ⟨st,ya rfl (yK (yx (zE (zm (zt (zB (ze rfl)) (j9 e)) rfl (zdF _ _))) (zW rfl))),Nx.refl hd⟩
 | cons i l =>
  obtain ⟨b,hb,eb⟩:=modNat i m hm
  have er:rn (i::l) m=b:=by show (jK i m).toNat=b;rw [eb];simp
  have e1:(st.set d (.lst (l.map PV.int)))[d]?=some (.lst (l.map PV.int)):=yZ (zM e)
  refine ⟨st.set d (.lst (l.map PV.int)),ya rfl (zq (zQ (zE (zm (zt (zB (ze rfl)) (j9 e)) rfl ((zdF _ _).trans (by rw [wu (by simp;omega)]))))) (zW (zm (jV (ze rfl) e rfl (by
   show yo st d _=_
   rw [yb e]
   rfl)) (ze rfl) ((zbd _ _ (by omega)).trans (by rw [eb,er]))))),⟨zqU d st _,e1⟩⟩
def DrawsI (m:List PV->Mo PV) (l l':List Int) (i:Int):Prop:=∀d st,Dc d l st->∃s1,m [.ref d] st=.ok (.int i) s1/\Nx d l' st s1
def zdY (l:List Int):∃i l',gd (.num i)/\DrawsI zdO l l' i:=by
 have hw:=yW (m:=6) (by decide) l
 by_cases c1:rn l 6<2
 ·have hr:=yW (m:=10) (by decide) l.tail
  refine ⟨rn l.tail 10,l.tail.tail,⟨by omega,by omega⟩,fun d st hd=>?_⟩
  obtain ⟨s1,e1,n1⟩:=yu hd 6 (by decide)
  obtain ⟨s2,e2,n2⟩:=yu n1.dc 10 (by decide)
  exact ⟨s2,ya rfl (zq (zG (zt (zy (ze rfl) rfl) e1)) (yK (yx (zE (zm (ze rfl) rfl (ltT true (by simp;omega) _))) (zW (zt (zy (ze rfl) rfl) e2))))),n1.trans n2⟩
 by_cases c2:rn l 6=2
 ·have hr:=yW (m:=1000) (by decide) l.tail
  refine ⟨0-(rn l.tail 1000:Int),l.tail.tail,⟨by omega,by omega⟩,fun d st hd=>?_⟩
  obtain ⟨s1,e1,n1⟩:=yu hd 6 (by decide)
  obtain ⟨s2,e2,n2⟩:=yu n1.dc 1000 (by decide)
  exact ⟨s2,ya rfl (zq (zG (zt (zy (ze rfl) rfl) e1)) (zq (zQ (zE (zm (ze rfl) rfl (ltT false (by simp;omega) _)))) (yK (yx (zE (zm (ze rfl) rfl (eqT' true (by simp;omega) _))) (zW (zm rfl (zt (zy (ze rfl) rfl) e2) (wz _ _))))))),n1.trans n2⟩
 by_cases c3:rn l 6=3
 ·let L:List Int:=[1000000000000000000-1,1-1000000000000000000,100000000000000000,1-100000000000000000,99,-10]
  have hr:rn l.tail 6<L.length:=yW (m:=6) (by decide) l.tail
  have hx:L[rn l.tail 6]?=some (L[rn l.tail 6]'hr):=zU hr
  have g:gd (.num (L[rn l.tail 6]'hr)):=by
   have:∀x∈L,-1000000000000000000<x/\x<1000000000000000000:=by decide
   exact this _ (jy _)
  refine ⟨L[rn l.tail 6]'hr,l.tail.tail,g,fun d st hd=>?_⟩
  obtain ⟨s1,e1,n1⟩:=yu hd 6 (by decide)
  have nd:Nx d l.tail s1 (s1++[.lst (L.map PV.int)]):=Nx.of n1.dc (yc _ _)
  obtain ⟨s2,e2,n2⟩:=yu nd.dc 6 (by decide)
  have hL:s2[s1.length]?=some (.lst (L.map PV.int)):=by
   refine n2.ob _ _ ?_ (yi _ _)
   have:=zM n1.dc
   omega
  exact ⟨s2,ya rfl (zq (zG (zt (zy (ze rfl) rfl) e1)) (zq (zQ (zE (zm (ze rfl) rfl (ltT false (by simp;omega) _)))) (zq (zQ (zE (zm (ze rfl) rfl (eqT' false (by simp;omega) _)))) (yK (yx (zE (zm (ze rfl) rfl (eqT' true (by simp;omega) _))) (zq (zG (jp (xs:=L.map PV.int) (y9 (zm (zm rfl rfl (zi9 _)) rfl (wz _ _)) (y9 (zm rfl (zm rfl rfl (zi9 _)) (wz _ _)) (y9 (zm rfl rfl (zi8 _)) (y9 (zm rfl (zm rfl rfl (zi8 _)) (wz _ _)) (y9 rfl (zB (zaa rfl rfl)))))))
   (by simp [L]))) (zW (zm (ze rfl) (zt (zy (ze rfl) rfl) e2) (by
    rw [wo,yb hL,atI_get (x:=PV.int (L[rn l.tail 6]'hr)) (by rw [jk,hx];rfl)]
    rfl))))))))),n1.trans (nd.trans n2)⟩
 have ha:=yW (m:=1000000000) (by decide) l.tail
 have hb:=yW (m:=1000000000) (by decide) l.tail.tail
 have hm:∀n:Nat,n<2->∀(x y:PV),atI [x,y] (n:Int)=some (if n=0 then x else y):=fun n hn x y=>by
  match n,hn with
  | 0,_=>rfl
  | 1,_=>rfl
 obtain ⟨k,hk,ek⟩:=modNat (rn l 6:Int) 2 (by decide)
 have ek:jK (rn l 6:Int) 2=(k:Int):=ek
 refine ⟨if k=0 then (rn l.tail 1000000000:Int)*1000000000+rn l.tail.tail 1000000000 else 0-((rn l.tail 1000000000:Int)*1000000000+rn l.tail.tail 1000000000),l.tail.tail.tail,?_,fun d st hd=>?_⟩
 ·split
  ·exact ⟨by omega,by omega⟩
  ·exact ⟨by omega,by omega⟩
 obtain ⟨s1,e1,n1⟩:=yu hd 6 (by decide)
 obtain ⟨s2,e2,n2⟩:=yu n1.dc 1000000000 (by decide)
 obtain ⟨s3,e3,n3⟩:=yu n2.dc 1000000000 (by decide)
 have n4:Nx d l.tail.tail.tail s3 (s3++[.lst [.int ((rn l.tail 1000000000:Int)*1000000000+rn l.tail.tail 1000000000),.int (0-((rn l.tail 1000000000:Int)*1000000000+rn l.tail.tail 1000000000))]]):=Nx.of n3.dc (yc _ _)
 refine ⟨_,ya rfl (zq (zG (zt (zy (ze rfl) rfl) e1)) (zq (zQ (zE (zm (ze rfl) rfl (ltT false (by simp;omega) _)))) (zq (zQ (zE (zm (ze rfl) rfl (eqT' false (by simp;omega) _)))) (zq (zQ (zE (zm (ze rfl) rfl (eqT' false (by simp;omega) _)))) (zq (zG (zm (zm (zt (zy (ze rfl) (zm rfl rfl (zfs _))) e2) (zm rfl rfl (zfs _)) (zaS _ _ (by simp [cMul]))) (zt (zy (ze rfl) (zm rfl rfl (zfs _))) e3) (zat _ _)))
  (zW (zm (jp (zy (ze rfl) (zm rfl (ze rfl) (wz _ _))) (by simp)) (zm (ze rfl) rfl ((zbd _ _ (by decide)).trans (by rw [ek]))) (by
   rw [wo,yb (yi _ _),hm k hk _ _]
   split<;>rfl)))))))),n1.trans (n2.trans (n3.trans n4))⟩
def DrawsS (m:List PV->Mo PV) (l l':List Int) (z:Str):Prop:=∀d st,Dc d l st->∃s1,m [.ref d] st=.ok (.str z) s1/\Nx d l' st s1
def wk (c w i:Nat):Nat:=(jK (wG (c:Int) (1+(i:Int)*i*i)+(i:Int)*(1+(w:Int))) 26).toNat
def zjf (c w i:Nat):wk c w i<26/\jK (wG (c:Int) (1+(i:Int)*i*i)+(i:Int)*(1+(w:Int))) 26=(wk c w i:Int):=by
 obtain ⟨k,hk,ek⟩:=modNat (wG (c:Int) (1+(i:Int)*i*i)+(i:Int)*(1+(w:Int))) 26 (by decide)
 have ek:jK (wG (c:Int) (1+(i:Int)*i*i)+(i:Int)*(1+(w:Int))) 26=(k:Int):=ek
 unfold wk
 rw [ek]
 exact ⟨by simpa using hk,by simp⟩
def zcZ (l:List Int):∃z l',isW z=true/\DrawsS zaT l l' z:=by
 have hw:=yW (m:=8) (by decide) l
 have hc:=yW (m:=1000000007) (by decide) l.tail
 generalize ew:rn l 8=w at hw
 generalize ec:rn l.tail 1000000007=c at hc
 have hcs:∀x∈(List.range (1+w)).map (fun j=>ji (wk c w j)),x∈abc.cps.toList:=fun x hx=>by
  obtain ⟨j,_,rfl⟩:=j4.mp hx
  exact (zbl _ (zjf c w j).1 []).2
 refine ⟨S ((List.range (1+w)).map fun j=>ji (wk c w j)),l.tail.tail,zjb (by simp) (by simp;omega) hcs,fun d st hd=>?_⟩
 obtain ⟨s1,e1,n1⟩:=yu hd 8 (by decide)
 obtain ⟨s2,e2,n2⟩:=yu n1.dc 1000000007 (by decide)
 rw [ew] at e1
 rw [ec] at e2
 have sz1:(1:Int)+(w:Int)=((1+w:Nat):Int):=by omega
 obtain ⟨ys,s3,C,hy,hs⟩:=zay (fe:=(zj zw (zd 2) (zj yt (zj zZ (zj jb (zd 4) (zj zZ (mC (.int 1)) (zj yD (zj yD (zd 0) (zd 0)) (zd 0)))) (zj yD (zd 0) (zd 3))) (mC (.int 26))))) (fs:=(zc (zd 2) zh)) (env:=[sR d,some (.str abc),some (.int (1+(w:Int))),some (.int c)]) (st:=s2) (1+w) (by omega) (zB (by rw [<-sz1];exact ze rfl))
  (fun i ys s=>ys=((List.range i).map fun j=>ji (wk c w j)).map (fun c=>PV.str ⟨#[c]⟩)/\s=s2) (fun i ys s hi ⟨h1,h4⟩=>by
   subst h4
   obtain ⟨hk,ek⟩:=zjf c w i
   have hi8:(i:Int)<=8:=by omega
   have p1:(i:Int)*i<=8*8:=Int.mul_le_mul hi8 hi8 (by omega) (by omega)
   have p0:0<=(i:Int)*i:=Int.mul_nonneg (by omega) (by omega)
   have p2:(i:Int)*i*i<=8*8*8:=Int.mul_le_mul p1 hi8 (by omega) (by omega)
   have p3:0<=(i:Int)*i*i:=Int.mul_nonneg p0 (by omega)
   have L:=zbl (wk c w i) hk s
   exact ⟨.str ⟨#[ji (wk c w i)]⟩,s,zm (ze rfl) (zm (zm (zm (ze rfl) (zm rfl (zm (zm (ze rfl) (ze rfl) (zaS _ _ (by simp [cMul];omega))) (ze rfl) (zaS _ _ (by simp [cMul];omega))) (zat _ _)) (zeK _ _ (by omega) (by omega))) (zm (ze rfl) (ze rfl) (zaS _ _ (by simp [cMul];omega))) (zat _ _)) rfl ((zbd _ _ (by decide)).trans (by rw [ek]))) L.1,by rw [h1,jI,jz,jz];rfl,rfl⟩) ⟨rfl,rfl⟩
 subst hs
 exact ⟨s3++[.lst ys],ya rfl (zq (zG rfl) (zq (zG (zm rfl (zt (zy (ze rfl) rfl) e1) (zat _ _))) (zq (zG (zt (zy (ze rfl) rfl) e2)) (zW ((zjd C (yi _ _) (by rw [hy];exact zfu _) (by rw [zfv,le0];simp;omega)).trans (by rw [zja])))))),(n1.trans n2).trans (Nx.of n2.dc (yc _ _))⟩
def Draws (m:List PV->Mo PV) (xs:List PV) (l l':List Int) (t:Tr):Prop:=∀d st R,Dc d l st->(∀r∈R,r<st.length)->∃v s1,m (.ref d::xs) st=.ok v s1/\TR (vw R s1) t v/\Nx d l' st s1
def itr {α:Type}(N:α->α):Nat->α->α
 | 0,l=>l
 | i+1,l=>N (itr N i l)
def zae (z:Str) (t:Tr) (ks:List Str) (ts:List Tr):List Str×List Tr:=if ks.contains z=true then (ks,repl z t ks ts) else (ks++[z],ts++[t])
def zjg {a:Sto}{z:Str}{x:PV}{t:Tr}(tt:TR a t x):∀{ks:List Str}{ts:List Tr}{xs:List PV},TRs a ts xs->TRs a (repl z t ks ts) (repl z x ks xs)
 | [],ts,xs,h=>by unfold repl;exact h
 | k::ks,[],xs,h=>by cases h;unfold repl;rfl
 | k::ks,t0::ts,xs,h=>by
  obtain ⟨y,r,rfl,h1,h2⟩:=h
  have g:=zjg (z:=z) tt (ks:=ks) h2
  unfold repl
  by_cases e:k=z
  ·rw [zH e,zH e];exact ⟨x,_,rfl,tt,g⟩
  ·rw [zX e,zX e];exact ⟨y,_,rfl,h1,g⟩
def zjh {a:Sto}{z:Str}{x:PV}{t:Tr}{ks:List Str}{ts:List Tr}{xs:List PV}(tr:TRs a ts xs) (tt:TR a t x):(zae z t ks ts).1=(wH z x ks xs).1/\TRs a (zae z t ks ts).2 (wH z x ks xs).2:=by
 unfold zae wH
 by_cases h:ks.contains z=true
 ·rw [zH h,zH h];exact ⟨rfl,zjg tt tr⟩
 ·rw [zX h,zX h];exact ⟨rfl,tr.append ⟨x,[],rfl,tt,rfl⟩⟩
def repl_len {α:Type}{z:Str}{x:α}:∀(ks:List Str) (ts:List α),(repl z x ks ts).length=ts.length
 | [],ts=>by unfold repl;rfl
 | k::ks,[]=>by unfold repl;rfl
 | k::ks,t::ts=>by unfold repl;simp [repl_len ks ts]
def zji {α:Type}{z:Str}{x u:α}:∀{ks:List Str}{ts:List α},u∈repl z x ks ts->u∈ts\/u=x
 | [],ts,h=>by unfold repl at h;exact .inl h
 | k::ks,[],h=>by unfold repl at h;exact .inl h
 | k::ks,t::ts,h=>by
  unfold repl at h
  rcases yQ.mp h with q|q
  ·split at q
   ·exact .inr q
   ·exact .inl (by rw [q];exact yY ..)
  ·exact (zji q).imp (fun h=>jc _ h) id
structure Fld (P:Tr->Prop) (i:Nat) (ks:List Str) (ts:List Tr):Prop where
 nd:ks.Nodup
 len:ks.length=ts.length
 le:ts.length<=i
 all:∀t∈ts,P t
 wd:∀k∈ks,isW k=true
def Fld.put {P:Tr->Prop}{i:Nat}{ks:List Str}{ts:List Tr}(h:Fld P i ks ts) {z:Str}{t:Tr}(hz:isW z=true) (ht:P t):Fld P (i+1) (zae z t ks ts).1 (zae z t ks ts).2:=by
 unfold zae
 by_cases hc:ks.contains z=true
 ·rw [zH hc]
  exact ⟨h.nd,by simp only [repl_len];exact h.len,by simp only [repl_len];have:=h.le;omega,fun u hu=>(zji hu).elim (h.all u) (fun e=>by rw [e];exact ht),h.wd⟩
 ·rw [zX hc]
  have hz':z∉ks:=by simpa using hc
  refine ⟨?_,by simp [h.len],by simp only [jG,zbp];have:=h.le;omega,fun u hu=>?_,fun k hk=>?_⟩
  ·simp only
   rw [List.nodup_append]
   exact ⟨h.nd,by simp,fun a ha b hb=>by rw [jw.mp hb];exact fun e=>hz' (e▸ha)⟩
  ·rcases wE.mp hu with q|q
   ·exact h.all u q
   ·rw [jw.mp q];exact ht
  ·rcases wE.mp hk with q|q
   ·exact h.wd k q
   ·rw [jw.mp q];exact hz
def bd:Nat->Nat
 | 0=>1
 | k+1=>1+3*bd k
def zq2:∀b,1<=bd b
 | 0=>by simp [bd]
 | k+1=>by simp only [bd];omega
def pick2 {α β γ:Type}{P:α->β->γ->Prop}(h:∀a,∃b c,P a b c):∃(f:α->β) (g:α->γ),∀a,P a (f a) (g a):=⟨fun a=>(h a).choose,fun a=>(h a).choose_spec.choose,fun a=>(h a).choose_spec.choose_spec⟩
def rcs (Z:List Int->Str) (M:List Int->List Int) (T:List Int->Tr) (N:List Int->List Int):List Int×List Str×List Tr->List Int×List Str×List Tr:=fun q=>(N (M q.1),zae (Z q.1) (T (M q.1)) q.2.1 q.2.2)
def zjj {Z:List Int->Str}{M:List Int->List Int}{T:List Int->Tr}{N:List Int->List Int}{P:Tr->Prop}(hz:∀l,isW (Z l)=true) (hT:∀l,P (T l)) (l:List Int):∀i,Fld P i (itr (rcs Z M T N) i (l,[],[])).2.1 (itr (rcs Z M T N) i (l,[],[])).2.2
 | 0=>⟨.nil,rfl,yf _,(fun _ h=>nomatch h),(fun _ h=>nomatch h)⟩
 | i+1=>(zjj hz hT l i).put (hz _) (hT _)
def zq3:∀(n b:Nat) (l:List Int),b<n->∃t l',(gd t/\dp t<=b/\sz t<=bd b)/\Draws (wA n) [.int (b:Int)] l l' t:=by
 intro n
 induction n with
 | zero=>intro b l h;omega
 | succ n ih =>
  intro b l hb
  have hw:=yW (m:=8) (by decide) l
  have bp:=zq2 b
  generalize ew:rn l 8=w at hw
  show ∃t l',_/\Draws (ze9 (wA n)) _ _ _ _
  have A:∀{d:Nat} {st s1:Sto} {X:Res Fl},yz [.ref d,.int ((8:Nat):Int)] st=.ok (.int (rn l 8:Int)) s1->ziC (wA n) [sR d,sI b,sI w,none,none,none] s1=X->zdP (wA n) [sR d,sI b,none,none,none,none] st=X:=fun e1 h=>zq (zG (zt (zy (ze rfl) rfl) (by rw [ew] at e1;exact e1))) h
  by_cases c1:w=3\/w=4
  ·obtain ⟨z,l2,hz,D⟩:=zcZ l.tail
   refine ⟨.word z,l2,⟨hz,by simp [dp],by simp only [sz];omega⟩,fun d st R hd hR=>?_⟩
   obtain ⟨s1,e1,n1⟩:=yu hd 8 (by decide)
   obtain ⟨s2,e2,n2⟩:=D d s1 n1.dc
   refine ⟨.str z,s2,ya rfl (A e1 (yK (yx ?_ (zW (zt (zB (ze rfl)) e2))))),⟨rfl,by have:=zcd hz;omega⟩,n1.trans n2⟩
   rcases c1 with c|c
   ·exact zcN (zE (zm (ze rfl) rfl (eqT' true (by simp;omega) _)))
   ·exact jO (zE (zm (ze rfl) rfl (eqT' false (by simp;omega) _))) (zE (zm (ze rfl) rfl (eqT' true (by simp;omega) _)))
  have B:∀{d:Nat} {st s1:Sto} {X:Res Fl},yz [.ref d,.int ((8:Nat):Int)] st=.ok (.int (rn l 8:Int)) s1->ziB (wA n) [sR d,sI b,sI w,none,none,none] s1=X->zdP (wA n) [sR d,sI b,none,none,none,none] st=X:=fun e1 h=>A e1 (zq (zQ (jO (zE (zm (ze rfl) rfl (eqT' false (by simp;omega) _))) (zE (zm (ze rfl) rfl (eqT' false (by simp;omega) _))))) h)
  by_cases c2:0<b/\(w=5\/w=6)
  ·have hm:=yW (m:=4) (by decide) l.tail
   obtain ⟨b',rfl⟩:∃b',b=b'+1:=⟨b-1,by omega⟩
   have ee:((b'+1:Nat):Int)-1=(b':Int):=by omega
   have H:=fun l=>ih b' l (by omega)
   obtain ⟨T,N,hTD⟩:=pick2 H
   have hT:=fun l=>(hTD l).1
   have hD:=fun l=>(hTD l).2
   generalize em:rn l.tail 4=m at hm
   let us:Nat->List Tr:=fun i=>(List.range i).map fun j=>T (itr N j l.tail.tail)
   have hus:∀i,∀t∈us i,gd t/\dp t<=b'/\sz t<=bd b':=fun i t ht=>by
    obtain ⟨j,_,rfl⟩:=j4.mp ht
    exact hT _
   have hul:∀i,(us i).length=i:=fun i=>by simp [us]
   refine ⟨.row (us m),itr N m l.tail.tail,⟨zcc.mpr fun t ht=>(hus m t ht).1,?_,?_⟩,fun d st R hd hR=>?_⟩
   ·have:=wL (ts:=us m) fun t ht=>(hus m t ht).2.1
    simp only [dp];omega
   ·have:=zac (ts:=us m) fun t ht=>(hus m t ht).2.2
    have h3:(us m).length*bd b'<=3*bd b':=zbO _ (by rw [hul];omega)
    simp only [sz,bd];omega
   obtain ⟨s1,e1,n1⟩:=yu hd 8 (by decide)
   obtain ⟨s2,e2,n2⟩:=yu n1.dc 4 (by decide)
   rw [em] at e2
   obtain ⟨ys,s3,C,q1,q4⟩:=zay (fe:=(zp (wA n) (zc (zd 1) (zc (zj jd (zd 2) (mC (.int 1))) zh)))) (fs:=(zc (zp yz (zc (zd 0) (zc (mC (.int 4)) zh))) zh)) (env:=[sR d,some (.int ((b'+1:Nat):Int)),sI w,none,none,none]) (st:=s1) m (by omega) (zB (zt (zy (ze rfl) rfl) e2))
    (fun i ys s=>TRs (vw R s) (us i) ys/\Nx d (itr N i l.tail.tail) s2 s) (fun i ys s hi ⟨h1,h4⟩=>by
     obtain ⟨v,s4,e4,k1,k5⟩:=hD _ d s R h4.dc (fun r hr=>(n1.trans (n2.trans h4)).lt (hR r hr))
     refine ⟨v,s4,zt (zy (ze rfl) (zm (ze rfl) rfl ((wz _ _).trans (by rw [ee])))) e4,?_,h4.trans k5⟩
     show TRs _ ((List.range (i+1)).map _) _
     rw [jI,jz]
     exact (TRs.mono (k5.vw h4.dc) _ h1).append ⟨v,[],rfl,k1,rfl⟩) ⟨rfl,Nx.refl n2.dc⟩
   have o4:=yc s3 [SO.lst ys]
   refine ⟨.tup ys,s3++[.lst ys],ya rfl (B e1 (yK (yx (zas (zE (zm (ze rfl) rfl (gtT true (by simp<;>omega) _))) ?_) (zW (zt (zB C) (by rw [jo,yb (yi _ _)])))))),⟨ys,rfl,TRs.mono (jX o4) _ q1⟩,(n1.trans n2).trans (q4.trans (Nx.of q4.dc o4))⟩
   rcases c2.2 with c|c
   ·exact zcN (zE (zm (ze rfl) rfl (eqT' true (by simp;omega) _)))
   ·exact jO (zE (zm (ze rfl) rfl (eqT' false (by simp;omega) _))) (zE (zm (ze rfl) rfl (eqT' true (by simp;omega) _)))
  have C:∀{d:Nat} {st s1:Sto} {X:Res Fl},yz [.ref d,.int ((8:Nat):Int)] st=.ok (.int (rn l 8:Int)) s1->ziA (wA n) [sR d,sI b,sI w,none,none,none] s1=X->zdP (wA n) [sR d,sI b,none,none,none,none] st=X:=fun e1 h=>B e1 (zq (zQ (by
   by_cases hb0:0<b
   ·exact zas (zE (zm (ze rfl) rfl (gtT true (by simp;omega) _))) (jO (zE (zm (ze rfl) rfl (eqT' false (by simp;omega) _))) (zE (zm (ze rfl) rfl (eqT' false (by simp;omega) _))))
   ·exact zcM (zE (zm (ze rfl) rfl (gtT false (by simp;omega) _))))) h)
  by_cases c3:0<b/\w=7
  ·have hm:=yW (m:=4) (by decide) l.tail
   obtain ⟨b',rfl⟩:∃b',b=b'+1:=⟨b-1,by omega⟩
   have ee:((b'+1:Nat):Int)-1=(b':Int):=by omega
   have H:=fun l=>ih b' l (by omega)
   obtain ⟨T,N,hTD⟩:=pick2 H
   have hT:=fun l=>(hTD l).1
   have hD:=fun l=>(hTD l).2
   obtain ⟨Z,M,hZM⟩:=pick2 zcZ
   have hZ:=fun l=>(hZM l).1
   have hM:=fun l=>(hZM l).2
   generalize em:rn l.tail 4=m at hm
   have FL:=zjj (Z:=Z) (M:=M) (T:=T) (N:=N) (P:=fun t=>gd t/\dp t<=b'/\sz t<=bd b') hZ hT l.tail.tail
   refine ⟨.rec_ (itr (rcs Z M T N) m (l.tail.tail,[],[])).2.1 (itr (rcs Z M T N) m (l.tail.tail,[],[])).2.2,(itr (rcs Z M T N) m (l.tail.tail,[],[])).1,⟨⟨(FL m).nd,(FL m).len,(FL m).wd,zcc.mpr fun t ht=>((FL m).all t ht).1⟩,?_,?_⟩,fun d st R hd hR=>?_⟩
   ·have:=wL fun t ht=>((FL m).all t ht).2.1
    simp only [dp];omega
   ·have:=zac fun t ht=>((FL m).all t ht).2.2
    have h3:=zbO (bd b') (yS (FL m).le (show m<=3 by omega))
    simp only [sz,bd];omega
   obtain ⟨s1,e1,n1⟩:=yu hd 8 (by decide)
   have nA:Nx d l.tail s1 (s1++[.dic [] []]):=Nx.of n1.dc (yc _ _)
   obtain ⟨s2,e2,n2⟩:=yu nA.dc 4 (by decide)
   rw [em] at e2
   have hds:d<s1.length:=zM n1.dc
   have hr2:s2[s1.length]?=some (.dic [] []):=n2.ob _ _ (by omega) (yi _ _)
   obtain ⟨e',s3,F,⟨z4,z5,he⟩,nx,ys,hq,tr⟩:=zad (gt:=gN 4) (body:=(zu (zC 5 (zp zaT (zc (zd 0) zh))) (zbx (zd 3) (zd 5) (zp (wA n) (zc (zd 0) (zc (zj jd (zd 1) (mC (.int 1))) zh)))))) (fs:=(zc (zp yz (zc (zd 0) (zc (mC (.int 4)) zh))) zh)) (e:=[sR d,some (.int ((b'+1:Nat):Int)),sI w,sR s1.length,none,none]) (st:=s1++[.dic [] []])
    (fun i e s=>(∃z4 z5,e=[sR d,some (.int ((b'+1:Nat):Int)),sI w,sR s1.length,z4,z5])/\Nx d (itr (rcs Z M T N) i (l.tail.tail,[],[])).1 s1 s/\∃ys,s[s1.length]?=some (.dic (itr (rcs Z M T N) i (l.tail.tail,[],[])).2.1 ys)/\TRs (vw (s1.length::R) s) (itr (rcs Z M T N) i (l.tail.tail,[],[])).2.2 ys) m (by omega) (zB (zt (zy (ze rfl) rfl) e2)) (fun i e s hi ⟨⟨z4,z5,he⟩,nx,ys,hq,tr⟩=>by
     subst he
     generalize eq:itr (rcs Z M T N) i (l.tail.tail,[],[])=qq at nx hq tr
     have e1':itr (rcs Z M T N) (i+1) (l.tail.tail,[],[])=rcs Z M T N qq:=by show rcs Z M T N (itr _ i _)=_;rw [eq]
     rw [e1']
     have fl:=FL i
     rw [eq] at fl
     obtain ⟨s4,e4,n4⟩:=hM qq.1 d s nx.dc
     have hrr:=zM hq
     obtain ⟨v,s5,e5,k1,k5⟩:=hD (M qq.1) d s4 (s1.length::R) n4.dc (fun r hr=>by
      rcases yQ.mp hr with q|q
      ·rw [q];exact n4.lt hrr
      ·exact (n1.trans (nx.trans n4)).lt (hR r q))
     have hq5:=k5.ob _ _ (by omega) (n4.ob _ _ (by omega) hq)
     have tr5:=TRs.mono (k5.vw n4.dc) _ (TRs.mono (n4.vw nx.dc) _ tr)
     obtain ⟨g1,g2⟩:=zjh (z:=Z qq.1) (ks:=qq.2.1) tr5 k1
     have P:=zje (fo:=zd 3) (fi:=zd 5) (fv:=(zp (wA n) (zc (zd 0) (zc (zj jd (zd 1) (mC (.int 1))) zh)))) (e:=[sR d,some (.int ((b'+1:Nat):Int)),sI w,sR s1.length,sI i,some (.str (Z qq.1))]) (s:=s4) (zt (zy (ze rfl) (zm (ze rfl) rfl ((wz _ _).trans (by rw [ee])))) e5) (ze rfl) (ze rfl) hq5 (by have:=fl.le;have:=fl.len;omega)
     refine ⟨_,_,_,rfl,zq (zG (zt (zB (ze rfl)) e4)) P,⟨_,_,rfl⟩,⟨fun n so hn hs=>?_,?_⟩,_,?_,TRs.mono (zi6 _) _ g2⟩
     ·have:=zM hs
      rw [yh (by omega)]
      exact (nx.trans (n4.trans k5)).ob n so hn hs
     ·show (List.set _ _ _)[d]?=_
      rw [yh (by omega)]
      exact k5.dc
     ·rw [yZ (zM hq5)]
      show _=some (SO.dic (zae _ _ _ _).1 _)
      rw [g1]) ⟨⟨none,none,rfl⟩,nA.trans n2,[],hr2,rfl⟩
   subst he
   have hrR:s1.length∉R:=fun h=>by
    have:=n1.lt (hR _ h)
    omega
   exact ⟨.ref s1.length,s3,ya rfl (C e1 (yK (yx (zas (zE (zm (ze rfl) rfl (gtT true (by simp<;>omega) _))) (zE (zm (ze rfl) rfl (eqT' true (by simp;omega) _)))) (zq (zG rfl) (zq F (zW (ze rfl))))))),⟨s1.length,ys,rfl,zbH.mpr ⟨hrR,hq⟩,(FL m).nd,by rw [(FL m).len];exact tr.len,TRs.mono zi7 _ tr,fun k hk=>by have:=zcd ((FL m).wd k hk);omega⟩,n1.trans nx⟩
  obtain ⟨i,l2,hi,D⟩:=zdY l.tail
  refine ⟨.num i,l2,⟨hi,by simp [dp],by simp only [sz];omega⟩,fun d st R hd hR=>?_⟩
  obtain ⟨s1,e1,n1⟩:=yu hd 8 (by decide)
  obtain ⟨s2,e2,n2⟩:=D d s1 n1.dc
  refine ⟨.int i,s2,ya rfl (C e1 (zq (zQ (by
   by_cases hb0:0<b
   ·exact zas (zE (zm (ze rfl) rfl (gtT true (by simp;omega) _))) (zE (zm (ze rfl) rfl (eqT' false (by simp;omega) _)))
   ·exact zcM (zE (zm (ze rfl) rfl (gtT false (by simp;omega) _))))) (zW (zt (zB (ze rfl)) e2)))),rfl,n1.trans n2⟩
def zc0 {a c:List Nat}(h:S a=S c):a=c:=by have:=congrArg (fun z:Str=>z.cps.toList) h;simpa [S] using this
def zq4 {z:Str}{i c:Nat}(hl:z.length<=1000) (h:z.cps.toList[i]?=some c) (st:Sto):zw (.str z) (.int (i:Int)) st=.ok (.str ⟨#[c]⟩) st:=by
 rw [zez,zH (by simp [lim];omega),atI_get h]
 rfl
abbrev both:Str := "abcdefghijklmnopqrstuvwxyz" ++ "0123456789"
def zq5:both.cps.toList.length=36:=by decide +kernel
def bth (j:Nat):Nat:=(both.cps.toList[j]?).getD 0
def zq6 {j:Nat}(h:j<36):both.cps.toList[j]?=some (bth j):=by
 unfold bth;rw [zU (by rw [zq5];exact h)];rfl
def zfw (j:Nat) (h:j<36) (st:Sto):zw (.str both) (.int (j:Int)) st=.ok (.str ⟨#[bth j]⟩) st:=zq4 (by decide +kernel) (zq6 h) st
def zq7:∀i,i<36->∀j,j<36->bth i=bth j->i=j:=by decide +kernel
def zjk:∀i,i<26->∀j,j<26->ji i=ji j->i=j:=by decide +kernel
structure Nm (c:Nat) (nm:Nat->Str):Prop where
 one:∀i j:Nat,i<900->j<900->nm i=nm j->i=j
 len:∀i:Nat,i<900->(nm i).length<=1000
 at_:∀k:Nat,k<900->∀st,∃s1,yN [.int (c:Int),.int (k:Int)] st=.ok (.str (nm k)) s1/\Old st s1
def dvL (c:Nat) (m:Nat) (hm:0<m):wG (c:Int) (m:Int)=((c/m:Nat):Int):=by rw [zqO _ _ (by omega)];exact (Int.natCast_ediv c m).symm
def mdL (c:Nat) (m:Nat) (hm:0<m):jK (c:Int) (m:Int)=((c%m:Nat):Int):=by rw [ziU _ _ (by omega)];exact (Int.natCast_emod c m).symm
def wM {st:Sto}(c m:Nat) (hm:0<m) (h2:m<2 ^ 60):jb (.int (c:Int)) (.int (m:Int)) st=.ok (.int ((c/m:Nat):Int)) st:=by rw [zeK _ _ (by omega) (by omega),dvL c m hm]
def jE {st:Sto}(c m:Nat) (hm:0<m):yt (.int (c:Int)) (.int (m:Int)) st=.ok (.int ((c%m:Nat):Int)) st:=by rw [zbd _ _ (by omega),mdL c m hm]
def jP {st:Sto}(a b:Nat):zZ (.int (a:Int)) (.int (b:Int)) st=.ok (.int ((a+b:Nat):Int)) st:=by rw [zat];congr 2
def zaf {st:Sto}(a b:Nat) (h:a<2 ^ 60\/b<2 ^ 60):yD (.int (a:Int)) (.int (b:Int)) st=.ok (.int ((a*b:Nat):Int)) st:=by
 rw [zaS _ _ (by simp only [cMul,Bool.or_eq_true,we,za0];exact h.elim (fun h=>.inl ⟨by omega,by omega⟩) (fun h=>.inr ⟨by omega,by omega⟩))]
 congr 2
def w14:List Str:=["fun", "give", "go", "fail", "if", "else", "end", "call", "is", "of", "let", "add", "kind", "same"]
def zq8:w14.Nodup:=by decide +kernel
def zjl:∀z∈w14,z.cps.toList.head?≠some 122:=by decide +kernel
def zq9:∀z∈w14,z.length<=4:=by decide +kernel
def zra (i:Nat) (h:i<1000) (st:Sto):zcE [.int (i:Int)] st=.ok (.str (S (Nat.toDigits 10 i |>.map Char.toNat))) st:=by
 rw [zoE,zH (Nat.lt_of_le_of_lt (Nat.log2_le_self _) (by omega))]
 congr 2
 rw [<-zi3 (Str.ofString (toString (i:Int)))]
 congr 1
 simp only [Str.ofString_eq_toList,List.toList_toArray]
 show (Nat.repr i).toList.map Char.toNat=_
 rw [Nat.toList_repr]
def zrb {α:Type}{l:List α}(nd:l.Nodup) {i j:Nat}(hi:i<l.length) (hj:j<l.length) (h:l[i]=l[j]):i=j:=by
 have p:=List.pairwise_iff_getElem.mp nd
 rcases Nat.lt_trichotomy i j with q|q|q
 ·exact absurd h (p i j hi hj q)
 ·exact q
 ·exact absurd h.symm (p j i hj hi q)
def toDg (i:Nat) (h:i<900):(Nat.toDigits 10 i).length<=3:=by
 have:∀i,i<900->(Nat.toDigits 10 i).length<=3:=by decide +kernel
 exact this i h
def zrc {c:Nat}(hc:c%5=3):∃nm,Nm c nm:=by
 have hg:∀k,(k+c/5)%14<w14.length:=fun k=>js _ (by decide)
 refine ⟨fun k=>if k<14 then w14[(k+c/5)%14]'(hg k) else S (122::(Nat.toDigits 10 k).map Char.toNat),fun i j hi hj h=>?_,fun i hi=>?_,fun k hk st=>?_⟩
 ·by_cases h1:i<14
  ·by_cases h2:j<14
   ·simp only [h1,h2,yw] at h
    have:=zrb zq8 (hg i) (hg j) h
    omega
   ·simp only [h1,h2,yw,ym] at h
    exact absurd (by rw [h];simp [S]) (zjl _ (jy (hg i)))
  ·by_cases h2:j<14
   ·simp only [h1,h2,yw,ym] at h
    exact absurd (by rw [<-h];simp [S]) (zjl _ (jy (hg j)))
   ·simp only [h1,h2,ym] at h
    have:=zc0 h
    injection this with _ this
    have e:∀d:Nat,(Nat.toDigits 10 d)=(Nat.repr d).toList:=fun d=>by rw [Nat.toList_repr]
    have inj:Nat.toDigits 10 i=Nat.toDigits 10 j:=(List.map_inj_right (fun a b hab=>Char.toNat_inj.mp hab)).mp this
    rw [e,e] at inj
    exact Nat.repr_injective (String.toList_inj.mp inj)
 ·show (if i<14 then _ else _:Str).length<=1000
  split
  ·have:=zq9 _ (jy (hg i));omega
  ·rw [zbG]
   have:=toDg i hi
   simp only [wq,jq];omega
 ·have e5:=jE (st:=st) c 5 (by decide)
  rw [hc] at e5
  have A:∀{s1:Sto} {v:PV},zeX [.int (c:Int),.int (k:Int)] st=.ok v s1->yN [.int (c:Int),.int (k:Int)] st=.ok v s1:=fun h=>ya rfl (yK (yx (zE (zm (zm (ze rfl) rfl e5) rfl (eqT' true (by simp) _))) (zW (zt (zy (ze rfl) (ze rfl)) h))))
  have top:=yi st (SO.lst (w14.map PV.str))
  refine ⟨st++[.lst (w14.map PV.str)],A (ya rfl (zq (zG (jp (xs:=w14.map PV.str) rfl (by decide))) ?_)),yc _ _⟩
  by_cases h1:k<14
  ·have g:atI (w14.map PV.str) ((((k+c/5)%14:Nat)):Int)=some (.str (w14[(k+c/5)%14]'(hg k))):=atI_get (by rw [jk,zU (hg k)];rfl)
   simp only [h1,yw]
   exact yK (yx (zE (zm (ze rfl) rfl (ltT true (by simp;omega) _))) (zW (zm (ze rfl) (zm (zm (ze rfl) (zm (ze rfl) rfl (wM c 5 (by decide) (by decide))) (jP _ _)) rfl (jE _ 14 (by decide))) (by rw [wo,yb top,g];rfl))))
  ·simp only [h1,ym]
   have l:=toDg k hk
   refine zq (zQ (zE (zm (ze rfl) rfl (ltT false (by simp;omega) _)))) (zW (zm rfl (zt (zB (ze rfl)) (zra k (by omega) _)) ?_))
   have e1:=zbG ((Nat.toDigits 10 k).map Char.toNat)
   rw [jq] at e1
   have e2:("z" : Str).length=1:=by decide +kernel
   rw [ad _ _ (by omega),show ("z" : Str)=S [122] by decide +kernel,zdW]
   rfl
def lput_at {fo fi fv:zk->Mo PV}{e:zk}{s:Sto}{n i:Nat}{x:PV}{xs:List PV}(hv:fv e s=.ok x s) (ho:fo e s=.ok (.ref n) s) (hi:fi e s=.ok (.int (i:Int)) s) (h:s[n]?=some (.lst xs)) (hl:i<xs.length):zcL fo fi fv e s=.ok (.nx e) (s.set n (.lst (xs.set i x))):=by
 unfold zcL
 rw [hv,zP,ho,zP,hi,zP]
 show (yo s n _).bind _=_
 rw [yb h,zH hl,zP]
def zrd {c:Nat}(hc:c%5≠3) (hb:c<2 ^ 50):∃nm,Nm c nm:=by
 generalize es:1+c/5%8=sz0
 have hs0:sz0<=8/\1<=sz0:=by omega
 generalize e2:max sz0 2=s2
 have hs2:s2<=8/\2<=s2/\(sz0≠1->s2=sz0)/\(sz0=1->s2=2):=by omega
 generalize eq:(c/16)%(s2-1)=q
 have hq:q<s2-1:=by rw [<-eq];exact js _ (by omega)
 let G:Nat->Nat->Nat:=fun k j=>if c/8%2=0 then bth ((c/1024+j*j)%36) else bth ((c/1024+k*k*j+j*j)%36)
 let L:Nat->List Nat:=fun k=>(((List.range s2).map (G k)).set 0 (ji ((c/64+k/36)%26))).set (1+q) (bth ((c/256+k)%36))
 have lL:∀k,(L k).length=s2:=fun k=>by simp [L]
 have L0:∀k,(L k)[0]?=some (ji ((c/64+k/36)%26)):=fun k=>by
  show (List.set _ (1+q) _)[0]?=_
  rw [yh (by omega),yZ (by simp;omega)]
 have Lq:∀k,(L k)[1+q]?=some (bth ((c/256+k)%36)):=fun k=>by
  show (List.set _ (1+q) _)[1+q]?=_
  rw [yZ (by simp;omega)]
 refine ⟨fun k=>if sz0=1/\k<26 then S [ji ((c/8+k)%26)] else S (L k),fun i j hi hj h=>?_,fun i hi=>?_,fun k hk st=>?_⟩
 ·have hh:(if sz0=1/\i<26 then S [ji ((c/8+i)%26)] else S (L i))=if sz0=1/\j<26 then S [ji ((c/8+j)%26)] else S (L j):=h
  by_cases h1:sz0=1/\i<26
  ·by_cases h2:sz0=1/\j<26
   ·rw [zH h1,zH h2] at hh
    have:=zc0 hh
    injection this with this
    have:=zjk _ (js _ (by decide)) _ (js _ (by decide)) this
    omega
   ·rw [zH h1,zX h2] at hh
    have:=congrArg List.length (zc0 hh)
    rw [lL] at this
    simp at this;omega
  ·by_cases h2:sz0=1/\j<26
   ·rw [zX h1,zH h2] at hh
    have:=congrArg List.length (zc0 hh)
    rw [lL] at this
    simp at this;omega
   ·rw [zX h1,zX h2] at hh
    have e:=zc0 hh
    have a0:=L0 i
    rw [e,L0 j] at a0
    have aq:=Lq i
    rw [e,Lq j] at aq
    injection a0 with a0
    injection aq with aq
    have b0:=zjk _ (js _ (by decide)) _ (js _ (by decide)) a0
    have bq:=zq7 _ (js _ (by decide)) _ (js _ (by decide)) aq
    omega
 ·show (if _ then _ else _:Str).length<=1000
  split
  ·rw [zbG];simp
  ·rw [zbG,lL];omega
 ·have e5:=jE (st:=st) c 5 (by decide)
  have A:∀{X:Res Fl},ziv [sI c,sI k,some (.str abc),sI sz0,none,none] st=X->zeY [sI c,sI k,none,none,none,none] st=X:=fun h=>zq (zQ (zE (zm (zm (ze rfl) rfl e5) rfl (eqT' false (by simp;omega) _)))) (zq (zG rfl) (zq (zG (zm rfl (zm (zm (ze rfl) rfl (wM c 5 (by decide) (by decide))) rfl (jE _ 8 (by decide))) ((jP 1 _).trans (by rw [es])))) h))
  by_cases h1:sz0=1/\k<26
  ·refine ⟨st,ya rfl (A (yK (yx (zas (zE (zm (ze rfl) rfl (eqT' true (by simp;omega) _))) (zE (zm (ze rfl) rfl (ltT true (by simp;omega) _)))) (zW ?_)))),Old.refl _⟩
   rw [zH h1]
   exact zm (ze rfl) (zm (zm (zm (ze rfl) rfl (wM c 8 (by decide) (by decide))) (ze rfl) (jP _ _)) rfl (jE _ 26 (by decide))) (zbl _ (js _ (by decide)) st).1
  ·have T3:(w8 (mB (zj ye (zd 3) (mC (.int 1)))) (mB (zj oLt (zd 1) (mC (.int 26))))) [sI c,sI k,some (.str abc),sI sz0,none,none] st=.ok false st:=by
    by_cases h2:sz0=1
    ·exact zas (zE (zm (ze rfl) rfl (eqT' true (by simp;omega) _))) (zE (zm (ze rfl) rfl (ltT false (by simp;omega) _)))
    ·exact zcM (zE (zm (ze rfl) rfl (eqT' false (by simp;omega) _)))
   have mx:zaR [.int (sz0:Int),.int 2] st=.ok (.int (s2:Int)) st:=by
    show Res.ok (PV.int (if (2:Int)>(sz0:Int) then 2 else (sz0:Int))) st=_
    split
    ·congr 2;omega
    ·congr 2;omega
   have bo:zZ (.str abc) (.str "0123456789") st=.ok (.str both) st:=ad _ _ (by decide +kernel) st
   have B:∀{X:Res Fl},ziu [sI c,sI k,some (.str abc),sI s2,some (.str both),none] st=X->zeY [sI c,sI k,none,none,none,none] st=X:=fun h=>A (zq (zQ T3) (zq (zG (zt (zy (ze rfl) rfl) mx)) (zq (zG (zm (ze rfl) rfl bo)) h)))
   obtain ⟨ys,s1,C1,hy,hs⟩:=zay (fe:=(zj zw (zd 5) (zj yt (zj zZ (zj zZ (zj jb (zd 1) (mC (.int 1024))) (zj yD (zj yD (zd 2) (zd 2)) (zd 0))) (zj yD (zd 0) (zd 0))) (mC (.int 36))))) (fs:=(zc (zd 3) zh)) (env:=[sI c,sI k,some (.str abc),sI s2,some (.str both),none]) (st:=st) s2 (by omega) (zB (ze rfl)) (fun i ys s=>ys=((List.range i).map fun j=>bth ((c/1024+k*k*j+j*j)%36)).map (fun c=>PV.str ⟨#[c]⟩)/\s=st) (fun i ys s hi ⟨g1,g2⟩=>⟨.str ⟨#[bth ((c/1024+k*k*i+i*i)%36)]⟩,s,zm (ze rfl) (zm (zm (zm (zm (ze rfl) rfl (wM c 1024 (by decide) (by decide))) (zm (zm (ze rfl) (ze rfl) (zaf k k (.inl (by omega)))) (ze rfl) (zaf _ i (.inr (by omega)))) (jP _ _)) (zm (ze rfl) (ze rfl) (zaf i i (.inl (by omega)))) (jP _ _)) rfl (jE _ 36 (by decide))) (zfw _ (js _ (by decide)) s),by rw [g1,jI,jz,jz];rfl,g2⟩) ⟨rfl,rfl⟩
   subst hs
   have key:∃sA r,(yd (mB (zj ye (zj yt (zj jb (zd 0) (mC (.int 8))) (mC (.int 2))) (mC (.int 0)))) (zC 5 (jh (iRng1 (zc (zd 3) zh)) (zj zw (zd 5) (zj yt (zj zZ (zj jb (zd 1) (mC (.int 1024))) (zj yD (zd 0) (zd 0))) (mC (.int 36)))))) yg) [sI c,sI k,some (.str abc),sI s2,some (.str both),sR s1.length] (s1++[.lst ys])=.ok (.nx [sI c,sI k,some (.str abc),sI s2,some (.str both),sR r]) sA/\sA[r]?=some (.lst (((List.range s2).map (G k)).map fun c=>PV.str ⟨#[c]⟩))/\Old s1 sA/\s1.length<=r:=by
    by_cases h0:c/8%2=0
    ·obtain ⟨zs,s3,C2,hz,hs⟩:=zay (fe:=(zj zw (zd 5) (zj yt (zj zZ (zj jb (zd 1) (mC (.int 1024))) (zj yD (zd 0) (zd 0))) (mC (.int 36))))) (fs:=(zc (zd 3) zh)) (env:=[sI c,sI k,some (.str abc),sI s2,some (.str both),sR s1.length]) (st:=s1++[.lst ys]) s2 (by omega) (zB (ze rfl)) (fun i zs s=>zs=((List.range i).map fun j=>bth ((c/1024+j*j)%36)).map (fun c=>PV.str ⟨#[c]⟩)/\s=s1++[.lst ys]) (fun i zs s hi ⟨g1,g2⟩=>⟨.str ⟨#[bth ((c/1024+i*i)%36)]⟩,s,zm (ze rfl) (zm (zm (zm (ze rfl) rfl (wM c 1024 (by decide) (by decide))) (zm (ze rfl) (ze rfl) (zaf i i (.inl (by omega)))) (jP _ _)) rfl (jE _ 36 (by decide))) (zfw _ (js _ (by decide)) s),by rw [g1,jI,jz,jz];rfl,g2⟩) ⟨rfl,rfl⟩
     refine ⟨s3++[.lst zs],s3.length,yx (zE (zm (zm (zm (ze rfl) rfl (wM c 8 (by decide) (by decide))) rfl (jE _ 2 (by decide))) rfl (eqT' true (by rw [h0];decide) _))) (zG C2),?_,?_,?_⟩
     ·rw [yi,hz]
      have:G k=fun j=>bth ((c/1024+j*j)%36):=funext fun j=>zH h0
      rw [this]
     ·rw [hs];exact (yc _ _).trans (yc _ _)
     ·rw [hs];simp
    ·refine ⟨s1++[.lst ys],s1.length,zQ (zE (zm (zm (zm (ze rfl) rfl (wM c 8 (by decide) (by decide))) rfl (jE _ 2 (by decide))) rfl (eqT' false (by simp;omega) _))),?_,yc _ _,yf _⟩
     rw [yi,hy]
     have:G k=fun j=>bth ((c/1024+k*k*j+j*j)%36):=funext fun j=>zX h0
     rw [this]
   obtain ⟨sA,r,K1,hr,oA,hrl⟩:=key
   have oS:∀{sX:Sto} (so:SO),Old s1 sX->Old s1 (sX.set r so):=fun so o n x e=>by rw [yh (by have:=zM e;omega)];exact o n x e
   have P1:=lput_at (fo:=zd 5) (fi:=(mC (.int 0))) (fv:=(zj zw (zd 2) (zj yt (zj zZ (zj jb (zd 0) (mC (.int 64))) (zj jb (zd 1) (mC (.int 36)))) (mC (.int 26))))) (e:=[sI c,sI k,some (.str abc),sI s2,some (.str both),sR r]) (i:=0) (zm (ze rfl) (zm (zm (zm (ze rfl) rfl (wM c 64 (by decide) (by decide))) (zm (ze rfl) rfl (wM k 36 (by decide) (by decide))) (jP _ _)) rfl (jE _ 26 (by decide))) (zbl _ (js _ (by decide)) sA).1) (ze rfl) rfl hr (by simp;omega)
   have hr2:=yZ (l:=sA) (i:=r) (a:=SO.lst ((((List.range s2).map (G k)).map fun c=>PV.str ⟨#[c]⟩).set 0 (.str ⟨#[ji ((c/64+k/36)%26)]⟩))) (zM hr)
   have sm:(s2:Int)-1=((s2-1:Nat):Int):=by omega
   have P2:=lput_at (fo:=zd 5) (fi:=(zj zZ (mC (.int 1)) (zj yt (zj jb (zd 0) (mC (.int 16))) (zj jd (zd 3) (mC (.int 1)))))) (fv:=(zj zw (zd 4) (zj yt (zj zZ (zj jb (zd 0) (mC (.int 256))) (zd 1)) (mC (.int 36))))) (e:=[sI c,sI k,some (.str abc),sI s2,some (.str both),sR r]) (i:=1+q) (zm (ze rfl) (zm (zm (zm (ze rfl) rfl (wM c 256 (by decide) (by decide))) (ze rfl) (jP _ _)) rfl (jE _ 36 (by decide))) (zfw _ (js _ (by decide)) _)) (ze rfl) (zm rfl (zm (zm (ze rfl) rfl (wM c 16 (by decide) (by decide))) (zm (ze rfl) rfl ((wz _ _).trans (by rw [sm]))) ((jE _ (s2-1) (by omega)).trans (by rw [eq]))) (jP 1 _)) hr2 (by simp;omega)
   have hr3:=yZ (l:=sA.set r (SO.lst ((((List.range s2).map (G k)).map fun c=>PV.str ⟨#[c]⟩).set 0 (.str ⟨#[ji ((c/64+k/36)%26)]⟩)))) (i:=r) (a:=SO.lst (((((List.range s2).map (G k)).map fun c=>PV.str ⟨#[c]⟩).set 0 (.str ⟨#[ji ((c/64+k/36)%26)]⟩)).set (1+q) (.str ⟨#[bth ((c/256+k)%36)]⟩))) (by rw [List.length_set];exact zM hr)
   have eL:((((List.range s2).map (G k)).map fun c=>PV.str ⟨#[c]⟩).set 0 (.str ⟨#[ji ((c/64+k/36)%26)]⟩)).set (1+q) (.str ⟨#[bth ((c/256+k)%36)]⟩)=(L k).map fun c=>PV.str ⟨#[c]⟩:=by
    show _=(List.set (List.set _ _ _) _ _).map _
    rw [List.map_set,List.map_set]
   rw [eL] at hr3 P2
   have J:=zjd (z := "") (fa:=zd 5) (e:=[sI c,sI k,some (.str abc),sI s2,some (.str both),sR r]) (ze rfl) hr3 (zfu (L k)) (by rw [zfv,le0,lL];omega)
   rw [zja] at J
   have Z:=ya (m:=2) (n:=6) (xs:=[.int (c:Int),.int (k:Int)]) rfl (B (zq (zG C1) (zq K1 (zq P1 (zq P2 (zW J))))))
   rw [zX h1]
   exact ⟨_,Z,oS _ (oS _ oA)⟩
def zaU (c:Nat) (hb:c<2 ^ 50):∃nm,Nm c nm:=by
 by_cases hc:c%5=3
 ·exact zrc hc
 ·exact zrd hc hb
def zbI:List Str:=["add2", "sub2", "mul2", "div2", "rem2", "less2", "same2", "down1", "kind1", "front2", "head1", "rest1", "many1", "item2", "put3", "field2", "set3"]
def opt (k:Nat):Str:=(zbI[k]?).getD ""
def opl (k:Nat):Nat:=((opt k).cps.toList.getLast?).getD 0
def opn (k:Nat):Nat:=opl k-48
def zjm:∀k,k<17->zbI[k]?=some (opt k)/\(opt k).length<=10/\atI (opt k).cps.toList (-1)=some (opl k)/\PySem.intText? ⟨#[opl k]⟩=some ((opn k:Nat):Int)/\opn k<=3/\(Txt.slice (opt k) none (some (-1))).length<=10:=by decide +kernel
def zre (k:Nat) (hk:k<17) (st:Sto):∃s1,ze8 [.int (k:Int)] st=.ok (.tup [.str (Txt.slice (opt k) none (some (-1))),.int (opn k:Int)]) s1/\Old st s1:=by
 obtain ⟨f1,f2,f3,f4,f5,f6⟩:=zjm k hk
 let a:List Str:=["add2", "sub2", "mul2", "div2", "rem2", "less2", "same2", "down1", "kind1", "front2", "head1", "rest1"]
 let b:List Str:=["many1", "item2", "put3", "field2", "set3"]
 let s1:=st++[SO.lst (a.map PV.str)]
 let s2:=s1++[SO.lst (b.map PV.str)]
 have ad2:zZ (.ref st.length) (.ref s1.length) s2=.ok (.ref s2.length) (s2++[.lst (zbI.map PV.str)]):=by
  have h1:s2[st.length]?=some (.lst (a.map PV.str)):=yc _ _ _ _ (yi _ _)
  have h2:s2[s1.length]?=some (.lst (b.map PV.str)):=yi _ _
  show yo s2 st.length _=_
  rw [yb h1,yb h2]
  exact zH (by simp [a,b,lim])
 have top:=yi s2 (SO.lst (zbI.map PV.str))
 have ix:zw (.ref s2.length) (.int (k:Int)) (s2++[.lst (zbI.map PV.str)])=.ok (.str (opt k)) (s2++[.lst (zbI.map PV.str)]):=by
  rw [wo,yb top,atI_get (x:=PV.str (opt k)) (by rw [jk,f1];rfl)]
  rfl
 have E:∀s:Sto,oSl (.str (opt k)) none (some (-1)) s=.ok (.str (Txt.slice (opt k) none (some (-1)))) s:=fun s=>by
  show (if (opt k).length<=lim then _ else _)=_
  rw [zH (by simp [lim];omega)]
 have F:∀s:Sto,zw (.str (opt k)) (.int (-1)) s=.ok (.str ⟨#[opl k]⟩) s:=fun s=>by
  rw [zez,zH (by simp [lim];omega),f3]
  rfl
 have I:∀s:Sto,zcO [.str ⟨#[opl k]⟩] s=.ok (.int (opn k:Int)) s:=fun s=>by
  unfold zcO
  simp only [f4]
  rw [zH (by show 1<=640;decide)]
 exact ⟨s2++[.lst (zbI.map PV.str)],ya rfl (zq (zG (jp (xs:=a.map PV.str) rfl (by decide))) (zq (zG (zm (ze rfl) (jp (xs:=b.map PV.str) rfl (by decide)) ad2)) (zW (zK (zy (zb5 (zm (ze rfl) (ze rfl) ix) zb6 (zbc (zaa rfl rfl)) (E _)) (zt (zB (zm (zm (ze rfl) (ze rfl) ix) (zaa rfl rfl) (F _))) (I _))) (by simp))))),((yc _ _).trans (yc _ _)).trans (yc _ _)⟩
inductive Atm (D:Nat):Tr->Prop
 | of (z:Str):Atm D (.row [.word "of", .word z])
 | is (t:Tr):gd t->dp t<=D->sz t<=60->Atm D (.row [.word "is", t])
def TR.str {st:Sto}{z:Str}(h:z.length<=1000):TR st (.word z) (.str z):=⟨rfl,h⟩
def zfx (zs:List Str) (hz:∀z∈zs,z.length<=1000) (l:List Int):∃t l',Atm 1 t/\∀d sc st R,Dc d l st->sc≠d->st[sc]?=some (.lst (zs.map PV.str))->(∀r∈R,r<st.length)->∃v s1,zb9 [.ref d,.ref sc] st=.ok v s1/\TR (vw R s1) t v/\Nx d l' st s1:=by
 by_cases h:0<rn l 3/\0<zs.length
 ·have hr:=yW (m:=zs.length) h.2 l.tail
  refine ⟨.row [.word "of", .word (zs[rn l.tail zs.length]'hr)],l.tail.tail,.of _,fun d sc st R hd ne hs hR=>?_⟩
  obtain ⟨s1,e1,n1⟩:=yu hd 3 (by decide)
  obtain ⟨s2,e2,n2⟩:=yu n1.dc zs.length h.2
  have l1:=j9 (n1.ob _ _ ne hs)
  rw [jq] at l1
  have hs2:=n2.ob _ _ ne (n1.ob _ _ ne hs)
  refine ⟨.tup [.str "of", .str (zs[rn l.tail zs.length]'hr)],s2,ya rfl (yK (yx (zas (zE (zm (zt (zy (ze rfl) rfl) e1) rfl (gtT true (by simp;omega) _))) (zE (zm (zt (zB (ze rfl)) l1) rfl (gtT true (by rw [za0];omega) _)))) (zW (zK (zy rfl (zm (ze rfl) (zt (zy (ze rfl) (zt (zB (ze rfl)) l1)) e2) (by
   rw [wo,yb hs2,atI_get (x:=PV.str (zs[rn l.tail zs.length]'hr)) (by rw [jk,zU hr];rfl)]
   rfl))) (by simp))))),⟨_,rfl,_,_,rfl,TR.str (by decide +kernel),_,_,rfl,TR.str (hz _ (jy hr)),rfl⟩,n1.trans n2⟩
 ·obtain ⟨t,l',⟨g1,g2,g3⟩,D⟩:=zq3 5 1 l.tail (by decide)
  refine ⟨.row [.word "is", t],l',.is t g1 (by omega) (by have:bd 1=4:=rfl;omega),fun d sc st R hd ne hs hR=>?_⟩
  obtain ⟨s1,e1,n1⟩:=yu hd 3 (by decide)
  have l1:=j9 (n1.ob _ _ ne hs)
  rw [jq] at l1
  obtain ⟨v,s2,e2,tv,n2⟩:=D d s1 R n1.dc (fun r hr=>n1.lt (hR r hr))
  have T:(w8 (mB (zj j5 (zp yz (zc (zd 0) (zc (mC (.int 3)) zh))) (mC (.int 0)))) (mB (zj j5 (zp yE (zc (zd 1) zh)) (mC (.int 0))))) [sR d,sR sc] st=.ok false s1:=by
   by_cases h0:0<rn l 3
   ·exact zas (zE (zm (zt (zy (ze rfl) rfl) e1) rfl (gtT true (by simp;omega) _))) (zE (zm (zt (zB (ze rfl)) l1) rfl (gtT false (by rw [decide_eq_false_iff_not];omega) _)))
   ·exact zcM (zE (zm (zt (zy (ze rfl) rfl) e1) rfl (gtT false (by simp;omega) _)))
  exact ⟨.tup [.str "is", v],s2,ya rfl (zq (zQ T) (zW (zK (zy rfl (zt (zy (ze rfl) rfl) e2)) (by simp)))),⟨_,rfl,_,_,rfl,TR.str (by decide +kernel),_,_,rfl,tv,rfl⟩,n1.trans n2⟩
def zfy (zs:List Str) (hz:∀z∈zs,z.length<=1000) (m:Nat) (hm:m<=900) (l:List Int):∃ts l',(∀t∈ts,Atm 1 t)/\ts.length=m/\∀d sc st R,Dc d l st->sc≠d->st[sc]?=some (.lst (zs.map PV.str))->(∀r∈R,r<st.length)->∃v s1,zcQ [.ref d,.ref sc,.int (m:Int)] st=.ok v s1/\TR (vw R s1) (.row ts) v/\Nx d l' st s1:=by
 obtain ⟨T,N,H⟩:=pick2 (zfx zs hz)
 refine ⟨(List.range m).map fun j=>T (itr N j l),itr N m l,fun t ht=>?_,by simp,fun d sc st R hd ne hs hR=>?_⟩
 ·obtain ⟨j,_,rfl⟩:=j4.mp ht
  exact (H _).1
 obtain ⟨ys,s3,C,q1,q2⟩:=zay (fe:=(zp zb9 (zc (zd 1) (zc (zd 2) zh)))) (fs:=(zc (zd 2) zh)) (env:=[sR d,sR sc,sI m]) (st:=st) m (by omega) (zB (ze rfl)) (fun i ys s=>TRs (vw R s) ((List.range i).map fun j=>T (itr N j l)) ys/\Nx d (itr N i l) st s) (fun i ys s hi ⟨h1,h2⟩=>by
  obtain ⟨v,s1,e1,tv,n1⟩:=(H (itr N i l)).2 d sc s R h2.dc ne (h2.ob _ _ ne hs) (fun r hr=>h2.lt (hR r hr))
  refine ⟨v,s1,zt (zy (ze rfl) (ze rfl)) e1,?_,h2.trans n1⟩
  rw [jI,jz]
  exact (TRs.mono (n1.vw h2.dc) _ h1).append ⟨v,[],rfl,tv,rfl⟩) ⟨rfl,Nx.refl hd⟩
 have o4:=yc s3 [SO.lst ys]
 exact ⟨.tup ys,s3++[.lst ys],ya rfl (zW (zt (zB C) (by rw [jo,yb (yi _ _)]))),⟨ys,rfl,TRs.mono (jX o4) _ q1⟩,q2.trans (Nx.of q2.dc o4)⟩
def zc1 {i j:Nat}{f:zk->Mo PV}{e:zk}{st s1:Sto}{x y:PV}(h:f e st=.ok (.tup [x,y]) s1):sTo (g2 i j) f e st=.ok (.nx ((e.set i (some x)).set j (some y))) s1:=by
 unfold sTo
 rw [h,zP]
 rfl
def wN {f fa fb:zk->Mo PV}{e:zk}{st s1 s2 s3:Sto}{x y z:PV}(h:f e st=.ok x s1) (h':fa e s1=.ok y s2) (h2:fb e s2=.ok z s3):zc f (zc fa (zc fb zh)) e st=.ok [x,y,z] s3:=y9 h (zy h' h2)
def wB {f fa fb fc:zk->Mo PV}{e:zk}{st s1 s2 s3 s4:Sto}{x y z w:PV}(h:f e st=.ok x s1) (h':fa e s1=.ok y s2) (h2:fb e s2=.ok z s3) (h3:fc e s3=.ok w s4):zc f (zc fa (zc fb (zc fc zh))) e st=.ok [x,y,z,w] s4:=y9 h (wN h' h2 h3)
inductive Stp (D:Nat):Tr->Prop
 | let_ (z o:Str) (as:List Tr):(∀a∈as,Atm D a)->as.length<=6->Stp D (.row [.word "let", .word z,.word o,.row as])
 | call (z f:Str) (as:List Tr):(∀a∈as,Atm D a)->as.length<=6->Stp D (.row [.word "call", .word z,.word f,.row as])
abbrev hdV (hs:List (Str×Nat)):List PV:=hs.map fun h=>.tup [.str h.1,.int (h.2:Int)]
structure Hs (hs:List (Str×Nat)):Prop where
 pos:0<hs.length
 len:∀h∈hs,h.1.length<=1000
 few:∀h∈hs,h.2<=6
def zjn {hs:List (Str×Nat)}{s:Sto}{hd i:Nat}(hh:s[hd]?=some (.lst (hdV hs))) (hi:i<hs.length):zw (.ref hd) (.int (i:Int)) s=.ok (.tup [.str (hs[i]'hi).1,.int ((hs[i]'hi).2:Int)]) s:=by
 rw [wo,yb hh,atI_get (x:=PV.tup [.str (hs[i]'hi).1,.int ((hs[i]'hi).2:Int)]) (by rw [jk,zU hi];rfl)]
 rfl
def TR.row4 {a:Sto}{x y z:Str}{t:Tr}{v:PV}(hx:x.length<=1000) (hy:y.length<=1000) (hz:z.length<=1000) (h:TR a t v):TR a (.row [.word x,.word y,.word z,t]) (.tup [.str x,.str y,.str z,v]):=⟨_,rfl,_,_,rfl,TR.str hx,_,_,rfl,TR.str hy,_,_,rfl,TR.str hz,_,_,rfl,h,rfl⟩
def zrf {hs:List (Str×Nat)}(H:Hs hs) (q:List Str×Str×List Int):∃t l',(∀z∈q.1,z.length<=1000)->q.2.1.length<=1000->Stp 1 t/\∀d hd sc st R,Dc d q.2.2 st->hd≠d->sc≠d->st[hd]?=some (.lst (hdV hs))->st[sc]?=some (.lst (q.1.map PV.str))->(∀r∈R,r<st.length)->∃v s1,zcR [.ref d,.ref hd,.ref sc,.str q.2.1] st=.ok v s1/\TR (vw R s1) t v/\Nx d l' st s1:=by
 obtain ⟨zs,z,l⟩:=q
 by_cases hz0:¬∀z∈zs,z.length<=1000
 ·exact ⟨.num 0,[],fun h=>absurd h hz0⟩
 have hz:∀z∈zs,z.length<=1000:=Classical.not_not.mp hz0
 have hw:=yW (m:=22) (by decide) l
 by_cases c1:rn l 22<17
 ·obtain ⟨f1,f2,f3,f4,f5,f6⟩:=zjm (rn l 22) c1
  obtain ⟨ts,l',hA,hl,D⟩:=zfy zs hz (opn (rn l 22)) (by omega) l.tail
  refine ⟨.row [.word "let", .word z,.word (Txt.slice (opt (rn l 22)) none (some (-1))),.row ts],l',fun _ hzl=>⟨.let_ _ _ _ hA (by omega),fun d hd sc st R dc n1 n2 h1 h2 hR=>?_⟩⟩
  obtain ⟨s1,e1,x1⟩:=yu dc 22 (by decide)
  obtain ⟨s2,e2,o2⟩:=zre (rn l 22) c1 s1
  have x2:=x1.trans (Nx.of x1.dc o2)
  obtain ⟨v,s3,e3,tv,x3⟩:=D d sc s2 R x2.dc n2 (x2.ob _ _ n2 h2) (fun r hr=>x2.lt (hR r hr))
  exact ⟨_,s3,ya rfl (zq (zG (zt (zy (ze rfl) rfl) e1)) (yK (yx (zE (zm (ze rfl) rfl (ltT true (by simp;omega) _))) (zq (zc1 (zt (zB (ze rfl)) e2)) (zW (zK (wB rfl (ze rfl) (ze rfl) (zt (wN (ze rfl) (ze rfl) (ze rfl)) e3)) (by simp))))))),TR.row4 (by decide +kernel) hzl (by omega) tv,x2.trans x3⟩
 ·have hr:=yW (m:=hs.length) H.pos l.tail
  have hm:=jy hr
  obtain ⟨ts,l',hA,hl,D⟩:=zfy zs hz (hs[rn l.tail hs.length]'hr).2 (by have:=H.few _ hm;omega) l.tail.tail
  refine ⟨.row [.word "call", .word z,.word (hs[rn l.tail hs.length]'hr).1,.row ts],l',fun _ hzl=>⟨.call _ _ _ hA (by have:=H.few _ hm;omega),fun d hd sc st R dc n1 n2 h1 h2 hR=>?_⟩⟩
  obtain ⟨s1,e1,x1⟩:=yu dc 22 (by decide)
  have l1:=j9 (x1.ob _ _ n1 h1)
  rw [jq] at l1
  obtain ⟨s2,e2,x2⟩:=yu x1.dc hs.length H.pos
  have x2:=x1.trans x2
  obtain ⟨v,s3,e3,tv,x3⟩:=D d sc s2 R x2.dc n2 (x2.ob _ _ n2 h2) (fun r hr=>x2.lt (hR r hr))
  exact ⟨_,s3,ya rfl (zq (zG (zt (zy (ze rfl) rfl) e1)) (zq (zQ (zE (zm (ze rfl) rfl (ltT false (by simp;omega) _)))) (zq (zc1 (zm (ze rfl) (zt (zy (ze rfl) (zt (zB (ze rfl)) l1)) e2) (zjn (x2.ob _ _ n1 h1) hr))) (zW (zK (wB rfl (ze rfl) (ze rfl) (zt (wN (ze rfl) (ze rfl) (ze rfl)) e3)) (by simp)))))),TR.row4 (by decide +kernel) hzl (H.len _ hm) tv,x2.trans x3⟩
inductive End0 (D:Nat):Tr->Prop
 | give (a:Tr):Atm D a->End0 D (.row [.word "give", a])
 | fail (z:Str):isW z=true->End0 D (.row [.word "fail", .word z])
 | go (f:Str) (as:List Tr):(∀a∈as,Atm D a)->as.length<=6->End0 D (.row [.word "go", .word f,.row as])
inductive Blk (D:Nat):Tr->List Tr->Nat->Prop
 | leaf (ss:List Tr) (e:Tr):(∀s∈ss,Stp D s)->End0 D e->Blk D (.row [.row ss,e]) (ss++[e]) 0
 | node (ss:List Tr) (a b1 b2:Tr) (l1 l2:List Tr) (d1 d2:Nat):(∀s∈ss,Stp D s)->Atm D a->Blk D b1 l1 d1->Blk D b2 l2 d2->Blk D (.row [.row ss,.row [.word "if", a,b1,b2]]) (ss++[.row [.word "if", a,b1,b2]]++l1++l2) (1+max d1 d2)
structure Nu (nm:Nat->Str) (d u:Nat) (l:List Int) (n:Nat) (a b:Sto):Prop where
 ob:∀(m:Nat) so,m≠d->m≠u->a[m]?=some so->b[m]?=some so
 dc:Dc d l b
 us:b[u]?=some (.lst ((List.range n).map fun i=>PV.str (nm i)))
def wU {R:List Nat}{s:Sto}{n:Nat}{xs:List PV}(h:s[n]?=some (.lst xs)) (so:SO):Dk (vw R s) (vw R (s.set n so)):=zbk fun m ks ys hm e=>⟨hm,by rw [yh (fun q=>by rw [q] at h;rw [h] at e;cases e)];exact e⟩
def wO {s:Sto}{n:Nat}{xs:List PV}{y:PV}(h:s[n]?=some (.lst xs)) (hl:xs.length<=100000):yM (.ref n) y s=.ok .non (s.set n (.lst (xs++[y]))):=by rw [zeB,yb h,zH (by simp [lim];omega)]
def zsi (nm:Nat->Str) (zs:List Str) (n i:Nat):List Str:=zs++(List.range i).map fun j=>nm (n+j)
def sq (T:List Str×Str×List Int->Tr) (N:List Str×Str×List Int->List Int) (nm:Nat->Str) (zs:List Str) (n:Nat) (l:List Int):Nat->List Int×List Tr
 | 0=>(l,[])
 | i+1=>(N (zsi nm zs n i,nm (n+i),(sq T N nm zs n l i).1),(sq T N nm zs n l i).2++[T (zsi nm zs n i,nm (n+i),(sq T N nm zs n l i).1)])
def names (nm:Nat->Str) (n:Nat):List PV:=(List.range n).map fun i=>PV.str (nm i)
def zc2 {nm:Nat->Str}{zs:List Str}{n i:Nat}{c:Nat}(M:Nm c nm) (hz:∀z∈zs,z.length<=1000) (hn:n+i<=900):∀z∈zsi nm zs n i,z.length<=1000:=fun z h=>by
 rcases wE.mp h with q|q
 ·exact hz z q
 ·obtain ⟨j,hj,rfl⟩:=j4.mp q
  exact M.len _ (by have:=zaZ.mp hj;omega)
abbrev bB:zk->Mo Fl:=(zu (zC 8 (zp yN (zc (zd 4) (zc (zp yE (zc (zd 3) zh)) zh))))
  (zu (yH (yC yM (zd 6) (zp zcR (zc (zd 0) (zc (zd 1) (zc (zd 2) (zc (zd 8) zh)))))))
  (zu (yH (yC yM (zd 3) (zd 8)))
  (yH (yC yM (zd 2) (zd 8))))))
abbrev eB (d hd sc u c deep t:Nat) (z7 z8 z9:Option PV):zk:=[sR d,sR hd,sR sc,sR u,sI c,sI deep,sR t,z7,z8,z9,none,none,none,none,none]
structure Sts (nm:Nat->Str) (R:List Nat) (d hd sc u t:Nat) (a:Sto) (hs:List (Str×Nat)) (zs:List Str) (n:Nat) (l:List Int) (ts:List Tr) (s:Sto):Prop where
 ob:∀(m:Nat) so,m≠d->m≠u->a[m]?=some so->s[m]?=some so
 dc:Dc d l s
 us:s[u]?=some (.lst (names nm n))
 scp:s[sc]?=some (.lst (zs.map PV.str))
 st:∃ys,s[t]?=some (.lst ys)/\TRs (vw R s) ts ys
def zrg {hs:List (Str×Nat)}{nm:Nat->Str}{c:Nat}(M:Nm c nm) {T:List Str×Str×List Int->Tr}{N:List Str×Str×List Int->List Int}{R:List Nat}{d hd sc u t deep n i:Nat}{a s:Sto}{zs:List Str}{l:List Int}{ts:List Tr}
  (hT:(∀z∈zs,z.length<=1000)->(nm n).length<=1000->Stp 1 (T (zs,nm n,l))/\∀d hd sc st R,Dc d l st->hd≠d->sc≠d->st[hd]?=some (.lst (hdV hs))->st[sc]?=some (.lst (zs.map PV.str))->(∀r∈R,r<st.length)->∃v s1,zcR [.ref d,.ref hd,.ref sc,.str (nm n)] st=.ok v s1/\TR (vw R s1) (T (zs,nm n,l)) v/\Nx d (N (zs,nm n,l)) st s1)
  (hz:∀z∈zs,z.length<=1000) (hzl:zs.length<=2000) (hn:n<900) (htl:ts.length<=100) (da:d<a.length) (ua:u<a.length) (hda:a[hd]?=some (.lst (hdV hs))) (h1:d≠u) (h2:hd≠d) (h3:hd≠u) (sa:a.length<=sc) (ta:a.length<=t) (st_:sc≠t) (hR:∀r∈R,r<a.length) (I:Sts nm R d hd sc u t a hs zs n l ts s) (z8 z9:Option PV) :
  ∃s',bB (eB d hd sc u c deep t (sI i) z8 z9) s=.ok (.nx (eB d hd sc u c deep t (sI i) (some (.str (nm n))) z9)) s'/\Sts nm R d hd sc u t a hs (zs++[nm n]) (n+1) (N (zs,nm n,l)) (ts++[T (zs,nm n,l)]) s':=by
 obtain ⟨hS,D⟩:=hT hz (M.len n hn)
 obtain ⟨ys,hy,tr⟩:=I.st
 have hlen:=tr.len
 have ul:=j9 I.us
 rw [show (names nm n).length=n by simp [names]] at ul
 obtain ⟨s1,e1,o1⟩:=M.at_ n hn s
 have lta:∀r,r<a.length->r<s.length:=fun r hr=>by
  by_cases q1:r=d
  ·rw [q1];exact zM I.dc
  ·by_cases q2:r=u
   ·rw [q2];exact zM I.us
   ·exact zM (I.ob r _ q1 q2 (zU hr))
 have old_lt:∀r,r<s.length->r<s1.length:=fun r hr=>zM (o1 r _ (zU hr))
 obtain ⟨v,s2,e2,tv,x2⟩:=D d hd sc s1 R (o1 _ _ I.dc) h2 (by omega) (o1 _ _ (I.ob _ _ h2 h3 hda)) (o1 _ _ I.scp) (fun r hr=>old_lt r (lta r (hR r hr)))
 have hy1:=o1 _ _ hy
 have hy2:=x2.ob _ _ (by omega) hy1
 have A1:=wO (y:=v) hy2 (by omega)
 have us3:(s2.set t (.lst (ys++[v])))[u]?=some (.lst (names nm n)):=by rw [yh (by omega)];exact x2.ob _ _ (yJ h1) (o1 _ _ I.us)
 have A2:=wO (y:=.str (nm n)) us3 (by simp [names];omega)
 have sc4:((s2.set t (.lst (ys++[v]))).set u (.lst (names nm n++[.str (nm n)])))[sc]?=some (.lst (zs.map PV.str)):=by rw [yh (by omega),yh (by omega)];exact x2.ob _ _ (by omega) (o1 _ _ I.scp)
 have A3:=wO (y:=.str (nm n)) sc4 (by simp;omega)
 refine ⟨_,zq (zG (zt (zy (ze rfl) (zt (zB (ze rfl)) ul)) e1)) (zq (jU (jV (ze rfl) hy1 (zt (wB (ze rfl) (ze rfl) (ze rfl) (ze rfl)) e2) A1)) (zq (jU (jV (ze rfl) us3 (ze rfl) A2)) (jU (jV (ze rfl) sc4 (ze rfl) A3)))),⟨fun m so q1 q2 e=>?_,?_,?_,?_,ys++[v],?_,?_⟩⟩
 ·have:=zM e
  rw [yh (by omega),yh (fun q=>q2 q.symm),yh (by omega)]
  exact x2.ob m so q1 (o1 m so (I.ob m so q1 q2 e))
 ·show (List.set _ _ _)[d]?=_
  rw [yh (by omega),yh (fun q=>h1 q.symm),yh (by omega)]
  exact x2.dc
 ·rw [yh (by omega),yZ (zM us3)]
  simp [names,jI]
 ·rw [yZ (zM sc4),jz];rfl
 ·rw [yh st_,yh (by omega),yZ (zM hy2)]
 ·refine TRs.mono (wU sc4 _) _ (TRs.mono (wU us3 _) _ (TRs.mono (wU hy2 _) _ ?_))
  exact (TRs.mono (x2.vw (o1 _ _ I.dc)) _ (TRs.mono (jX o1) _ tr)).append ⟨v,[],rfl,tv,rfl⟩
section
variable {hs:List (Str×Nat)}{nm:Nat->Str}{c:Nat}
def zrh (H:Hs hs) (M:Nm c nm) (l:List Int) (zs:List Str) (n:Nat) (hz:∀z∈zs,z.length<=1000) (hzl:zs.length<=900) (hn:n+3<=900) :
  ∃(ts:List Tr) (lS:List Int) (m:Nat),m<=3/\ts.length=m/\(∀t∈ts,Stp 1 t)/\∀(mr:List PV->Mo PV) (deep d hd u:Nat) (scv:PV) (st:Sto) (R:List Nat),Dc d l st->d≠u->hd≠d->hd≠u->st[hd]?=some (.lst (hdV hs))->st[u]?=some (.lst (names nm n))->jY [scv] st=.ok (.ref st.length) (st++[.lst (zs.map PV.str)])->(∀r∈R,r<st.length) ->
   ∃s z7 z8,Sts nm R d hd st.length u (st.length+1) st hs (zsi nm zs n m) (n+m) lS.tail ts s/\∀X,zfc mr (eB d hd st.length u c deep (st.length+1) z7 z8 (some (.int (rn lS 6:Int)))) s=X->ziF mr [sR d,sR hd,some scv,sR u,sI c,sI deep,none,none,none,none,none,none,none,none,none] st=X:=by
 obtain ⟨T,N,hT⟩:=pick2 (zrf H)
 have hm:=yW (m:=4) (by decide) l
 generalize em:rn l 4=m at hm
 refine ⟨(sq T N nm zs n l.tail m).2,(sq T N nm zs n l.tail m).1,m,by omega,?_,?_,fun mr deep d hd u scv st R dc h1 h2 h3 hh hu hsc hR=>?_⟩
 ·have tl:∀i,(sq T N nm zs n l.tail i).2.length=i:=fun i=>by induction i with|zero=>rfl|succ i ih=>simp [sq,ih]
  exact tl m
 ·have:∀i,i<=m->∀t∈(sq T N nm zs n l.tail i).2,Stp 1 t:=by
   intro i
   induction i with
   | zero=>intro _ t ht;cases ht
   | succ i ih =>
    intro hi t ht
    rcases wE.mp ht with q|q
    ·exact ih (by omega) t q
    ·rw [jw.mp q]
     exact (hT _ (zc2 M hz (by omega)) (M.len _ (by omega))).1
  exact this m (yf _)
 ·have da:d<st.length:=zM dc
  have ua:u<st.length:=zM hu
  let a0:=st++[SO.lst (zs.map PV.str)]
  let a1:=a0++[SO.lst []]
  have o1:Old st a1:=(yc _ _).trans (yc _ _)
  have l0:a0.length=st.length+1:=by simp [a0]
  obtain ⟨s2,e2,x2⟩:=yu (l:=l) (d:=d) (st:=a1) (o1 _ _ dc) 4 (by decide)
  rw [em] at e2
  have I0:Sts nm R d hd st.length u (st.length+1) st hs zs n l.tail [] s2:=⟨fun k so q1 q2 e=>x2.ob k so q1 (o1 k so e),x2.dc,x2.ob _ _ (yJ h1) (o1 _ _ hu),x2.ob _ _ (by omega) (yc _ _ _ _ (yi _ _)),[],x2.ob _ _ (by omega) (by rw [<-l0];exact yi _ _),rfl⟩
  obtain ⟨e',s3,F,⟨z7,z8,he⟩,I3⟩:=zad (gt:=gN 7) (body:=bB) (fs:=(zc (zp yz (zc (zd 0) (zc (mC (.int 4)) zh))) zh)) (e:=eB d hd st.length u c deep (st.length+1) none none none) (st:=a1) (fun i e s=>(∃z7 z8,e=eB d hd st.length u c deep (st.length+1) z7 z8 none)/\Sts nm R d hd st.length u (st.length+1) st hs (zsi nm zs n i) (n+i) (sq T N nm zs n l.tail i).1 (sq T N nm zs n l.tail i).2 s) m (by omega) (zB (zt (zy (ze rfl) rfl) e2)) (fun i e s hi ⟨⟨z7,z8,he⟩,I⟩=>by
   subst he
   have tl:∀i,(sq T N nm zs n l.tail i).2.length=i:=fun i=>by induction i with|zero=>rfl|succ i ih=>simp [sq,ih]
   obtain ⟨s',e',I'⟩:=zrg (deep:=deep) (i:=i) M (hT (zsi nm zs n i,nm (n+i),(sq T N nm zs n l.tail i).1)) (zc2 M hz (by omega)) (by simp [zsi];omega) (by omega) (by rw [tl];omega) da ua hh h1 h2 h3 (yf _) (by omega) (by omega) hR I z8 none
   refine ⟨eB d hd st.length u c deep (st.length+1) (sI i) z8 none,_,s',rfl,e',⟨_,_,rfl⟩,?_⟩
   have ez:zsi nm zs n (i+1)=zsi nm zs n i++[nm (n+i)]:=by simp [zsi,jI]
   rw [ez]
   exact I') ⟨⟨none,none,rfl⟩,by simpa [zsi,sq] using I0⟩
  subst he
  obtain ⟨s4,e4,x4⟩:=yu I3.dc 6 (by decide)
  have I4:Sts nm R d hd st.length u (st.length+1) st hs (zsi nm zs n m) (n+m) (sq T N nm zs n l.tail m).1.tail (sq T N nm zs n l.tail m).2 s4:=by
   obtain ⟨ys,hy,tr⟩:=I3.st
   exact ⟨fun k so q1 q2 e=>x4.ob k so q1 (I3.ob k so q1 q2 e),x4.dc,x4.ob _ _ (yJ h1) I3.us,x4.ob _ _ (by omega) I3.scp,ys,x4.ob _ _ (by omega) hy,TRs.mono (x4.vw I3.dc) _ tr⟩
  refine ⟨s4,z7,z8,I4,fun X h=>?_⟩
  have L:(y8 zh) (eB d hd st.length u c deep 0 none none none) a0=.ok (.ref (st.length+1)) a1:=by
   have:=jp (e:=eB d hd st.length u c deep 0 none none none) (st:=a0) jD (by simp)
   rw [l0] at this
   exact this
  exact zq (zG (zt (zB (ze rfl)) hsc)) (zq (zG L) (zq F (zq (zG (zt (zy (ze rfl) rfl) e4)) h)))
end
def Nu.trans {nm:Nat->Str}{d u:Nat}{l l':List Int}{n n':Nat}{a b c:Sto}(h:Nu nm d u l n a b) (h':Nu nm d u l' n' b c):Nu nm d u l' n' a c:=⟨fun m so q1 q2 e=>h'.ob m so q1 q2 (h.ob m so q1 q2 e),h'.dc,h'.us⟩
def Nu.vw {nm:Nat->Str}{d u:Nat}{l l0:List Int}{n:Nat}{xs:List PV}{a b:Sto}{R:List Nat}(h:Nu nm d u l n a b) (hd:Dc d l0 a) (hu:a[u]?=some (.lst xs)):Dk (FK25.vw R a) (FK25.vw R b):=zbk fun m ks ys hm e=>⟨hm,h.ob m _ (fun q=>by rw [q,show a[d]?=_ from hd] at e;cases e) (fun q=>by rw [q,hu] at e;cases e) e⟩
def Nu.lt {nm:Nat->Str}{d u:Nat}{l:List Int}{n:Nat}{a b:Sto}(h:Nu nm d u l n a b) {r:Nat}(hr:r<a.length):r<b.length:=by
 by_cases q1:r=d
 ·rw [q1];exact zM h.dc
 ·by_cases q2:r=u
  ·rw [q2];exact zM h.us
  ·exact zM (h.ob r _ q1 q2 (zU hr))
def zc3 {s:Sto}{n:Nat}{xs:List PV}(h:s[n]?=some (.lst xs)):jY [.ref n] s=.ok (.ref s.length) (s++[.lst xs]):=by
 simp only [jY,h]
 show yo s n _=_
 rw [yb h]
def zjo {s:Sto}{xs:List PV}:jY [.tup xs] s=.ok (.ref s.length) (s++[.lst xs]):=by
 show zcx [.tup xs] s=_
 rfl
def bq (deep:Nat):Nat:=3*(2 ^ (4-deep)-1)
def zri {deep:Nat}(h:deep<=3):3<=bq deep:=by
 have:deep=0\/deep=1\/deep=2\/deep=3:=by omega
 rcases this with q|q|q|q<;>(subst q;decide)
def zrj {deep:Nat}(h:deep<3):bq deep=3+2*bq (deep+1):=by
 have:deep=0\/deep=1\/deep=2:=by omega
 rcases this with q|q|q<;>(subst q;decide)
section
variable {hs:List (Str×Nat)}{nm:Nat->Str}{c:Nat}
def Draw (hs:List (Str×Nat)) (nm:Nat->Str) (c lev deep:Nat) (zs:List Str) (l l':List Int) (n n':Nat) (t:Tr):Prop :=
 ∀(d hd u:Nat) (scv:PV) (st:Sto) (R:List Nat),Dc d l st->d≠u->hd≠d->hd≠u->st[hd]?=some (.lst (hdV hs))->st[u]?=some (.lst (names nm n))->jY [scv] st=.ok (.ref st.length) (st++[.lst (zs.map PV.str)])->(∀r∈R,r<st.length)->∃v s1,wa lev [.ref d,.ref hd,scv,.ref u,.int (c:Int),.int (deep:Int)] st=.ok v s1/\TR (vw R s1) t v/\Nu nm d u l' n' st s1
def zdZ {lev:Nat}{xs:List PV}{st:Sto}{X:Res PV}(h:zfd (wa lev) xs st=X):wa (lev+1) xs st=X:=h
def zrk (H:Hs hs) (M:Nm c nm):∀(lev deep:Nat) (l:List Int) (zs:List Str) (n:Nat),4<=lev+deep->deep<=3->(∀z∈zs,z.length<=1000)->zs.length+bq deep<=900->n+bq deep<=900 ->
  ∃t ls dd l' n',Blk 1 t ls dd/\3*ls.length<=4*bq deep/\n<=n'/\n'<=n+bq deep/\dd<=3-deep/\Draw hs nm c lev deep zs l l' n n' t:=by
 intro lev
 induction lev with
 | zero=>intro deep l zs n h h';omega
 | succ lev ih =>
  intro deep l zs n hl hd3 hz hzl hn
  have b0:=zri hd3
  obtain ⟨ts,lS,m,hm,htl,hS,P⟩:=zrh H M l zs n hz (by omega) (by omega)
  have hz1:=zc2 (i:=m) M hz (n:=n) (by omega)
  have hw:=yW (m:=6) (by decide) lS
  by_cases c1:3<rn lS 6/\deep<3
  ·have bs:=zrj c1.2
   obtain ⟨ta,l3,hA,DA⟩:=zfx (zsi nm zs n m) hz1 lS.tail
   have zl:(zsi nm zs n m).length=zs.length+m:=by simp [zsi]
   obtain ⟨t1,ls1,d1,l4,n4,B1,b1l,q1,q2,q3,D1⟩:=ih (deep+1) l3 (zsi nm zs n m) (n+m) (by omega) (by omega) hz1 (by omega) (by omega)
   obtain ⟨t2,ls2,d2,l5,n5,B2,b2l,p1,p2,p3,D2⟩:=ih (deep+1) l4 (zsi nm zs n m) n4 (by omega) (by omega) hz1 (by omega) (by omega)
   refine ⟨_,_,_,l5,n5,.node ts ta t1 t2 ls1 ls2 d1 d2 hS hA B1 B2,by simp;omega,by omega,by omega,by omega,fun d hd u scv st R dc h1 h2 h3 hh hu hsc hR=>?_⟩
   obtain ⟨s,z7,z8,I,G⟩:=P (wa lev) deep d hd u scv st R dc h1 h2 h3 hh hu hsc hR
   have da:d<st.length:=zM dc
   have ua:u<st.length:=zM hu
   have hda:hd<st.length:=zM hh
   obtain ⟨ys,hy,tr⟩:=I.st
   have U0:Nu nm d u lS.tail (n+m) st s:=⟨I.ob,I.dc,I.us⟩
   obtain ⟨va,s1,e1,tva,x1⟩:=DA d st.length s R I.dc (by omega) I.scp (fun r hr=>U0.lt (hR r hr))
   have us1:=x1.ob _ _ (yJ h1) I.us
   have sc1:=x1.ob _ _ (by omega) I.scp
   have hy1:=x1.ob _ _ (by omega) hy
   have U1:Nu nm d u l3 (n+m) s s1:=⟨fun k so k1 k2 e=>x1.ob k so k1 e,x1.dc,us1⟩
   have hh1:s1[hd]?=some (.lst (hdV hs)):=(U0.trans U1).ob _ _ h2 h3 hh
   obtain ⟨v1,s2,e2,tv1,U2⟩:=D1 d hd u (.ref st.length) s1 R x1.dc h1 h2 h3 hh1 us1 (zc3 sc1) (fun r hr=>(U0.trans U1).lt (hR r hr))
   have sc2:=U2.ob _ _ (by omega) (by omega) sc1
   have hy2:=U2.ob _ _ (by omega) (by omega) hy1
   obtain ⟨v2,s3,e3,tv2,U3⟩:=D2 d hd u (.ref st.length) s2 R U2.dc h1 h2 h3 (U2.ob _ _ h2 h3 hh1) U2.us (zc3 sc2) (fun r hr=>(U0.trans (U1.trans U2)).lt (hR r hr))
   have hy3:=U3.ob _ _ (by omega) (by omega) hy2
   have dp1:((deep:Int)+1)=((deep+1:Nat):Int):=by omega
   have D12:=U2.vw (R:=R) x1.dc us1
   have D23:=U3.vw (R:=R) U2.dc U2.us
   have six:∀{s':Sto} {v:PV} {z10 z11:Option PV},(zp (wa lev) (zc (zd 0) (zc (zd 1) (zc (zd 2) (zc (zd 3) (zc (zd 4) (zc (zj zZ (zd 5) (mC (.int 1))) zh))))))) [sR d,sR hd,sR st.length,sR u,sI c,sI deep,some (.ref (st.length+1)),z7,z8,some (.int (rn lS 6:Int)),z10,z11,none,none,none] s'=wa lev [.ref d,.ref hd,.ref st.length,.ref u,.int (c:Int),.int ((deep+1:Nat):Int)] s':=fun {s'} {v} {z10} {z11}=>zt (y9 (ze rfl) (y9 (ze rfl) (y9 (ze rfl) (y9 (ze rfl) (zy (ze rfl) (zm (ze rfl) rfl ((zat _ _).trans (by rw [dp1])))))))) rfl
   refine ⟨.tup [.tup ys,.tup [.str "if", va,v1,v2]],s3,zdZ (ya rfl (G _ (yK (yx (zas (zE (zm (ze rfl) rfl (gtT true (by simp;omega) _))) (zE (zm (ze rfl) rfl (ltT true (by simp;omega) _)))) (zq (zG (zt (zy (ze rfl) (ze rfl)) e1)) (zq (zG ((six (v:=v1)).trans e2)) (zq (zG ((six (v:=v2)).trans e3)) (zW (zK (zy (zt (zB (ze rfl)) (by rw [jo,yb hy3])) (zK (wB rfl (ze rfl) (ze rfl) (ze rfl)) (by simp))) (by simp)))))))))),?_,U0.trans (U1.trans (U2.trans U3))⟩
   exact ⟨_,rfl,_,_,rfl,⟨ys,rfl,TRs.mono D23 _ (TRs.mono D12 _ (TRs.mono (x1.vw I.dc) _ tr))⟩,_,_,rfl,⟨_,rfl,_,_,rfl,TR.str (by decide +kernel),_,_,rfl,TR.mono D23 _ (TR.mono D12 _ tva),_,_,rfl,TR.mono D23 _ tv1,_,_,rfl,tv2,rfl⟩,rfl⟩
  have skip4:∀{d hd sc u t:Nat} {z7 z8:Option PV} {s:Sto} {X:Res Fl},ziE (wa lev) (eB d hd sc u c deep t z7 z8 (some (.int (rn lS 6:Int)))) s=X->zfc (wa lev) (eB d hd sc u c deep t z7 z8 (some (.int (rn lS 6:Int)))) s=X:=fun h=>zq (zQ (by
   by_cases q:3<rn lS 6
   ·exact zas (zE (zm (ze rfl) rfl (gtT true (by simp;omega) _))) (zE (zm (ze rfl) rfl (ltT false (by simp;omega) _)))
   ·exact zcM (zE (zm (ze rfl) rfl (gtT false (by simp;omega) _))))) h
  by_cases c2:rn lS 6=1
  ·obtain ⟨z,l2,hzw,DW⟩:=zcZ lS.tail
   refine ⟨_,_,_,l2,n+m,.leaf ts _ hS (.fail z hzw),by simp;omega,by omega,by omega,by omega,fun d hd u scv st R dc h1 h2 h3 hh hu hsc hR=>?_⟩
   obtain ⟨s,z7,z8,I,G⟩:=P (wa lev) deep d hd u scv st R dc h1 h2 h3 hh hu hsc hR
   have da:d<st.length:=zM dc
   obtain ⟨ys,hy,tr⟩:=I.st
   have tu:yL [.ref (st.length+1)] s=.ok (.tup ys) s:=by rw [jo,yb hy]
   obtain ⟨s1,e1,x1⟩:=DW d s I.dc
   exact ⟨_,s1,zdZ (ya rfl (G _ (skip4 (yK (yx (zE (zm (ze rfl) rfl (eqT' true (by simp;omega) _))) (zW (zK (zy (zt (zB (ze rfl)) tu) (zK (zy rfl (zt (zB (ze rfl)) e1)) (by simp))) (by simp)))))))),⟨_,rfl,_,_,rfl,⟨ys,rfl,TRs.mono (x1.vw I.dc) _ tr⟩,_,_,rfl,⟨_,rfl,_,_,rfl,TR.str (by decide +kernel),_,_,rfl,TR.str (by have:=zcd hzw;omega),rfl⟩,rfl⟩,⟨fun k so k1 k2 e=>x1.ob k so k1 (I.ob k so k1 k2 e),x1.dc,x1.ob _ _ (yJ h1) I.us⟩⟩
  by_cases c3:rn lS 6=2
  ·have hr:=yW (m:=hs.length) H.pos lS.tail
   have hmm:=jy hr
   obtain ⟨as,l2,hA,hAl,DA⟩:=zfy (zsi nm zs n m) hz1 (hs[rn lS.tail hs.length]'hr).2 (by have:=H.few _ hmm;omega) lS.tail.tail
   refine ⟨_,_,_,l2,n+m,.leaf ts _ hS (.go (hs[rn lS.tail hs.length]'hr).1 as hA (by have:=H.few _ hmm;omega)),by simp;omega,by omega,by omega,by omega,fun d hd u scv st R dc h1 h2 h3 hh hu hsc hR=>?_⟩
   obtain ⟨s,z7,z8,I,G⟩:=P (wa lev) deep d hd u scv st R dc h1 h2 h3 hh hu hsc hR
   have da:d<st.length:=zM dc
   have hh0:=I.ob _ _ h2 h3 hh
   have l1:=j9 hh0
   rw [jq] at l1
   obtain ⟨s1,e1,x1⟩:=yu I.dc hs.length H.pos
   obtain ⟨ys,hy,tr⟩:=I.st
   have hy1:=x1.ob _ _ (by omega) hy
   have tu:yL [.ref (st.length+1)] s1=.ok (.tup ys) s1:=by rw [jo,yb hy1]
   have U0:Nu nm d u lS.tail (n+m) st s:=⟨I.ob,I.dc,I.us⟩
   obtain ⟨v,s2,e2,tv,x2⟩:=DA d st.length s1 R x1.dc (by omega) (x1.ob _ _ (by omega) I.scp) (fun r hr=>x1.lt (U0.lt (hR r hr)))
   have x12:=x1.trans x2
   exact ⟨_,s2,zdZ (ya rfl (G _ (skip4 (zq (zQ (zE (zm (ze rfl) rfl (eqT' false (by simp;omega) _)))) (yK (yx (zE (zm (ze rfl) rfl (eqT' true (by simp;omega) _))) (zq (zc1 (zm (ze rfl) (zt (zy (ze rfl) (zt (zB (ze rfl)) l1)) e1) (zjn (x1.ob _ _ h2 hh0) hr))) (zW (zK (zy (zt (zB (ze rfl)) tu) (zK (wN rfl (ze rfl) (zt (wN (ze rfl) (ze rfl) (ze rfl)) e2)) (by simp))) (by simp)))))))))),⟨_,rfl,_,_,rfl,⟨ys,rfl,TRs.mono (x12.vw I.dc) _ tr⟩,_,_,rfl,⟨_,rfl,_,_,rfl,TR.str (by decide +kernel),_,_,rfl,TR.str (H.len _ hmm),_,_,rfl,tv,rfl⟩,rfl⟩,⟨fun k so k1 k2 e=>x12.ob k so k1 (I.ob k so k1 k2 e),x12.dc,x12.ob _ _ (yJ h1) I.us⟩⟩
  ·obtain ⟨ta,l2,hA,DA⟩:=zfx (zsi nm zs n m) hz1 lS.tail
   refine ⟨_,_,_,l2,n+m,.leaf ts _ hS (.give ta hA),by simp;omega,by omega,by omega,by omega,fun d hd u scv st R dc h1 h2 h3 hh hu hsc hR=>?_⟩
   obtain ⟨s,z7,z8,I,G⟩:=P (wa lev) deep d hd u scv st R dc h1 h2 h3 hh hu hsc hR
   have da:d<st.length:=zM dc
   obtain ⟨ys,hy,tr⟩:=I.st
   have tu:yL [.ref (st.length+1)] s=.ok (.tup ys) s:=by rw [jo,yb hy]
   have U0:Nu nm d u lS.tail (n+m) st s:=⟨I.ob,I.dc,I.us⟩
   obtain ⟨v,s1,e1,tv,x1⟩:=DA d st.length s R I.dc (by omega) I.scp (fun r hr=>U0.lt (hR r hr))
   exact ⟨_,s1,zdZ (ya rfl (G _ (skip4 (zq (zQ (zE (zm (ze rfl) rfl (eqT' false (by simp;omega) _)))) (zq (zQ (zE (zm (ze rfl) rfl (eqT' false (by simp;omega) _)))) (zW (zK (zy (zt (zB (ze rfl)) tu) (zK (zy rfl (zt (zy (ze rfl) (ze rfl)) e1)) (by simp))) (by simp)))))))),⟨_,rfl,_,_,rfl,⟨ys,rfl,TRs.mono (x1.vw I.dc) _ tr⟩,_,_,rfl,⟨_,rfl,_,_,rfl,TR.str (by decide +kernel),_,_,rfl,tv,rfl⟩,rfl⟩,⟨fun k so k1 k2 e=>x1.ob k so k1 (I.ob k so k1 k2 e),x1.dc,x1.ob _ _ (yJ h1) I.us⟩⟩
end
abbrev s7:List Nat:=[0,1,2,3,1,2,6]
def zrl (m:Nat) (hm:1<=m/\m<=4) (l:List Int):∃(hs:List (Str×Nat)) (l':List Int),Hs hs/\hs.length=m/\(hs.map (·.1)).Nodup/\∀d st,Dc d l st->∃r s1,ze6 [.ref d,.int (m:Int)] st=.ok (.ref r) s1/\s1[r]?=some (.lst (hdV hs))/\Nx d l' st s1/\st.length<=r:=by
 have hc:=yW (m:=1000000007) (by decide) l
 generalize ec:rn l 1000000007=c at hc
 obtain ⟨nm,M⟩:=zaU c (by omega)
 let it:Nat->List Int:=fun i=>itr List.tail i l.tail
 let h:Nat->Str×Nat:=fun i=>(nm i,(s7[rn (it i) 7]?).getD 0)
 have h7:∀i,s7[rn (it i) 7]?=some (h i).2/\(h i).2<=6:=fun i=>by
  have hr:rn (it i) 7<s7.length:=yW (by decide) _
  have e:s7[rn (it i) 7]?=some (s7[rn (it i) 7]'hr):=zU hr
  have:∀x∈s7,x<=6:=by decide
  refine ⟨?_,?_⟩
  ·show _=some ((s7[rn (it i) 7]?).getD 0);rw [e];rfl
  ·show (s7[rn (it i) 7]?).getD 0<=6;rw [e];exact this _ (jy hr)
 refine ⟨(List.range m).map h,it m,⟨by simp;omega,fun x hx=>?_,fun x hx=>?_⟩,by simp,?_,fun d st dc=>?_⟩
 ·obtain ⟨j,hj,rfl⟩:=j4.mp hx
  exact M.len j (by have:=zaZ.mp hj;omega)
 ·obtain ⟨j,hj,rfl⟩:=j4.mp hx
  exact (h7 j).2
 ·rw [List.map_map]
  refine List.pairwise_iff_getElem.mpr fun i j hi hj hij e=>?_
  simp only [jq,zaY] at hi hj
  simp only [List.getElem_map,List.getElem_range] at e
  have:=M.one i j (by omega) (by omega) e
  omega
 obtain ⟨s1,e1,x1⟩:=yu dc 1000000007 (by decide)
 rw [ec] at e1
 obtain ⟨ys,s2,C,q1,q2,q3⟩:=zay (fe:=(zA (zc (zp yN (zc (zd 3) (zc (zd 0) zh))) (zc (zj zw (y8 (zc (mC (.int 0)) (zc (mC (.int 1)) (zc (mC (.int 2)) (zc (mC (.int 3)) (zc (mC (.int 1)) (zc (mC (.int 2)) (zc (mC (.int 6)) zh)))))))) (zp yz (zc (zd 1) (zc (mC (.int 7)) zh)))) zh)))) (fs:=(zc (zd 1) zh)) (env:=[sR d,sI m,sI c]) (st:=s1) m (by omega) (zB (ze rfl)) (fun i ys s=>ys=hdV ((List.range i).map h)/\Nx d (it i) s1 s/\s1.length<=s.length) (fun i ys s hi ⟨g1,g2,g3⟩=>by
  obtain ⟨t1,f1,o1⟩:=M.at_ i (by omega) s
  have n1:Nx d (it i) s1 t1:=g2.trans (Nx.of g2.dc o1)
  let LL:List PV:=s7.map fun (k:Nat)=>PV.int (k:Int)
  have n2:Nx d (it i) t1 (t1++[.lst LL]):=Nx.of n1.dc (yc _ _)
  obtain ⟨t2,f2,n3⟩:=yu n2.dc 7 (by decide)
  have dl:=zM n1.dc
  have hL:t2[t1.length]?=some (.lst LL):=n3.ob _ _ (by omega) (yi _ _)
  refine ⟨.tup [.str (nm i),.int ((h i).2:Int)],t2,zK (zy (zt (zy (ze rfl) (ze rfl)) f1) (zm (jp (xs:=LL) rfl (by simp [LL])) (zt (zy (ze rfl) rfl) f2) (by
   rw [wo,yb hL,atI_get (x:=PV.int ((h i).2:Int)) (by rw [jk,(h7 i).1];rfl)]
   rfl))) (by simp),?_,n1.trans (n2.trans n3),?_⟩
  ·rw [g1,jI,jz];simp [hdV,h]
  ·have a1:∀r,r<s.length->r<t2.length:=fun r hr=>(Nx.of g2.dc o1 |>.trans (n2.trans n3)).lt hr
   rcases Nat.eq_zero_or_pos s.length with q|q
   ·omega
   ·have:=a1 (s.length-1) (by omega);omega) ⟨rfl,Nx.refl x1.dc,yf _⟩
 have sl:st.length<=s1.length:=by
  have:=zM dc
  have:=x1.lt (n:=st.length-1) (by omega);omega
 exact ⟨s2.length,s2++[SO.lst ys],ya rfl (zq (zG (zt (zy (ze rfl) rfl) e1)) (zW C)),by rw [yi,q1],x1.trans (q2.trans (Nx.of q2.dc (yc _ _))),by omega⟩
structure Fn (f:Tr) (z:Str) (b:Tr) (ls:List Tr) (dd:Nat):Prop where
 ex:∃ps:List Str,f=.row [.word z,.row (ps.map Tr.word),b]/\ps.length<=6
 bl:∃D,Blk D b ls dd/\D+2*dd<=59
 dp:dd<=8
 nl:ls.length<=100
def zfz {D:Nat}{t:Tr}(h:Atm D t):sz t<=62:=by
 cases h with
 | of z=>simp [sz,szs]
 | is t _ _ h=>simp only [sz,szs];omega
def zfA {D:Nat}{t:Tr}(h:Atm D t):dp t<=D+1:=by
 cases h with
 | of z=>simp [dp,dps]
 | is t _ h _=>simp only [dp,dps];omega
def zfB {D:Nat}{as:List Tr}(h:∀a∈as,Atm D a) (hl:as.length<=6):szs as<=372:=by
 have:=zac (m:=62) (ts:=as) fun t ht=>zfz (h t ht)
 omega
def zfC {D:Nat}{as:List Tr}(h:∀a∈as,Atm D a):dps as<=D+1:=wL fun t ht=>zfA (h t ht)
def zjp {D:Nat}{t:Tr}(h:Stp D t):sz t<=380:=by
 cases h with
 | let_ z o as h hl=>have:=zfB h hl;simp only [sz,szs];omega
 | call z f as h hl=>have:=zfB h hl;simp only [sz,szs];omega
def zjq {D:Nat}{t:Tr}(h:Stp D t):dp t<=D+3:=by
 cases h with
 | let_ z o as h hl=>have:=zfC h;simp only [dp,dps];omega
 | call z f as h hl=>have:=zfC h;simp only [dp,dps];omega
def zrm {D:Nat}{t:Tr}(h:End0 D t):sz t<=380:=by
 cases h with
 | give a h=>have:=zfz h;simp only [sz,szs];omega
 | fail z h=>simp [sz,szs]
 | go f as h hl=>have:=zfB h hl;simp only [sz,szs];omega
def zrn {D:Nat}{t:Tr}(h:End0 D t):dp t<=D+3:=by
 cases h with
 | give a h=>have:=zfA h;simp only [dp,dps];omega
 | fail z h=>simp only [dp,dps];omega
 | go f as h hl=>have:=zfC h;simp only [dp,dps];omega
def zfD {D:Nat}{t:Tr}{ls:List Tr}{dd:Nat}(B:Blk D t ls dd):sz t<=400*ls.length:=by
 induction B with
 | leaf ss e hS hE =>
  have:=zac (m:=380) (ts:=ss) fun t ht=>zjp (hS t ht)
  have:=zrm hE
  simp only [sz,szs,jG,zbp];omega
 | node ss a b1 b2 l1 l2 d1 d2 hS hA _ _ h1 h2 =>
  have:=zac (m:=380) (ts:=ss) fun t ht=>zjp (hS t ht)
  have:=zfz hA
  simp only [sz,szs,jG,zbp];omega
def zfE {D:Nat}{t:Tr}{ls:List Tr}{dd:Nat}(B:Blk D t ls dd):dp t<=D+5+2*dd:=by
 induction B with
 | leaf ss e hS hE =>
  have:=wL (m:=D+3) (ts:=ss) fun t ht=>zjq (hS t ht)
  have:=zrn hE
  simp only [dp,dps];omega
 | node ss a b1 b2 l1 l2 d1 d2 hS hA _ _ h1 h2 =>
  have:=wL (m:=D+3) (ts:=ss) fun t ht=>zjq (hS t ht)
  have:=zfA hA
  simp only [dp,dps];omega
def zjr {D:Nat}{t:Tr}{ls:List Tr}{dd:Nat}(B:Blk D t ls dd):szs ls<=(dd+1)*sz t:=by
 induction B with
 | leaf ss e hS hE=>simp only [sz,zax,szs];omega
 | node ss a b1 b2 l1 l2 d1 d2 hS hA _ _ h1 h2 =>
  generalize em:max d1 d2=M
  have g1:szs l1<=(M+1)*sz b1:=yS h1 (zbO _ (by omega))
  have g2:szs l2<=(M+1)*sz b2:=yS h2 (zbO _ (by omega))
  have e1:sz (.row [.row ss,.row [.word "if", a,b1,b2]])=szs ss+sz (.row [.word "if", a,b1,b2])+2:=by simp only [sz,szs];omega
  have e2:sz (.row [.word "if", a,b1,b2])=2+sz a+sz b1+sz b2:=by simp only [sz,szs];omega
  generalize sz (.row [.row ss,.row [.word "if", a,b1,b2]])=X at *
  have g3:(M+1)*(sz b1+sz b2)<=(M+1)*X:=Nat.mul_le_mul_left _ (by omega)
  rw [Nat.mul_add] at g3
  have g4:(1+M+1)*X=(M+1)*X+X:=by rw [show 1+M+1=(M+1)+1 by omega,Nat.succ_mul]
  rw [g4]
  simp only [zax,szs]
  omega
def zjs {D:Nat}{t:Tr}{ls:List Tr}{dd:Nat}(B:Blk D t ls dd):dps ls<=dp t:=by
 induction B with
 | leaf ss e hS hE =>
  refine wL fun t ht=>?_
  rcases wE.mp ht with q|q
  ·have:=wT q;simp only [dp,dps];omega
  ·rw [jw.mp q];simp only [dp,dps];omega
 | node ss a b1 b2 l1 l2 d1 d2 hS hA _ _ h1 h2 =>
  refine wL fun t ht=>?_
  simp only [wE,jw] at ht
  rcases ht with ((q|q)|q)|q
  ·have:=wT q;simp only [dp,dps];omega
  ·rw [q];simp only [dp,dps];omega
  ·have:=wT q;simp only [dp,dps];omega
  ·have:=wT q;simp only [dp,dps];omega
def zjt:∀ps:List Str,szs (ps.map Tr.word)=ps.length
 | []=>rfl
 | p::ps=>by have:=zjt ps;simp only [jH,szs,sz,wq,this];omega
def zju:∀ps:List Str,dps (ps.map Tr.word)=0
 | []=>rfl
 | p::ps=>by have:=zju ps;simp only [jH,dps,dp,this];omega
def zfF {f b:Tr}{z:Str}{ls:List Tr}{dd:Nat}(h:Fn f z b ls dd):sz f<=10+400*ls.length:=by
 obtain ⟨⟨ps,rfl,hp⟩,⟨D,B,_⟩,_,_⟩:=h
 have:=zfD B
 simp only [sz,szs,zjt];omega
def zjv {f b:Tr}{z:Str}{ls:List Tr}{dd:Nat}(h:Fn f z b ls dd):dp f<=65:=by
 obtain ⟨⟨ps,rfl,hp⟩,⟨D,B,_⟩,_,_⟩:=h
 have:=zfE B
 simp only [dp,dps,zju];omega
abbrev bP:zk->Mo Fl:=(zu (zC 5 (zp yz (zc (zd 0) (zc (mC (.int 1000000007)) zh))))
  (zu (zC 6 (jh (iRng1 (zc (zd 4) zh)) (zp yN (zc (zd 6) (zc (zd 0) zh)))))
  (zu (zC 7 (zp yL (zc (zd 6) zh)))
  (yH (yC yM (zd 2) (zA (zc (zd 3) (zc (zd 7) (zc (zp (wa 6) (zc (zd 0) (zc (zd 1) (zc (zd 7) (zc (zd 6) (zc (zd 5) (zc (mC (.int 0)) zh))))))) zh)))))))))
def zfG {a:Sto}:∀{zs:List Str},(∀z∈zs,z.length<=1000)->TRs a (zs.map Tr.word) (zs.map PV.str)
 | [],_=>rfl
 | z::zs,h=>⟨_,_,rfl,TR.str (h z (yY ..)),zfG fun y hy=>h y (jc _ hy)⟩
def zro {hs:List (Str×Nat)}(H:Hs hs) (q:(Str×Nat)×List Int):∃f l',q.1.2<=6->q.1.1.length<=1000->(∃b ls dd,Fn f q.1.1 b ls dd)/\∀d hd t z5 z6 z7 st R ys,Dc d q.2 st->hd≠d->t≠d->t≠hd->st[hd]?=some (.lst (hdV hs))->st[t]?=some (.lst ys)->ys.length<=1000->(∀r∈R,r<st.length) ->
  ∃x5 x6 x7 s1 v,bP [sR d,sR hd,sR t,some (.str q.1.1),some (.int (q.1.2:Int)),z5,z6,z7] st=.ok (.nx [sR d,sR hd,sR t,some (.str q.1.1),some (.int (q.1.2:Int)),x5,x6,x7]) s1/\s1[t]?=some (.lst (ys++[v]))/\TR (vw R s1) f v/\Dk (vw R st) (vw R s1)/\Dc d l' s1/\(∀(m:Nat) so,m≠d->m≠t->st[m]?=some so->s1[m]?=some so):=by
 obtain ⟨⟨z,k⟩,l⟩:=q
 by_cases hk0:¬k<=6
 ·exact ⟨.num 0,[],fun h=>absurd h hk0⟩
 have hk:k<=6:=Nat.not_lt.mp (by omega)
 have hc:=yW (m:=1000000007) (by decide) l
 generalize ec:rn l 1000000007=c at hc
 obtain ⟨nm,M⟩:=zaU c (by omega)
 have b0:bq 0=45:=rfl
 let zs:List Str:=(List.range k).map nm
 have hzs:∀y∈zs,y.length<=1000:=fun y hy=>by
  obtain ⟨j,hj,rfl⟩:=j4.mp hy
  exact M.len j (by have:=zaZ.mp hj;omega)
 have zl:zs.length=k:=by simp [zs]
 have ez:zs.map PV.str=names nm k:=by simp [zs,names]
 obtain ⟨b,ls,dd,l',n',B,bl,_,_,hdd,D⟩:=zrk H M 6 0 l.tail zs k (by decide) (by decide) hzs (by omega) (by omega)
 refine ⟨.row [.word z,.row (zs.map Tr.word),b],l',fun _ hz=>⟨⟨b,ls,dd,⟨zs,rfl,by omega⟩,⟨1,B,by omega⟩,by omega,by omega⟩,fun d hd t z5 z6 z7 st R ys dc h1 h2 h3 hh ht hyl hR=>?_⟩⟩
 obtain ⟨s1,e1,x1⟩:=yu dc 1000000007 (by decide)
 rw [ec] at e1
 obtain ⟨us,s2,C,q1,o2⟩:=zay (fe:=(zp yN (zc (zd 6) (zc (zd 0) zh)))) (fs:=(zc (zd 4) zh)) (env:=[sR d,sR hd,sR t,some (.str z),sI k,sI c,z6,z7]) (st:=s1) k (by omega) (zB (ze rfl)) (fun i us s=>us=names nm i/\Old s1 s) (fun i us s hi ⟨g1,g2⟩=>by
  obtain ⟨s',e',o'⟩:=M.at_ i (by omega) s
  exact ⟨_,s',zt (zy (ze rfl) (ze rfl)) e',by rw [g1];simp [names,jI],g2.trans o'⟩) ⟨rfl,Old.refl _⟩
 have o3:Old s1 (s2++[SO.lst us]):=o2.trans (yc _ _)
 have dl:=zM x1.dc
 have dl2:=zM (o2 _ _ x1.dc)
 have hh1:=x1.ob _ _ h1 hh
 have ht1:=x1.ob _ _ h2 ht
 have hh2:=zM (o2 _ _ hh1)
 have ht2:=zM (o2 _ _ ht1)
 have hu3:(s2++[SO.lst us])[s2.length]?=some (.lst (names nm k)):=by rw [yi,q1]
 have tu:yL [.ref s2.length] (s2++[SO.lst us])=.ok (.tup (zs.map PV.str)) (s2++[SO.lst us]):=by rw [jo,yb hu3,ez]
 obtain ⟨v,s4,e4,tv,U⟩:=D d hd s2.length (.tup (zs.map PV.str)) (s2++[SO.lst us]) R (o3 _ _ x1.dc) (by omega) h1 (by omega) (o3 _ _ hh1) hu3 zjo (fun r hr=>zM (o3 r _ (zU (x1.lt (hR r hr)))))
 have ht3:=o3 _ _ ht1
 have ht4:=U.ob _ _ h2 (by omega) ht3
 have AP:=wO (y:=.tup [.str z,.tup (zs.map PV.str),v]) ht4 (by omega)
 have six:(zp (wa 6) (zc (zd 0) (zc (zd 1) (zc (zd 7) (zc (zd 6) (zc (zd 5) (zc (mC (.int 0)) zh))))))) [sR d,sR hd,sR t,some (.str z),sI k,sI c,sR s2.length,some (.tup (zs.map PV.str))] (s2++[SO.lst us])=.ok v s4:=zt (y9 (ze rfl) (y9 (ze rfl) (y9 (ze rfl) (y9 (ze rfl) (zy (ze rfl) rfl))))) e4
 have D4:=U.vw (R:=R) (o3 _ _ x1.dc) hu3
 have D5:=wU (R:=R) ht4 (SO.lst (ys++[.tup [.str z,.tup (zs.map PV.str),v]]))
 refine ⟨_,_,_,_,.tup [.str z,.tup (zs.map PV.str),v],zq (zG (zt (zy (ze rfl) rfl) e1)) (zq (zG C) (zq (zG (zt (zB (ze rfl)) tu)) (jU (jV (ze rfl) ht3 (zK (wN (ze rfl) (ze rfl) six) (by simp)) AP)))),yZ (zM ht4),⟨_,rfl,_,_,rfl,TR.str hz,_,_,rfl,⟨_,rfl,zfG hzs⟩,_,_,rfl,TR.mono D5 _ tv,rfl⟩,fun n ks xs e=>D5 _ _ _ (D4 _ _ _ (jX o3 _ _ _ (x1.vw dc _ _ _ e))),?_,fun m so k1 k2 e=>?_⟩
 ·show (List.set _ _ _)[d]?=_
  rw [yh h2]
  exact U.dc
 ·rw [yh (yJ k2)]
  have e3:=o3 _ _ (x1.ob m so k1 e)
  exact U.ob m so k1 (by have:=zM (o2 _ _ (x1.ob m so k1 e));omega) e3
structure Prg (fs:List Tr) (zs:List Str):Prop where
 pos:0<fs.length
 few:fs.length<=200
 len:zs.length=fs.length
 nd:zs.Nodup
 tot:szs fs<=400000
 fn:∀(i:Nat) f z,fs[i]?=some f->zs[i]?=some z->∃b ls dd,Fn f z b ls dd
def pq (T:(Str×Nat)×List Int->Tr) (N:(Str×Nat)×List Int->List Int) (hs:List (Str×Nat)) (l:List Int):Nat->List Int×List Tr
 | 0=>(l,[])
 | i+1=>(N ((hs[i]?).getD ("", 0),(pq T N hs l i).1),(pq T N hs l i).2++[T ((hs[i]?).getD ("", 0),(pq T N hs l i).1)])
def zag {T:(Str×Nat)×List Int->Tr}{N:(Str×Nat)×List Int->List Int}{hs:List (Str×Nat)}{l:List Int}:∀i,(pq T N hs l i).2.length=i
 | 0=>rfl
 | i+1=>by simp [pq,zag i]
def zrp (l:List Int):∃fs zs l',Prg fs zs/\Draws zfe [] l l' (.row fs):=by
 have hm:=yW (m:=4) (by decide) l
 generalize em:rn l 4=m at hm
 obtain ⟨hs,l2,H,hl,nd,DH⟩:=zrl (1+m) (by omega) l.tail
 obtain ⟨T,N,hT⟩:=pick2 (zro H)
 have good:∀i:Nat,i<=hs.length->∀(j:Nat) (f:Tr) (z:Str),(pq T N hs l2 i).2[j]?=some f->(hs.map (·.1))[j]?=some z->∃b ls dd,Fn f z b ls dd:=by
  intro i
  induction i with
  | zero=>intro _ j f z h;simp [pq] at h
  | succ i ih =>
   intro hi j f z hf hz
   by_cases hj:j<i
   ·refine ih (by omega) j f z ?_ hz
    simp only [pq] at hf
    rwa [zaG (by rw [zag];exact hj)] at hf
   ·have hj2:j=i:=by
     have:=(yI.mp hf).1
     rw [zag] at this
     omega
    subst hj2
    simp only [pq] at hf
    rw [zaW (by rw [zag];exact yf _),zag,Nat.sub_self] at hf
    have hi':j<hs.length:=by omega
    have eh:hs[j]?=some (hs[j]'hi'):=zU hi'
    rw [jk,eh] at hz
    rw [eh] at hf
    injection hz with hz
    injection hf with hf
    have mem:=jy hi'
    have:=(hT (hs[j]'hi',(pq T N hs l2 j).1) (H.few _ mem) (H.len _ mem)).1
    rw [<-hf,<-hz]
    exact this
 refine ⟨(pq T N hs l2 hs.length).2,hs.map (·.1),(pq T N hs l2 hs.length).1,⟨by rw [zag];exact H.pos,by rw [zag];omega,by rw [zag];simp,nd,?_,good _ (yf _)⟩,fun d st R dc hR=>?_⟩
 ·have:=zac (m:=40010) (ts:=(pq T N hs l2 hs.length).2) fun t ht=>by
   obtain ⟨j,hj,e⟩:=wX ht
   have hj':=hj
   rw [zag] at hj'
   obtain ⟨b,ls,dd,F⟩:=good _ (yf _) j t _ (by rw [zU hj,e]) (zU (by simpa using hj'))
   have:=zfF F
   have:=F.nl
   omega
  rw [zag] at this
  have:=zbO 40010 (show hs.length<=4 by omega)
  omega
 obtain ⟨s1,e1,x1⟩:=yu dc 4 (by decide)
 rw [em] at e1
 obtain ⟨hd,s2,e2,hh,x2,hdl⟩:=DH d s1 x1.dc
 have dl:=zM x1.dc
 have a1:(1:Int)+(m:Int)=((1+m:Nat):Int):=by omega
 let s3:=s2++[SO.lst []]
 have o3:Old s2 s3:=yc _ _
 have dl2:=zM x2.dc
 have hhl:=zM hh
 obtain ⟨e',s4,F,⟨x3,x4,x5,x6,x7,he⟩,dc4,hh4,⟨ys,hy,tr⟩,ob⟩:=zdX (g:=g2 3 4) (body:=bP) (n:=hd) (hdV hs) (fun i e s=>(∃x3 x4 x5 x6 x7,e=[sR d,sR hd,sR s2.length,x3,x4,x5,x6,x7])/\Dc d (pq T N hs l2 i).1 s/\s[hd]?=some (.lst (hdV hs))/\(∃ys,s[s2.length]?=some (.lst ys)/\TRs (vw R s) (pq T N hs l2 i).2 ys)/\(∀(k:Nat) so,k≠d->k≠s2.length->s3[k]?=some so->s[k]?=some so)) (fun i e s h=>h.2.2.1) (fun i x e s hx ⟨⟨x3,x4,x5,x6,x7,he⟩,dcs,hhs,⟨ys,hy,tr⟩,ob⟩=>by
  subst he
  have hi:i<hs.length:=by have:=(yI.mp hx).1;simpa using this
  have eh:hs[i]?=some (hs[i]'hi):=zU hi
  rw [jk,eh] at hx
  cases hx
  have mem:=jy hi
  have tl:=tr.len
  rw [zag] at tl
  have ltS:∀r,r<s3.length->r<s.length:=fun r hr=>by
   by_cases q1:r=d
   ·rw [q1];exact zM dcs
   ·by_cases q2:r=s2.length
    ·rw [q2];exact zM hy
    ·exact zM (ob r _ q1 q2 (zU hr))
  obtain ⟨y5,y6,y7,s',v,eb,hy',tv,dk,dc',ob'⟩:=(hT (hs[i]'hi,(pq T N hs l2 i).1) (H.few _ mem) (H.len _ mem)).2 d hd s2.length x5 x6 x7 s R ys dcs (by omega) (by omega) (by omega) hhs hy (by omega) (fun r hr=>ltS r (by
   have:=x2.lt (x1.lt (hR r hr))
   simp only [s3,jG,zbp];omega))
  refine ⟨_,_,s',rfl,eb,⟨_,_,_,_,_,rfl⟩,?_,ob' _ _ (by omega) (by omega) hhs,⟨ys++[v],hy',?_⟩,fun k so k1 k2 e=>ob' k so k1 k2 (ob k so k1 k2 e)⟩
  ·simp only [pq,eh];exact dc'
  ·simp only [pq,eh]
   exact (TRs.mono dk _ tr).append ⟨v,[],rfl,tv,rfl⟩) (hdV hs).length 0 (lim+1) [sR d,sR hd,sR s2.length,none,none,none,none,none] s3 (by omega) (by simp [lim];omega) ⟨⟨none,none,none,none,none,rfl⟩,o3 _ _ x2.dc,o3 _ _ hh,⟨[],yi _ _,rfl⟩,fun k so k1 k2 e=>e⟩
 subst he
 rw [jq] at tr dc4
 have FO:(yU (yO (zd 1)) (g2 3 4) bP) [sR d,sR hd,sR s2.length,none,none,none,none,none] s3=.ok (.nx [sR d,sR hd,sR s2.length,x3,x4,x5,x6,x7]) s4:=by
  rw [zan,j7,ze rfl]
  simp only [zP,seqOf]
  rw [yb (o3 _ _ hh)]
  exact F
 exact ⟨.tup ys,s4,ya rfl (zq (zG (zt (zy (ze rfl) (zm rfl (zt (zy (ze rfl) rfl) e1) ((zat _ _).trans (by rw [a1])))) e2)) (zq (zG (jp jD (by simp))) (zq FO (zW (zt (zB (ze rfl)) (by rw [jo,yb hy])))))),⟨ys,rfl,tr⟩,⟨fun k so k1 e=>ob k so k1 (by have:=zM (x2.ob k so k1 (x1.ob k so k1 e));omega) (o3 k so (x2.ob k so k1 (x1.ob k so k1 e))),dc4⟩⟩
def zfH {D:Nat} {st:Sto} {e:Tr} {v:PV} (h:End0 D e) (tv:TR st e v):∃w r,v=.tup (.str w::r)/\w ≠ "if" := by
 cases h with
 | give a _=>obtain ⟨_,rfl,_,r,rfl,⟨rfl,_⟩,_⟩:=tv;exact ⟨_,r,rfl,by decide +kernel⟩
 | fail z _=>obtain ⟨_,rfl,_,r,rfl,⟨rfl,_⟩,_⟩:=tv;exact ⟨_,r,rfl,by decide +kernel⟩
 | go f as _ _=>obtain ⟨_,rfl,_,r,rfl,⟨rfl,_⟩,_⟩:=tv;exact ⟨_,r,rfl,by decide +kernel⟩
def jF {x:PV}{r:List PV}{st:Sto}:zw (.tup (x::r)) (.int 0) st=.ok x st:=by
 have e:=atI_get (l:=x::r) (k:=0) (x:=x) rfl
 exact (congrArg (fun z=>optR z st) e).trans rfl
def ja {x y:PV}{r:List PV}{st:Sto}:zw (.tup (x::y::r)) (.int 1) st=.ok y st:=by
 have e:=atI_get (l:=x::y::r) (k:=1) (x:=y) rfl
 exact (congrArg (fun z=>optR z st) e).trans rfl
def jZ {x y z:PV}{r:List PV}{st:Sto}:zw (.tup (x::y::z::r)) (.int 2) st=.ok z st:=by
 have e:=atI_get (l:=x::y::z::r) (k:=2) (x:=z) rfl
 exact (congrArg (fun z=>optR z st) e).trans rfl
def ix3 {x y z w:PV}{r:List PV}{st:Sto}:zw (.tup (x::y::z::w::r)) (.int 3) st=.ok w st:=by
 have e:=atI_get (l:=x::y::z::w::r) (k:=3) (x:=w) rfl
 exact (congrArg (fun z=>optR z st) e).trans rfl
def adT {xs ys:List PV}{st:Sto}(h:xs.length+ys.length<=1000000):zZ (.tup xs) (.tup ys) st=.ok (.tup (xs++ys)) st:=by
 show (if xs.length+ys.length<=lim then _ else _)=_
 rw [zH (by simpa [lim] using h)]
def eqs (a b:Str) (c:Bool) (h:decide (a=b)=c) (st:Sto):ye (.str a) (.str b) st=.ok (.bl c) st:=by rw [zhW,h]
def zd0:∀(lev:Nat) {D:Nat}{b:Tr}{ls:List Tr}{dd:Nat}{v:PV}{st:Sto},Blk D b ls dd->dd<lev->ls.length<=100000->TR st b v->∃ws,wS lev [v] st=.ok (.tup ws) st/\TRs st ls ws:=by
 intro lev
 induction lev with
 | zero=>intro D b ls dd v st _ h;omega
 | succ lev ih =>
  intro D b ls dd v st B hd hl tv
  show ∃ws,zfi (wS lev) [v] st=_/\_
  cases B with
  | leaf ss e hS hE =>
   obtain ⟨_,rfl,_,_,rfl,⟨ys,rfl,tr⟩,ve,_,rfl,te,rfl⟩:=tv
   obtain ⟨w,r,rfl,hw⟩:=zfH hE te
   have yl:=tr.len
   simp at hl
   exact ⟨ys++[.tup (.str w::r)],ya rfl (zq (zG (zm (ze rfl) rfl ja)) (zq (zG (zm (zm (ze rfl) rfl jF) (zK (zB (ze rfl)) (by simp)) (adT (by simp;omega)))) (zq (zQ (zE (zm (zm (ze rfl) rfl jF) rfl (eqs _ _ false (by simpa using hw) _)))) (zW (ze rfl))))),tr.append ⟨_,[],rfl,te,rfl⟩⟩
  | node ss a b1 b2 l1 l2 d1 d2 hS hA B1 B2 =>
   obtain ⟨_,rfl,_,_,rfl,⟨ys,rfl,tr⟩,ve,_,rfl,te,rfl⟩:=tv
   have te':=te
   obtain ⟨_,rfl,_,_,rfl,⟨rfl,_⟩,va,_,rfl,ta,v1,_,rfl,t1,v2,_,rfl,t2,rfl⟩:=te
   have yl:=tr.len
   simp at hl
   obtain ⟨w1,e1,r1⟩:=ih B1 (by omega) (by omega) t1
   obtain ⟨w2,e2,r2⟩:=ih B2 (by omega) (by omega) t2
   have wl1:=r1.len
   have wl2:=r2.len
   exact ⟨ys++[.tup [.str "if", va,v1,v2]]++w1++w2,ya rfl (zq (zG (zm (ze rfl) rfl ja)) (zq (zG (zm (zm (ze rfl) rfl jF) (zK (zB (ze rfl)) (by simp)) (adT (by simp;omega)))) (yK (yx (zE (zm (zm (ze rfl) rfl jF) rfl (eqs _ _ true (by simp) _))) (zW (zm (zm (ze rfl) (zt (zB (zm (ze rfl) rfl jZ)) e1) (adT (by simp;omega))) (zt (zB (zm (ze rfl) rfl ix3)) e2) (adT (by simp;omega)))))))),((tr.append (us:=[.row [.word "if", a,b1,b2]]) ⟨_,[],rfl,te',rfl⟩).append r1).append r2⟩
def zrq:∀(lev:Nat) {D:Nat}{b:Tr}{ls:List Tr}{dd:Nat}{v:PV}{st:Sto},Blk D b ls dd->dd<lev->TR st b v->zcU lev [v] st=.ok (.int (dd:Int)) st:=by
 intro lev
 induction lev with
 | zero=>intro D b ls dd v st _ h;omega
 | succ lev ih =>
  intro D b ls dd v st B hd tv
  show zfk (zcU lev) [v] st=_
  cases B with
  | leaf ss e hS hE =>
   obtain ⟨_,rfl,_,_,rfl,⟨ys,rfl,tr⟩,ve,_,rfl,te,rfl⟩:=tv
   obtain ⟨w,r,rfl,hw⟩:=zfH hE te
   exact ya rfl (zq (zG (zm (ze rfl) rfl ja)) (zq (zQ (zE (zm (zm (ze rfl) rfl jF) rfl (eqs _ _ false (by simpa using hw) _)))) (zW rfl)))
  | node ss a b1 b2 l1 l2 d1 d2 hS hA B1 B2 =>
   obtain ⟨_,rfl,_,_,rfl,⟨ys,rfl,tr⟩,ve,_,rfl,te,rfl⟩:=tv
   obtain ⟨_,rfl,_,_,rfl,⟨rfl,_⟩,va,_,rfl,ta,v1,_,rfl,t1,v2,_,rfl,t2,rfl⟩:=te
   have e1:=ih B1 (by omega) t1
   have e2:=ih B2 (by omega) t2
   have mx:zaR [.int (d1:Int),.int (d2:Int)] st=.ok (.int ((max d1 d2:Nat):Int)) st:=by
    show Res.ok (PV.int (if (d2:Int)>(d1:Int) then (d2:Int) else (d1:Int))) st=_
    split
    ·congr 2;omega
    ·congr 2;omega
   exact ya rfl (zq (zG (zm (ze rfl) rfl ja)) (yK (yx (zE (zm (zm (ze rfl) rfl jF) rfl (eqs _ _ true (by simp) _))) (zW (zm rfl (zt (zy (zt (zB (zm (ze rfl) rfl jZ)) e1) (zt (zB (zm (ze rfl) rfl ix3)) e2)) mx) (jP 1 _))))))
def zrr {c:Nat}{nm:Nat->Str}(M:Nm c nm) (m:Nat) (hm:m<=900):((List.range m).map nm).Nodup:=by
 refine List.pairwise_iff_getElem.mpr fun i j hi hj hij e=>?_
 simp only [jq,zaY] at hi hj
 simp only [List.getElem_map,List.getElem_range] at e
 have:=M.one i j (by omega) (by omega) e
 omega
def zjw {α:Type}{f:Nat->α}{m i:Nat}{x:α}(h:((List.range m).map f)[i]?=some x):i<m/\x=f i:=by
 obtain ⟨h1,h2⟩:=yI.mp h
 simp only [jq,zaY] at h1
 simp only [List.getElem_map,List.getElem_range] at h2
 exact ⟨h1,h2.symm⟩
abbrev bL:zk->Mo Fl:=(yH (yC yM (zd 4) (zA (zc (zp yN (zc (zd 1) (zc (zd 5) zh))) (zc (zA zh) (zc (zA (zc (zA zh) (zc (zA (zc (mC (.str "go")) (zc (zp yN (zc (zd 1) (zc (zj yt (zj zZ (zj yD (zd 5) (zd 2)) (mC (.int 1))) (zd 3)) zh))) (zc (zA zh) zh)))) zh))) zh))))))
def zrs (l:List Int):∃fs zs l',Prg fs zs/\Draws ze1 [] l l' (.row fs):=by
 have hc:=yW (m:=1000000007) (by decide) l
 have hs:=yW (m:=100) (by decide) l.tail
 generalize ec:rn l 1000000007=c at hc
 generalize es:rn l.tail 100=s at hs
 obtain ⟨nm,M⟩:=zaU c (by omega)
 let S3:List Nat:=[200,200,137]
 have h3:(1+2*s)%3<S3.length:=js _ (by decide)
 generalize em:S3[(1+2*s)%3]'h3=m
 have hm:0<m/\m<=200:=by
  have:∀x∈S3,0<x/\x<=200:=by decide
  rw [<-em];exact this _ (jy h3)
 let F:Nat->Tr:=fun k=>.row [.word (nm k),.row [],.row [.row [],.row [.word "go", .word (nm ((k*(1+2*s)+1)%m)),.row []]]]
 refine ⟨(List.range m).map F,(List.range m).map nm,l.tail.tail,⟨by simp;omega,by simp;omega,by simp,zrr M m (by omega),?_,fun i f z hf hz=>?_⟩,fun d st R dc hR=>?_⟩
 ·have:=zac (m:=20) (ts:=(List.range m).map F) fun t ht=>by
   obtain ⟨k,_,rfl⟩:=j4.mp ht
   simp [F,sz,szs]
  simp only [jq,zaY] at this
  have:=zbO 20 hm.2
  omega
 ·obtain ⟨hi,rfl⟩:=zjw hf
  obtain ⟨_,rfl⟩:=zjw hz
  exact ⟨_,_,_,⟨[],rfl,by simp⟩,⟨1,.leaf [] _ (fun _ h=>nomatch h) (.go _ [] (fun _ h=>nomatch h) (by simp)),by omega⟩,by omega,by simp⟩
 obtain ⟨s1,e1,x1⟩:=yu dc 1000000007 (by decide)
 rw [ec] at e1
 obtain ⟨s2,e2,x2⟩:=yu x1.dc 100 (by decide)
 rw [es] at e2
 let LL:List PV:=S3.map fun (k:Nat)=>PV.int (k:Int)
 let s3:=s2++[SO.lst LL]
 let s4:=s3++[SO.lst []]
 have ix:zw (.ref s2.length) (.int (((1+2*s)%3:Nat):Int)) s3=.ok (.int (m:Int)) s3:=by
  rw [wo,yb (yi _ _),atI_get (x:=PV.int (m:Int)) (by rw [jk,zU h3,em];rfl)]
  rfl
 have o4:Old s2 s4:=(yc _ _).trans (yc _ _)
 have x4:Nx d l.tail.tail s2 s4:=Nx.of x2.dc o4
 have dl:=zM x2.dc
 have l3:s3.length=s2.length+1:=by simp [s3]
 obtain ⟨e',s5,FF,⟨z5,he⟩,ob,ys,hy,tr⟩:=zad (gt:=gN 5) (body:=bL) (fs:=(zc (zd 3) zh)) (e:=[sR d,sI c,some (.int ((1+2*s:Nat):Int)),sI m,sR s3.length,none]) (st:=s4) (fun i e s'=>(∃z5,e=[sR d,sI c,some (.int ((1+2*s:Nat):Int)),sI m,sR s3.length,z5])/\(∀(k:Nat) so,k≠s3.length->s4[k]?=some so->s'[k]?=some so)/\∃ys,s'[s3.length]?=some (.lst ys)/\TRs (vw R s') ((List.range i).map F) ys) m (by omega) (zB (ze rfl)) (fun i e s' hi ⟨⟨z5,he⟩,ob,ys,hy,tr⟩=>by
  subst he
  have yl:=tr.len
  simp at yl
  obtain ⟨t1,f1,o1⟩:=M.at_ i (by omega) s'
  have hk2:(i*(1+2*s)+1)%m<m:=js _ hm.1
  obtain ⟨t2,f2,o2⟩:=M.at_ ((i*(1+2*s)+1)%m) (by omega) t1
  have hy2:=(o1.trans o2) _ _ hy
  have AP:=wO (y:=.tup [.str (nm i),.tup [],.tup [.tup [],.tup [.str "go", .str (nm ((i*(1+2*s)+1)%m)),.tup []]]]) hy2 (by omega)
  refine ⟨[sR d,sI c,some (.int ((1+2*s:Nat):Int)),sI m,sR s3.length,sI i],_,_,rfl,jU (jV (ze rfl) hy (zK (wN (zt (zy (ze rfl) (ze rfl)) f1) (zK jD (by simp)) (zK (zy (zK jD (by simp)) (zK (wN rfl (zt (zy (ze rfl) (zm (zm (zm (ze rfl) (ze rfl) (zaf i (1+2*s) (.inl (by omega)))) rfl (jP _ 1)) (ze rfl) (jE _ m hm.1))) f2) (zK jD (by simp))) (by simp))) (by simp))) (by simp)) AP),⟨_,rfl⟩,fun k so kn e=>?_,_,yZ (zM hy2),?_⟩
  ·rw [yh (yJ kn)]
   exact (o1.trans o2) k so (ob k so kn e)
  ·rw [jI,jz]
   refine TRs.mono (wU hy2 _) _ ((TRs.mono (jX (o1.trans o2)) _ tr).append ?_)
   exact ⟨_,[],rfl,⟨_,rfl,_,_,rfl,TR.str (M.len i (by omega)),_,_,rfl,⟨[],rfl,rfl⟩,_,_,rfl,⟨_,rfl,_,_,rfl,⟨[],rfl,rfl⟩,_,_,rfl,⟨_,rfl,_,_,rfl,TR.str (by decide +kernel),_,_,rfl,TR.str (M.len _ (by omega)),_,_,rfl,⟨[],rfl,rfl⟩,rfl⟩,rfl⟩,rfl⟩,rfl⟩) ⟨⟨none,rfl⟩,(fun _ _ _ e=>e),[],yi _ _,rfl⟩
 subst he
 refine ⟨.tup ys,s5,ya rfl (zq (zG (zt (zy (ze rfl) rfl) e1)) (zq (zG (zm rfl (zm rfl (zt (zy (ze rfl) rfl) e2) (zaf 2 s (.inl (by decide)))) (jP 1 _))) (zq (zG (zm (jp (xs:=LL) rfl (by simp [LL,S3])) (zm (ze rfl) rfl (jE _ 3 (by decide))) ix)) (zq (zG (jp jD (by simp))) (zq FF (zW (zt (zB (ze rfl)) (by rw [jo,yb hy])))))))),⟨ys,rfl,tr⟩,?_⟩
 have e12:=x1.trans x2
 refine ⟨fun k so k1 e=>ob k so (by have:=zM (e12.ob k so k1 e);omega) (o4 k so (e12.ob k so k1 e)),ob d _ (by omega) (o4 _ _ x2.dc)⟩
abbrev bR:zk->Mo Fl:=(zu (zC 6 (zA (zc (mC (.str "of")) (zc (zp yN (zc (zd 1) (zc (zj yt (zj yD (zd 2) (zd 5)) (zj zZ (zd 5) (mC (.int 1)))) zh))) zh))))
  (yH (yC yM (zd 4) (zA (zc (mC (.str "let")) (zc (zp yN (zc (zd 1) (zc (zj zZ (zd 5) (mC (.int 1))) zh))) (zc (mC (.str "add")) (zc (zA (zc (zd 6) (zc (zA (zc (mC (.str "is")) (zc (zj jd (zj yt (zj yD (zd 2) (zd 5)) (mC (.int 2001))) (mC (.int 1000))) zh))) zh))) zh))))))))
def TR.two {a:Sto}{t u:Tr}{x y:PV}(h:TR a t x) (h':TR a u y):TR a (.row [t,u]) (.tup [x,y]):=⟨_,rfl,_,_,rfl,h,_,_,rfl,h',rfl⟩
def TR.three {a:Sto}{t u w:Tr}{x y z:PV}(h:TR a t x) (h':TR a u y) (h2:TR a w z):TR a (.row [t,u,w]) (.tup [x,y,z]):=⟨_,rfl,_,_,rfl,h,_,_,rfl,h',_,_,rfl,h2,rfl⟩
def TR.one1 {a:Sto}{t:Tr}{x:PV}(h:TR a t x):TR a (.row [t]) (.tup [x]):=⟨_,rfl,_,_,rfl,h,rfl⟩
def zd1 {f:Tr}{z:Str}(h:∃b ls dd,Fn f z b ls dd):Prg [f] [z]:=⟨by simp,by simp,rfl,by simp,by obtain ⟨b,ls,dd,F⟩:=h;have:=zfF F;have:=F.nl;simp only [szs];omega,fun i f' z' hf hz=>by
 match i,hf,hz with
 | 0,hf,hz=>cases hf;cases hz;exact h
 | i+1,hf,_=>simp at hf⟩
def zrt (l:List Int):∃fs zs l',Prg fs zs/\Draws zeZ [] l l' (.row fs):=by
 have hc:=yW (m:=1000000007) (by decide) l
 have hs:=yW (m:=1000003) (by decide) l.tail
 generalize ec:rn l 1000000007=c at hc
 generalize es:rn l.tail 1000003=s at hs
 obtain ⟨nm,M⟩:=zaU c (by omega)
 obtain ⟨nS,MS⟩:=zaU s (by omega)
 let S3:List Nat:=[59,58,20]
 have h3:s%3<S3.length:=js _ (by decide)
 generalize em:S3[s%3]'h3=m
 have hm:0<m/\m<=59:=by
  have:∀x∈S3,0<x/\x<=59:=by decide
  rw [<-em];exact this _ (jy h3)
 let G:Nat->Tr:=fun k=>.row [.word "let", .word (nm (k+1)),.word "add", .row [.row [.word "of", .word (nm (s*k%(k+1)))],.row [.word "is", .num (((s*k%2001:Nat):Int)-1000)]]]
 have gn:∀k,gd (.num (((s*k%2001:Nat):Int)-1000)):=fun k=>⟨by omega,by have:=js (s*k) (show 0<2001 by decide);omega⟩
 refine ⟨[.row [.word (nS 0),.row [.word (nm 0)],.row [.row ((List.range m).map G),.row [.word "give", .row [.word "of", .word (nm m)]]]]],[nS 0],l.tail.tail,zd1 ⟨_,_,_,⟨[nm 0],rfl,by simp⟩,⟨1,.leaf _ _ (fun t ht=>?_) (.give _ (.of _)),by omega⟩,by omega,by simp;omega⟩,fun d st R dc hR=>?_⟩
 ·obtain ⟨k,_,rfl⟩:=j4.mp ht
  refine .let_ _ _ _ (fun a ha=>?_) (by simp)
  rcases yQ.mp ha with q|q
  ·rw [q];exact .of _
  ·rw [jw.mp q];exact .is _ (gn k) (by simp [dp]) (by simp [sz])
 obtain ⟨s1,e1,x1⟩:=yu dc 1000000007 (by decide)
 rw [ec] at e1
 obtain ⟨s2,e2,x2⟩:=yu x1.dc 1000003 (by decide)
 rw [es] at e2
 let LL:List PV:=S3.map fun (k:Nat)=>PV.int (k:Int)
 let s3:=s2++[SO.lst LL]
 let s4:=s3++[SO.lst []]
 have ix:zw (.ref s2.length) (.int ((s%3:Nat):Int)) s3=.ok (.int (m:Int)) s3:=by
  rw [wo,yb (yi _ _),atI_get (x:=PV.int (m:Int)) (by rw [jk,zU h3,em];rfl)]
  rfl
 have o4:Old s2 s4:=(yc _ _).trans (yc _ _)
 have dl:=zM x2.dc
 have l3:s3.length=s2.length+1:=by simp [s3]
 obtain ⟨e',s5,FF,⟨z5,z6,he⟩,ob,ys,hy,tr⟩:=zad (gt:=gN 5) (body:=bR) (fs:=(zc (zd 3) zh)) (e:=[sR d,sI c,sI s,sI m,sR s3.length,none,none,none]) (st:=s4) (fun i e s'=>(∃z5 z6,e=[sR d,sI c,sI s,sI m,sR s3.length,z5,z6,none])/\(∀(k:Nat) so,k≠s3.length->s4[k]?=some so->s'[k]?=some so)/\∃ys,s'[s3.length]?=some (.lst ys)/\TRs (vw R s') ((List.range i).map G) ys) m (by omega) (zB (ze rfl)) (fun i e s' hi ⟨⟨z5,z6,he⟩,ob,ys,hy,tr⟩=>by
  subst he
  have yl:=tr.len
  simp at yl
  have hk2:s*i%(i+1)<i+1:=js _ (by omega)
  obtain ⟨t1,f1,o1⟩:=M.at_ (s*i%(i+1)) (by omega) s'
  obtain ⟨t2,f2,o2⟩:=M.at_ (i+1) (by omega) t1
  have hy2:=(o1.trans o2) _ _ hy
  have AP:=wO (y:=.tup [.str "let", .str (nm (i+1)),.str "add", .tup [.tup [.str "of", .str (nm (s*i%(i+1)))],.tup [.str "is", .int (((s*i%2001:Nat):Int)-1000)]]]) hy2 (by omega)
  refine ⟨[sR d,sI c,sI s,sI m,sR s3.length,sI i,z6,none],_,_,rfl,zq (zG (zK (zy rfl (zt (zy (ze rfl) (zm (zm (ze rfl) (ze rfl) (zaf s i (.inl (by omega)))) (zm (ze rfl) rfl (jP i 1)) (jE _ (i+1) (by omega)))) f1)) (by simp))) (jU (jV (ze rfl) (o1 _ _ hy) (zK (wB rfl (zt (zy (ze rfl) (zm (ze rfl) rfl (jP i 1))) f2) rfl (zK (zy (ze rfl) (zK (zy rfl (zm (zm (zm (ze rfl) (ze rfl) (zaf s i (.inl (by omega)))) rfl (jE _ 2001 (by decide))) rfl (wz _ _))) (by simp))) (by simp))) (by simp)) AP)),⟨_,_,rfl⟩,fun k so kn e=>?_,_,yZ (zM hy2),?_⟩
  ·rw [yh (yJ kn)]
   exact (o1.trans o2) k so (ob k so kn e)
  ·rw [jI,jz]
   refine TRs.mono (wU hy2 _) _ ((TRs.mono (jX (o1.trans o2)) _ tr).append ?_)
   exact ⟨_,[],rfl,TR.row4 (by decide +kernel) (M.len _ (by omega)) (by decide +kernel) (TR.two (TR.two (TR.str (by decide +kernel)) (TR.str (M.len _ (by omega)))) (TR.two (TR.str (by decide +kernel)) rfl)),rfl⟩) ⟨⟨none,none,rfl⟩,(fun _ _ _ e=>e),[],yi _ _,rfl⟩
 subst he
 obtain ⟨t1,f1,o1⟩:=MS.at_ 0 (by decide) s5
 obtain ⟨t2,f2,o2⟩:=M.at_ 0 (by decide) t1
 obtain ⟨t3,f3,o3⟩:=M.at_ m (by omega) t2
 have hy2:=(o1.trans o2) _ _ hy
 have tu:yL [.ref s3.length] t2=.ok (.tup ys) t2:=by rw [jo,yb hy2]
 have oo:=o1.trans (o2.trans o3)
 refine ⟨.tup [.tup [.str (nS 0),.tup [.str (nm 0)],.tup [.tup ys,.tup [.str "give", .tup [.str "of", .str (nm m)]]]]],t3,ya rfl (zq (zG (zt (zy (ze rfl) rfl) e1)) (zq (zG (zt (zy (ze rfl) rfl) e2)) (zq (zG (zm (jp (xs:=LL) rfl (by simp [LL,S3])) (zm (ze rfl) rfl (jE _ 3 (by decide))) ix)) (zq (zG (jp jD (by simp))) (zq FF (zq (zG (zK (wN (zt (zy (ze rfl) rfl) f1) (zK (zB (zt (zy (ze rfl) rfl) f2)) (by simp)) (zK (zy (zt (zB (ze rfl)) tu) (zK (zy rfl (zK (zy rfl (zt (zy (ze rfl) (ze rfl)) f3)) (by simp))) (by simp))) (by simp))) (by simp))) (zW (zK (zB (ze rfl)) (by simp))))))))),?_,?_⟩
 ·exact TR.one1 (TR.three (TR.str (MS.len 0 (by decide))) (TR.one1 (TR.str (M.len 0 (by decide)))) (TR.two ⟨ys,rfl,TRs.mono (jX oo) _ tr⟩ (TR.two (TR.str (by decide +kernel)) (TR.two (TR.str (by decide +kernel)) (TR.str (M.len m (by omega)))))))
 ·have e12:=x1.trans x2
  exact ⟨fun k so k1 e=>oo k so (ob k so (by have:=zM (e12.ob k so k1 e);omega) (o4 k so (e12.ob k so k1 e))),oo _ _ (ob d _ (by omega) (o4 _ _ x2.dc))⟩
def bitT (b k:Nat):Bool:=decide (Builtin.bitAnd ((b:Int)/2 ^ ((k:Int)).toNat) 1=1)
def zjx {e:zk}{st:Sto}{b k:Nat}(h2:e[2]?=some (sI b)) (h4:e[4]?=some (sI k)):(mB (zj ye (zj zbY (zj zbZ (zd 2) (zd 4)) (mC (.int 1))) (mC (.int 1)))) e st=.ok (bitT b k) st:=by
 have s1:zbZ (.int (b:Int)) (.int (k:Int)) st=.ok (.int ((b:Int)/2 ^ ((k:Int)).toNat)) st:=by
  have hc:cNn (b:Int) (k:Int)=true:=by simp [cNn]
  show (if cNn (b:Int) (k:Int)=true then Res.ok (PV.int ((b:Int)/2 ^ ((k:Int)).toNat)) st else Res.stuck)=_
  rw [zH hc]
 have s2:zbY (.int ((b:Int)/2 ^ ((k:Int)).toNat)) (.int 1) st=.ok (.int (Builtin.bitAnd ((b:Int)/2 ^ ((k:Int)).toNat) 1)) st:=by
  show (if c0 ((b:Int)/2 ^ ((k:Int)).toNat) 1=true then Res.ok (PV.int (Builtin.bitAnd ((b:Int)/2 ^ ((k:Int)).toNat) 1)) st else Res.stuck)=_
  rw [zH rfl]
 exact zE (zm (zm (zm (ze h2) (ze h4) s1) rfl s2) rfl (zdF _ _))
def dS (Z:List Int->Str) (M:List Int->List Int) (nm:Nat->Str) (b:Nat) (k:Nat) (q:List Int×Tr):List Int×Tr :=
 (M q.1,.row [.row [.row [.word "let", .word (nm (8-k)),.word "down", .row [.row [.word "of", .word (nm (7-k))]]]],
  if bitT b k=true then .row [.word "if", .row [.word "of", .word (nm (8-k))],.row [.row [],.row [.word "give", .row [.word "is", .num (k:Int)]]],q.2]
  else .row [.word "if", .row [.word "of", .word (nm (8-k))],q.2,.row [.row [],.row [.word "fail", .word (Z q.1)]]]])
def dq (Z:List Int->Str) (M:List Int->List Int) (nm:Nat->Str) (b:Nat) (l:List Int):Nat->List Int×Tr
 | 0=>(l,.row [.row [],.row [.word "give", .row [.word "of", .word (nm 8)]]])
 | k+1=>dS Z M nm b k (dq Z M nm b l k)
def zjy {Z:List Int->Str}{M:List Int->List Int}{nm:Nat->Str}{b:Nat}{l:List Int}(hZ:∀l,isW (Z l)=true):∀k,k<=8->∃ls dd,Blk 1 (dq Z M nm b l k).2 ls dd/\dd<=k/\ls.length<=1+3*k
 | 0,_=>⟨_,_,.leaf [] _ (fun _ h=>nomatch h) (.give _ (.of _)),yf _,by simp⟩
 | k+1,hk=>by
  obtain ⟨ls,dd,B,hd,hl⟩:=zjy hZ k (by omega)
  have st:∀s∈[Tr.row [.word "let", .word (nm (8-k)),.word "down", .row [.row [.word "of", .word (nm (7-k))]]]],Stp 1 s:=fun s hs=>by
   rw [jw.mp hs]
   exact .let_ _ _ _ (fun a ha=>by rw [jw.mp ha];exact .of _) (by simp)
  show ∃ls dd,Blk 1 (Tr.row [.row [_],if bitT b k=true then _ else _]) ls dd/\_
  by_cases c:bitT b k=true
  ·rw [zH c]
   exact ⟨_,_,.node _ _ _ _ _ _ _ _ st (.of _) (.leaf [] _ (fun _ h=>nomatch h) (.give _ (.is _ ⟨by omega,by omega⟩ (by simp [dp]) (by simp [sz])))) B,by omega,by simp;omega⟩
  ·rw [zX c]
   exact ⟨_,_,.node _ _ _ _ _ _ _ _ st (.of _) B (.leaf [] _ (fun _ h=>nomatch h) (.fail _ (hZ _))),by omega,by simp;omega⟩
abbrev bD:zk->Mo Fl:=(zu (zC 5 (zp yN (zc (zd 1) (zc (zj jd (mC (.int 8)) (zd 4)) zh))))
  (zu (zC 6 (zA (zc (mC (.str "let")) (zc (zd 5) (zc (mC (.str "down")) (zc (zA (zc (zA (zc (mC (.str "of")) (zc (zp yN (zc (zd 1) (zc (zj jd (mC (.int 7)) (zd 4)) zh))) zh))) zh)) zh))))))
  (zu (zC 7 (zA (zc (mC (.str "if")) (zc (zA (zc (mC (.str "of")) (zc (zd 5) zh))) (zc (zd 3) (zc (zA (zc (zA zh) (zc (zA (zc (mC (.str "fail")) (zc (zp zaT (zc (zd 0) zh)) zh))) zh))) zh))))))
  (zu (yd (mB (zj ye (zj zbY (zj zbZ (zd 2) (zd 4)) (mC (.int 1))) (mC (.int 1))))
  (zC 7 (zA (zc (mC (.str "if")) (zc (zA (zc (mC (.str "of")) (zc (zd 5) zh))) (zc (zA (zc (zA zh) (zc (zA (zc (mC (.str "give")) (zc (zA (zc (mC (.str "is")) (zc (zd 4) zh))) zh))) zh))) (zc (zd 3) zh))))))
  yg)
  (zC 3 (zA (zc (zA (zc (zd 6) zh)) (zc (zd 7) zh))))))))
def TR.four {a:Sto}{t u w p:Tr}{x y z q:PV}(h:TR a t x) (h':TR a u y) (h2:TR a w z) (h3:TR a p q):TR a (.row [t,u,w,p]) (.tup [x,y,z,q]):=⟨_,rfl,_,_,rfl,h,_,_,rfl,h',_,_,rfl,h2,_,_,rfl,h3,rfl⟩
def TR.zero {a:Sto}:TR a (.row []) (.tup []):=⟨[],rfl,rfl⟩
def zru (l:List Int):∃fs zs l',Prg fs zs/\Draws ze0 [] l l' (.row fs):=by
 have hc:=yW (m:=1000000007) (by decide) l
 have hb:=yW (m:=256) (by decide) l.tail
 generalize ec:rn l 1000000007=c at hc
 generalize eb:rn l.tail 256=b at hb
 obtain ⟨nm,M⟩:=zaU c (by omega)
 obtain ⟨nS,MS⟩:=zaU b (by omega)
 obtain ⟨Z,W,hZW⟩:=pick2 zcZ
 obtain ⟨ls,dd,B,hdd,hll⟩:=zjy (M:=W) (nm:=nm) (b:=b) (l:=l.tail.tail) (fun l=>(hZW l).1) 8 (yf _)
 refine ⟨[.row [.word (nS 0),.row [.word (nm 0)],(dq Z W nm b l.tail.tail 8).2]],[nS 0],(dq Z W nm b l.tail.tail 8).1,zd1 ⟨_,_,_,⟨[nm 0],rfl,by simp⟩,⟨1,B,by omega⟩,hdd,by omega⟩,fun d st R dc hR=>?_⟩
 obtain ⟨s1,e1,x1⟩:=yu dc 1000000007 (by decide)
 rw [ec] at e1
 obtain ⟨s2,e2,x2⟩:=yu x1.dc 256 (by decide)
 rw [eb] at e2
 obtain ⟨s3,e3,o3⟩:=M.at_ 8 (by decide) s2
 have x3:Nx d l.tail.tail s2 s3:=Nx.of x2.dc o3
 obtain ⟨e',s4,FF,⟨v,z4,z5,z6,z7,he,tv⟩,x4⟩:=zad (gt:=gN 4) (body:=bD) (fs:=(zc (mC (.int 8)) zh)) (e:=[sR d,sI c,sI b,some (.tup [.tup [],.tup [.str "give", .tup [.str "of", .str (nm 8)]]]),none,none,none,none]) (st:=s3) (fun i e s=>(∃v z4 z5 z6 z7,e=[sR d,sI c,sI b,some v,z4,z5,z6,z7]/\TR (vw R s) (dq Z W nm b l.tail.tail i).2 v)/\Nx d (dq Z W nm b l.tail.tail i).1 s3 s) 8 (by decide) rfl (fun i e s hi ⟨⟨v,z4,z5,z6,z7,he,tv⟩,x⟩=>by
  subst he
  have a8:(8:Int)-(i:Int)=((8-i:Nat):Int):=by omega
  have a7:(7:Int)-(i:Int)=((7-i:Nat):Int):=by omega
  obtain ⟨t1,f1,o1⟩:=M.at_ (8-i) (by omega) s
  obtain ⟨t2,f2,o2⟩:=M.at_ (7-i) (by omega) t1
  have y1:=x.trans (Nx.of x.dc (o1.trans o2))
  obtain ⟨t3,f3,y3⟩:=(hZW (dq Z W nm b l.tail.tail i).1).2 d t2 y1.dc
  have D3:Dk (vw R s) (vw R t3):=fun n ks xs e=>y3.vw y1.dc _ _ _ (jX (o1.trans o2) _ _ _ e)
  have tv3:=TR.mono D3 _ tv
  have hw:=zcd (hZW (dq Z W nm b l.tail.tail i).1).1
  have n8:=M.len (8-i) (by omega)
  have n7:=M.len (7-i) (by omega)
  have pre:∀{X:Res Fl},(zu (yd (mB (zj ye (zj zbY (zj zbZ (zd 2) (zd 4)) (mC (.int 1))) (mC (.int 1))))
    (zC 7 (zA (zc (mC (.str "if")) (zc (zA (zc (mC (.str "of")) (zc (zd 5) zh))) (zc (zA (zc (zA zh) (zc (zA (zc (mC (.str "give")) (zc (zA (zc (mC (.str "is")) (zc (zd 4) zh))) zh))) zh))) (zc (zd 3) zh))))))
    yg) (zC 3 (zA (zc (zA (zc (zd 6) zh)) (zc (zd 7) zh))))) [sR d,sI c,sI b,some v,sI i,some (.str (nm (8-i))),some (.tup [.str "let", .str (nm (8-i)),.str "down", .tup [.tup [.str "of", .str (nm (7-i))]]]),some (.tup [.str "if", .tup [.str "of", .str (nm (8-i))],v,.tup [.tup [],.tup [.str "fail", .str (Z (dq Z W nm b l.tail.tail i).1)]]])] t3=X->bD [sR d,sI c,sI b,some v,sI i,z5,z6,z7] s=X:=fun h=>zq (zG (zt (zy (ze rfl) (zm rfl (ze rfl) ((wz _ _).trans (by rw [a8])))) f1)) (zq (zG (zK (wB rfl (ze rfl) rfl (zK (zB (zK (zy rfl (zt (zy (ze rfl) (zm rfl (ze rfl) ((wz _ _).trans (by rw [a7])))) f2)) (by simp))) (by simp))) (by simp))) (zq (zG (zK (wB rfl (zK (zy rfl (ze rfl)) (by simp)) (ze rfl) (zK (zy (zK jD (by simp)) (zK (zy rfl (zt (zB (ze rfl)) f3)) (by simp))) (by simp))) (by simp))) h))
  have dqs:dq Z W nm b l.tail.tail (i+1)=dS Z W nm b i (dq Z W nm b l.tail.tail i):=rfl
  rw [dqs]
  by_cases cb:bitT b i=true
  ·refine ⟨[sR d,sI c,sI b,some v,sI i,z5,z6,z7],_,t3,rfl,pre (zq (yx ((zjx rfl rfl).trans (by rw [cb])) (zG (zK (wB rfl (zK (zy rfl (ze rfl)) (by simp)) (zK (zy (zK jD (by simp)) (zK (zy rfl (zK (zy rfl (ze rfl)) (by simp))) (by simp))) (by simp)) (ze rfl)) (by simp)))) (zG (zK (zy (zK (zB (ze rfl)) (by simp)) (ze rfl)) (by simp)))),⟨_,_,_,_,_,rfl,?_⟩,y1.trans y3⟩
   unfold dS
   simp only [cb,yw]
   exact TR.two (TR.one1 (TR.row4 (by decide +kernel) n8 (by decide +kernel) (TR.one1 (TR.two (TR.str (by decide +kernel)) (TR.str n7))))) (TR.four (TR.str (by decide +kernel)) (TR.two (TR.str (by decide +kernel)) (TR.str n8)) (TR.two TR.zero (TR.two (TR.str (by decide +kernel)) (TR.two (TR.str (by decide +kernel)) rfl))) tv3)
  ·have cb':bitT b i=false:=by simpa using cb
   refine ⟨[sR d,sI c,sI b,some v,sI i,z5,z6,z7],_,t3,rfl,pre (zq (zQ ((zjx rfl rfl).trans (by rw [cb']))) (zG (zK (zy (zK (zB (ze rfl)) (by simp)) (ze rfl)) (by simp)))),⟨_,_,_,_,_,rfl,?_⟩,y1.trans y3⟩
   unfold dS
   simp only [cb',Bool.false_eq_true,ym]
   exact TR.two (TR.one1 (TR.row4 (by decide +kernel) n8 (by decide +kernel) (TR.one1 (TR.two (TR.str (by decide +kernel)) (TR.str n7))))) (TR.four (TR.str (by decide +kernel)) (TR.two (TR.str (by decide +kernel)) (TR.str n8)) tv3 (TR.two TR.zero (TR.two (TR.str (by decide +kernel)) (TR.str (by omega)))))) ⟨⟨_,none,none,none,none,rfl,TR.two TR.zero (TR.two (TR.str (by decide +kernel)) (TR.two (TR.str (by decide +kernel)) (TR.str (M.len 8 (by decide)))))⟩,Nx.refl x3.dc⟩
 subst he
 obtain ⟨t1,f1,o1⟩:=MS.at_ 0 (by decide) s4
 obtain ⟨t2,f2,o2⟩:=M.at_ 0 (by decide) t1
 have oo:=o1.trans o2
 exact ⟨_,t2,ya rfl (zq (zG (zt (zy (ze rfl) rfl) e1)) (zq (zG (zt (zy (ze rfl) rfl) e2)) (zq (zG (zK (zy (zK jD (by simp)) (zK (zy rfl (zK (zy rfl (zt (zy (ze rfl) rfl) e3)) (by simp))) (by simp))) (by simp))) (zq FF (zW (zK (zB (zK (wN (zt (zy (ze rfl) rfl) f1) (zK (zB (zt (zy (ze rfl) rfl) f2)) (by simp)) (ze rfl)) (by simp))) (by simp))))))),TR.one1 (TR.three (TR.str (MS.len 0 (by decide))) (TR.one1 (TR.str (M.len 0 (by decide)))) (TR.mono (jX oo) _ tv)),(x1.trans x2).trans (x3.trans (x4.trans (Nx.of x4.dc oo)))⟩
def eqTs (a b:Str) (c:Bool) (h:(a==b)=c) (st:Sto):wQ (.str a) (.str b) st=.ok (.bl c) st:=by
 unfold wQ
 rw [show eqT st 150 (.str a) (.str b)=some c by show some (a==b)=_;rw [h]]
abbrev bF:zk->Mo Fl:=(yd (mB (zj wQ (zj zw (zd 2) (mC (.int 0))) (zd 1)))
  (zS (zd 2))
  yg)
def zjz {st:Sto}{p:Option PV}:∀(fs:List Tr) (zs:List Str) (ws:List PV) (i:Nat) (z:Str) (w:PV) (x:Option PV),TRs st fs ws->(∀(j:Nat) f y,fs[j]?=some f->zs[j]?=some y->∃b ls dd,Fn f y b ls dd)->zs.Nodup->zs.length=fs.length->zs[i]?=some z->ws[i]?=some w->forL (gN 2) bF ws [p,some (.str z),x] st=.ok (.rt w) st
 | [],zs,ws,i,z,w,x,tr,_,_,_,_,hw=>by cases tr;simp at hw
 | f::fs,[],ws,i,z,w,x,_,_,_,hl,_,_=>by simp at hl
 | f::fs,y::zs,ws,i,z,w,x,tr,hf,nd,hl,hz,hw=>by
  obtain ⟨v,vs,rfl,tv,tr'⟩:=tr
  obtain ⟨b,ls,dd,⟨ps,rfl,_⟩,_,_⟩:=hf 0 f y rfl rfl
  obtain ⟨_,rfl,_,r,rfl,⟨rfl,_⟩,_⟩:=tv
  rw [wt] at nd
  cases i with
  | zero =>
   simp at hz hw
   subst hz hw
   have B:bF [p,some (.str y),some (.tup (.str y::r))] st=.ok (.rt (.tup (.str y::r))) st:=yx (zE (zm (zm (ze rfl) rfl jF) (ze rfl) (eqTs _ _ true (by simp) _))) (zW (ze rfl))
   unfold forL
   show (bF [p,some (.str y),some (.tup (.str y::r))] st).bind _=_
   rw [B,zP]
  | succ i =>
   simp at hz hw
   have ne:y≠z:=fun e=>nd.1 (by rw [e];exact j3 hz)
   have B:bF [p,some (.str z),some (.tup (.str y::r))] st=.ok (.nx [p,some (.str z),some (.tup (.str y::r))]) st:=zQ (zE (zm (zm (ze rfl) rfl jF) (ze rfl) (eqTs _ _ false (by simpa using ne) _)))
   unfold forL
   show (bF [p,some (.str z),some (.tup (.str y::r))] st).bind _=_
   rw [B,zP]
   exact zjz fs zs vs i z w _ tr' (fun j f' y' h h'=>hf (j+1) f' y' h h') nd.2 (by simpa using hl) hz hw
def zjA {st:Sto}{fs:List Tr}{zs:List Str}{ws:List PV}{i:Nat}{z:Str}{w:PV}(tr:TRs st fs ws) (P:Prg fs zs) (hz:zs[i]?=some z) (hw:ws[i]?=some w):zcb [.tup ws,.str z] st=.ok w st:=by
 refine ya rfl (yK ?_)
 rw [zan,j7,ze rfl]
 simp only [zP,seqOf]
 exact zjz fs zs ws i z w none tr P.fn P.nd P.len hz hw
def zrv (ns:List Int) (st:Sto):∃d l s1,zeW [.frl (ns.map PV.int)] st=.ok (.ref d) s1/\Dc d l s1:=by
 have hcut:cutP (ns.map PV.int) none (some 180)=(ns.take 180).map PV.int:=by
  unfold cutP
  simp [HT.sIx]
 let a:=st++[SO.lst ((ns.take 180).map PV.int)]
 obtain ⟨ys,s1,C,⟨cs,hy,hc⟩,hs⟩:=zi0 (fe:=(zj yt (zd 0) (mC (.int 2305843009213693951)))) (env:=[some (.frl (ns.map PV.int)),none,none,none,none,none]) (n:=st.length) ((ns.take 180).map PV.int) (fun i ys s=>(∃cs:List Int,ys=cs.map PV.int/\cs.length=i)/\s=a) (fun i ys s h=>by rw [h.2];exact yi _ _) (fun i x ys s hx ⟨⟨cs,h1,h2⟩,h3⟩=>by
  rw [jk] at hx
  cases e:(ns.take 180)[i]? with
  | none=>rw [e] at hx;cases hx
  | some c =>
   rw [e] at hx
   cases hx
   exact ⟨.int (jK c 2305843009213693951),s,zm (ze rfl) rfl (zbd _ _ (by decide)),⟨cs++[jK c 2305843009213693951],by rw [h1,jz];rfl,by simp [h2]⟩,h3⟩) ((ns.take 180).map PV.int).length 0 (lim+1) [] a (by omega) (by simp [lim];omega) ⟨⟨[],rfl,rfl⟩,rfl⟩
 subst hs
 have C2:(jh (yO (wP (zd 0) pNone (pSome (mC (.int 180))))) (zj yt (zd 0) (mC (.int 2305843009213693951)))) [some (.frl (ns.map PV.int)),none,none,none,none,none] st=.ok (.ref a.length) (a++[.lst ys]):=by
  rw [zdA,j7,zb5 (ze rfl) zb6 (zbc rfl) (zod ..),hcut]
  simp only [zP,seqOf]
  rw [yb (yi _ _)]
  exact C
 have hl:cs.length<=180:=by rw [hc];simp;omega
 let b:=a++[SO.lst ys]
 have hb:(b++[SO.lst []])[a.length]?=some (.lst (cs.map PV.int)):=by rw [<-hy];exact yc _ _ _ _ (yi _ _)
 obtain ⟨e',s',F,⟨z3,z4,z5,he⟩,h1,l,h2,h3⟩:=zad (gt:=gN 3) (body:=(zu (zC 4 (mC (.int 1)))
  (zu (yd (mB (zj j5 (zp yE (zc (zd 1) zh)) (mC (.int 0))))
  (zC 4 (zj zw (zd 1) (zj yt (zd 3) (zp yE (zc (zd 1) zh)))))
  yg)
  (zu (zC 5 (zj yD (zj yt (zd 4) (mC (.int 2147483629))) (zj zZ (zj yD (mC (.int 2)) (zd 3)) (mC (.int 1)))))
  (yH (yC yM (zd 2) (zj yt (zj zZ (zj zZ (zd 5) (zj jb (zd 4) (mC (.int 65537)))) (zj yD (zj yD (mC (.int 7919)) (zd 3)) (zd 3))) (mC (.int 2147483647))))))))) (fs:=(zc (mC (.int 180)) zh)) (e:=[some (.frl (ns.map PV.int)),sR a.length,sR b.length,none,none,none]) (st:=b++[.lst []])
  (fun i e s=>(∃z3 z4 z5,e=[some (.frl (ns.map PV.int)),sR a.length,sR b.length,z3,z4,z5])/\s[a.length]?=some (.lst (cs.map PV.int))/\∃l:List Int,s[b.length]?=some (.lst (l.map PV.int))/\l.length=i) 180 (by decide) rfl (fun i e s hi ⟨⟨z3,z4,z5,he⟩,h1,l,h2,h3⟩=>by
   subst he
   have key:∃c:Int,(yd (mB (zj j5 (zp yE (zc (zd 1) zh)) (mC (.int 0)))) (zC 4 (zj zw (zd 1) (zj yt (zd 3) (zp yE (zc (zd 1) zh))))) yg) [some (.frl (ns.map PV.int)),sR a.length,sR b.length,sI i,some (.int 1),z5] s=.ok (.nx [some (.frl (ns.map PV.int)),sR a.length,sR b.length,sI i,some (.int c),z5]) s:=by
    have L:=j9 h1
    rw [jq] at L
    by_cases h0:0<cs.length
    ·obtain ⟨k,hk,ek⟩:=modNat (i:Int) cs.length h0
     have g:atI (cs.map PV.int) (k:Int)=some (.int (cs[k]'hk)):=atI_get (by rw [jk,zU hk];rfl)
     exact ⟨cs[k]'hk,yx (zE (zm (zt (zB (ze rfl)) L) rfl (gtT true (by simp;omega) _))) (zG (zm (ze rfl) (zm (ze rfl) (zt (zB (ze rfl)) L) ((zbd _ _ (by omega)).trans (by rw [ek]))) (by rw [wo,yb h1,g];rfl)))⟩
    ·exact ⟨1,zQ (zE (zm (zt (zB (ze rfl)) L) rfl (gtT false (by rw [decide_eq_false_iff_not];omega) _)))⟩
   obtain ⟨c,K⟩:=key
   refine ⟨[some (.frl (ns.map PV.int)),sR a.length,sR b.length,sI i,z4,z5],_,_,rfl,zq (zG rfl) (zq K (zq (zG (zm (zm (ze rfl) rfl (zbd _ _ (by decide))) (zm (zm rfl (ze rfl) (zaS _ _ (by simp [cMul]))) rfl (zat _ _)) (zaS _ _ (by simp only [cMul,Bool.or_eq_true,we,za0];exact .inr ⟨by omega,by omega⟩)))) (jU (jV (ze rfl) h2 (zm (zm (zm (ze rfl) (zm (ze rfl) rfl (zeK _ _ (by decide) (by decide))) (zat _ _)) (zm (zm rfl (ze rfl) (zaS _ _ (by simp [cMul]))) (ze rfl) (zaS _ _ (by simp only [cMul,Bool.or_eq_true,we,za0];exact .inr ⟨by omega,by omega⟩))) (zat _ _)) rfl (zbd _ _ (by decide))) (by rw [zeB,yb h2,zH (by simp [lim];omega)]))))),⟨_,_,_,rfl⟩,?_,l++[jK (jK c 2147483629*(2*(i:Int)+1)+wG c 65537+7919*(i:Int)*(i:Int)) 2147483647],?_,by simp [h3]⟩
   ·rw [yh (by simp [b])]
    exact h1
   ·rw [yZ (zM h2),jz]
    rfl) ⟨⟨none,none,none,rfl⟩,hb,[],yi _ _,rfl⟩
 subst he
 exact ⟨b.length,l,s',ya rfl (zq (zG C2) (zq (zG (jp jD (by simp))) (zq F (zW (ze rfl))))),h2⟩
def zrw {e:zk}{s:Sto}{z:Str}{v:PV}(h6:e[6]?=some (some (.str z))) (h4:e[4]?=some (some v)):zcK [((zd 6),(zd 4))] e s=.ok (.ref s.length) (s++[.dic [z] [v]]):=by
 have e0:(s++[SO.dic [] []])[s.length]?=some (.dic [] []):=yi _ _
 have e1:isEmp (s++[SO.dic [] []])[s.length]?=true:=by rw [e0];rfl
 have e2:(s++[SO.dic [] []]).set s.length (.dic [z] [v])=s++[.dic [z] [v]]:=by simp
 unfold zcK
 have K:zdC [((zd 6),(zd 4))] e (s++[SO.dic [] []])=.ok ([.str z],[v]) (s++[SO.dic [] []]):=by
  show (zd 6 e _).bind _=_
  rw [ze h6,zP]
  simp only
  rw [ze h4,zP]
  rfl
 rw [K,zP]
 show (if isEmp (s++[SO.dic [] []])[s.length]?=true then _ else _)=_
 rw [zH e1]
 show Res.ok _ ((s++[SO.dic [] []]).set s.length (.dic [z] [v]))=_
 rw [e2]
def zjB {F:Tr->Tr}(hF:∀t,gd t->gd (F t)/\dp (F t)=dp t+1/\sz (F t)=sz t+1) {t:Tr}(g:gd t) (h0:dp t=0) (h1:sz t=1):∀i,gd (itr F i t)/\dp (itr F i t)=i/\sz (itr F i t)=i+1
 | 0=>⟨g,h0,h1⟩
 | i+1=>by
  obtain ⟨a,b,c⟩:=zjB hF g h0 h1 i
  obtain ⟨a',b',c'⟩:=hF _ a
  exact ⟨a',by show dp (F _)=_;omega,by show sz (F _)=_;omega⟩
def zrx (l:List Int) (c0:rn l 5=0):∃t l',(gd t/\dp t<=59/\sz t<=60)/\Draws zbf [] l l' t:=by
 let c:=rn l.tail 1000003
 let N:Nat->Int:=fun k=>((c*(k+1)%1999:Nat):Int)-999
 have hN:∀k,gd (.num (N k)):=fun k=>⟨by show _<((c*(k+1)%1999:Nat):Int)-999;omega,by show ((c*(k+1)%1999:Nat):Int)-999<_;have:=js (c*(k+1)) (show 0<1999 by decide);omega⟩
 have hall:∀t∈(List.range 59).map (fun k=>Tr.num (N k)),gd t/\dp t<=0/\sz t<=1:=fun t ht=>by
  obtain ⟨k,_,rfl⟩:=j4.mp ht
  exact ⟨hN k,by simp [dp],by simp [sz]⟩
 refine ⟨.row ((List.range 59).map fun k=>Tr.num (N k)),l.tail.tail,⟨zcc.mpr fun t ht=>(hall t ht).1,?_,?_⟩,fun d st R dc hR=>?_⟩
 ·have:=wL fun t ht=>(hall t ht).2.1
  simp only [dp];omega
 ·have h2:=zac fun t ht=>(hall t ht).2.2
  simp only [jq,zaY] at h2
  simp only [sz];omega
 obtain ⟨s1,e1,x1⟩:=yu dc 5 (by decide)
 obtain ⟨s2,e2,x2⟩:=yu x1.dc 1000003 (by decide)
 have cl:=yW (m:=1000003) (by decide) l.tail
 obtain ⟨ys,s3,C,q1,hs⟩:=zay (fe:=(zj jd (zj yt (zj yD (zd 3) (zj zZ (zd 0) (mC (.int 1)))) (mC (.int 1999))) (mC (.int 999)))) (fs:=(zc (mC (.int 59)) zh)) (env:=[sR d,some (.int (rn l 5:Int)),sI c,some (.str abc),none,none,none,none]) (st:=s2) 59 (by decide) rfl (fun i ys s=>TRs (vw R s) ((List.range i).map fun k=>Tr.num (N k)) ys/\s=s2) (fun i ys s hi ⟨h1,h4⟩=>by
  refine ⟨.int (N i),s,zm (zm (zm (ze rfl) (zm (ze rfl) rfl (jP i 1)) (zaf c (i+1) (.inr (by omega)))) rfl (jE _ 1999 (by decide))) rfl (wz _ _),?_,h4⟩
  rw [jI,jz]
  exact h1.append (us:=[.num (N i)]) ⟨_,[],rfl,rfl,rfl⟩) ⟨rfl,rfl⟩
 subst hs
 exact ⟨.tup ys,s3++[SO.lst ys],ya rfl (zq (zG (zt (zy (ze rfl) rfl) e1)) (zq (zG (zt (zy (ze rfl) rfl) e2)) (zq (zG rfl) (yK (yx (zE (zm (ze rfl) rfl (eqT' true (by simp;omega) _))) (zW (zt (zB C) (by rw [jo,yb (yi _ _)])))))))),⟨ys,rfl,TRs.mono (jX (yc _ _)) _ q1⟩,(x1.trans x2).trans (Nx.of x2.dc (yc _ _))⟩
def zry (l:List Int) (c0:rn l 5=1):∃t l',(gd t/\dp t<=59/\sz t<=60)/\Draws zbf [] l l' t:=by
 let c:=rn l.tail 1000003
 have hm:c%60<60:=js _ (by decide)
 have hall:∀t∈(List.range (c%60)).map (fun _=>Tr.row []),gd t/\dp t<=1/\sz t<=1:=fun t ht=>by
  obtain ⟨k,_,rfl⟩:=j4.mp ht
  exact ⟨True.intro,by simp [dp,dps],by simp [sz,szs]⟩
 refine ⟨.row ((List.range (c%60)).map fun _=>Tr.row []),l.tail.tail,⟨zcc.mpr fun t ht=>(hall t ht).1,?_,?_⟩,fun d st R dc hR=>?_⟩
 ·have:=wL fun t ht=>(hall t ht).2.1
  simp only [dp];omega
 ·have h2:=zac fun t ht=>(hall t ht).2.2
  simp only [jq,zaY] at h2
  simp only [sz];omega
 obtain ⟨s1,e1,x1⟩:=yu dc 5 (by decide)
 obtain ⟨s2,e2,x2⟩:=yu x1.dc 1000003 (by decide)
 obtain ⟨ys,s3,C,q1,hs⟩:=zay (fe:=(zA zh)) (fs:=(zc (zj yt (zd 2) (mC (.int 60))) zh)) (env:=[sR d,some (.int (rn l 5:Int)),sI c,some (.str abc),none,none,none,none]) (st:=s2) (c%60) (by omega) (zB (zm (ze rfl) rfl (jE c 60 (by decide)))) (fun i ys s=>TRs (vw R s) ((List.range i).map fun _=>Tr.row []) ys/\s=s2) (fun i ys s hi ⟨h1,h4⟩=>by
  refine ⟨.tup [],s,zK jD (by simp),?_,h4⟩
  rw [jI,jz]
  exact h1.append (us:=[.row []]) ⟨_,[],rfl,TR.zero,rfl⟩) ⟨rfl,rfl⟩
 subst hs
 exact ⟨.tup ys,s3++[SO.lst ys],ya rfl (zq (zG (zt (zy (ze rfl) rfl) e1)) (zq (zG (zt (zy (ze rfl) rfl) e2)) (zq (zG rfl) (zq (zQ (zE (zm (ze rfl) rfl (eqT' false (by simp;omega) _)))) (yK (yx (zE (zm (ze rfl) rfl (eqT' true (by simp;omega) _))) (zW (zt (zB C) (by rw [jo,yb (yi _ _)]))))))))),⟨ys,rfl,TRs.mono (jX (yc _ _)) _ q1⟩,(x1.trans x2).trans (Nx.of x2.dc (yc _ _))⟩
def wrapT {F:Tr->Tr}(hF:∀t,gd t->gd (F t)/\dp (F t)=dp t+1/\sz (F t)=sz t+1) {t:Tr}(g:gd t) (h0:dp t=0) (h1:sz t=1):∃T:Nat->Tr,T 0=t/\(∀i,T (i+1)=F (T i))/\∀i,gd (T i)/\dp (T i)=i/\sz (T i)=i+1:=⟨fun i=>itr F i t,rfl,fun _=>rfl,zjB hF g h0 h1⟩
def zrz (l:List Int) (c0:rn l 5=2):∃t l',(gd t/\dp t<=59/\sz t<=60)/\Draws zbf [] l l' t:=by
 obtain ⟨i0,l3,g0,DN⟩:=zdY l.tail.tail
 obtain ⟨T,T0,TS,ok⟩:=wrapT (F:=fun t=>.row [t]) (fun t g=>⟨⟨g,True.intro⟩,by simp only [dp,dps];omega,by simp only [sz,szs];omega⟩) g0 rfl rfl
 refine ⟨T 59,l3,⟨(ok 59).1,Nat.le_of_eq (ok 59).2.1,Nat.le_of_eq (ok 59).2.2⟩,fun d st R dc hR=>?_⟩
 obtain ⟨s1,e1,x1⟩:=yu dc 5 (by decide)
 obtain ⟨s2,e2,x2⟩:=yu x1.dc 1000003 (by decide)
 obtain ⟨s3,e3,x3⟩:=DN d s2 x2.dc
 obtain ⟨e',s',F,⟨z5,v,he,q1⟩,hs⟩:=zad (gt:=gN 5) (body:=(zC 4 (zA (zc (zd 4) zh)))) (fs:=(zc (mC (.int 59)) zh)) (e:=[sR d,some (.int (rn l 5:Int)),some (.int (rn l.tail 1000003:Int)),some (.str abc),some (.int i0),none,none,none]) (st:=s3) (fun i e s=>(∃z5 v,e=[sR d,some (.int (rn l 5:Int)),some (.int (rn l.tail 1000003:Int)),some (.str abc),some v,z5,none,none]/\TR (vw R s) (T i) v)/\s=s3) 59 (by decide) rfl (fun i e s hi ⟨⟨z5,v,he,q1⟩,hs⟩=>by
  subst he
  exact ⟨[sR d,some (.int (rn l 5:Int)),some (.int (rn l.tail 1000003:Int)),some (.str abc),some v,sI i,none,none],_,s,rfl,zG (zK (zB (ze rfl)) (by simp)),⟨_,_,rfl,by rw [TS];exact TR.one1 q1⟩,hs⟩) ⟨⟨none,.int i0,rfl,by rw [T0];rfl⟩,rfl⟩
 subst he hs
 exact ⟨v,s',ya rfl (zq (zG (zt (zy (ze rfl) rfl) e1)) (zq (zG (zt (zy (ze rfl) rfl) e2)) (zq (zG rfl) (zq (zQ (zE (zm (ze rfl) rfl (eqT' false (by simp;omega) _)))) (zq (zQ (zE (zm (ze rfl) rfl (eqT' false (by simp;omega) _)))) (zq (zG (zt (zB (ze rfl)) e3)) (yK (yx (zE (zm (ze rfl) rfl (eqT' true (by simp;omega) _))) (zq F (zW (ze rfl))))))))))),q1,(x1.trans x2).trans x3⟩
def zrA (l:List Int) (c0:rn l 5=3):∃t l',(gd t/\dp t<=59/\sz t<=60)/\Draws zbf [] l l' t:=by
 obtain ⟨i0,l3,g0,DN⟩:=zdY l.tail.tail
 obtain ⟨z,l4,hz,DW⟩:=zcZ l3
 obtain ⟨T,T0,TS,ok⟩:=wrapT (F:=fun t=>.rec_ [z] [t]) (fun t g=>⟨⟨by simp,rfl,fun k hk=>by rw [jw.mp hk];exact hz,g,True.intro⟩,by simp only [dp,dps];omega,by simp only [sz,szs];omega⟩) g0 rfl rfl
 refine ⟨T 59,l4,⟨(ok 59).1,Nat.le_of_eq (ok 59).2.1,Nat.le_of_eq (ok 59).2.2⟩,fun d st R dc hR=>?_⟩
 obtain ⟨s1,e1,x1⟩:=yu dc 5 (by decide)
 obtain ⟨s2,e2,x2⟩:=yu x1.dc 1000003 (by decide)
 obtain ⟨s3,e3,x3⟩:=DN d s2 x2.dc
 obtain ⟨s4,e4,x4⟩:=DW d s3 x3.dc
 have x14:=(x1.trans x2).trans (x3.trans x4)
 obtain ⟨e',s',F,⟨z5,v,he,q1⟩,o5⟩:=zad (gt:=gN 5) (body:=(zC 4 (zcK [((zd 6),(zd 4))]))) (fs:=(zc (mC (.int 59)) zh)) (e:=[sR d,some (.int (rn l 5:Int)),some (.int (rn l.tail 1000003:Int)),some (.str abc),some (.int i0),none,some (.str z),none]) (st:=s4) (fun i e s=>(∃z5 v,e=[sR d,some (.int (rn l 5:Int)),some (.int (rn l.tail 1000003:Int)),some (.str abc),some v,z5,some (.str z),none]/\TR (vw R s) (T i) v)/\Old s4 s/\s4.length<=s.length) 59 (by decide) rfl (fun i e s hi ⟨⟨z5,v,he,q1⟩,o5,sl⟩=>by
  subst he
  refine ⟨[sR d,some (.int (rn l 5:Int)),some (.int (rn l.tail 1000003:Int)),some (.str abc),some v,sI i,some (.str z),none],_,s++[SO.dic [z] [v]],rfl,zG (zrw rfl rfl),⟨_,_,rfl,?_⟩,o5.trans (yc _ _),by simp;omega⟩
  have lR:s.length∉R:=fun h=>by have:=x14.lt (hR _ h);omega
  rw [TS]
  exact ⟨s.length,[v],rfl,zbH.mpr ⟨lR,yi _ _⟩,by simp,rfl,⟨v,[],rfl,TR.mono (jX (yc _ _)) _ q1,rfl⟩,fun k hk=>by rw [jw.mp hk];have:=zcd hz;omega⟩) ⟨⟨none,.int i0,rfl,by rw [T0];rfl⟩,Old.refl _,yf _⟩
 subst he
 exact ⟨v,s',ya rfl (zq (zG (zt (zy (ze rfl) rfl) e1)) (zq (zG (zt (zy (ze rfl) rfl) e2)) (zq (zG rfl) (zq (zQ (zE (zm (ze rfl) rfl (eqT' false (by simp;omega) _)))) (zq (zQ (zE (zm (ze rfl) rfl (eqT' false (by simp;omega) _)))) (zq (zG (zt (zB (ze rfl)) e3)) (zq (zQ (zE (zm (ze rfl) rfl (eqT' false (by simp;omega) _)))) (yK (yx (zE (zm (ze rfl) rfl (eqT' true (by simp;omega) _))) (zq (zG (zt (zB (ze rfl)) e4)) (zq F (zW (ze rfl))))))))))))),q1,x14.trans (Nx.of x4.dc o5.1)⟩
def zfI (W:Nat->Str) (N:Nat->Tr):Nat->List Str×List Tr
 | 0=>([],[])
 | i+1=>zae (W i) (N i) (zfI W N i).1 (zfI W N i).2
def recT {P:Tr->Prop}(W:Nat->Str) (N:Nat->Tr) (m:Nat) (hW:∀i,i<m->isW (W i)=true) (hN:∀i,P (N i)):∃Q:Nat->List Str×List Tr,Q 0=([],[])/\(∀i,Q (i+1)=zae (W i) (N i) (Q i).1 (Q i).2)/\∀i,i<=m->Fld P i (Q i).1 (Q i).2:=by
 refine ⟨zfI W N,rfl,fun _=>rfl,fun i=>?_⟩
 induction i with
 | zero=>intro _;exact ⟨.nil,rfl,yf _,(fun _ h=>nomatch h),(fun _ h=>nomatch h)⟩
 | succ i ih=>intro h;exact (ih (by omega)).put (hW i (by omega)) (hN i)
def ad1 (a b:Nat) (st:Sto):zZ (.str ⟨#[a]⟩) (.str ⟨#[b]⟩) st=.ok (.str (S [a,b])) st:=by
 have h:=ad (S [a]) (S [b]) (by rw [zbG,zbG];simp) st
 rw [zdW] at h
 exact h
def zrC (l:List Int) (c0:rn l 5=4):∃t l',(gd t/\dp t<=59/\sz t<=60)/\Draws zbf [] l l' t:=by
 obtain ⟨i0,l3,g0,DN⟩:=zdY l.tail.tail
 have cl:=yW (m:=1000003) (by decide) l.tail
 generalize ec:rn l.tail 1000003=c at cl
 obtain ⟨Q,Q0,QS,FL⟩:=recT (P:=fun t=>gd t/\dp t<=0/\sz t<=1) (fun i=>S [ji ((c+7*i)%26),ji (i/26)]) (fun i=>.num ((c*i%1999:Nat):Int)) 59 (fun i hi=>zjb (by simp) (by simp) (fun x hx=>by
  have h1:(c+7*i)%26<26:=js _ (by decide)
  have h2:i/26<26:=by omega
  rcases yQ.mp hx with q|q
  ·rw [q];exact (zbl _ h1 []).2
  ·rw [jw.mp q];exact (zbl _ h2 []).2)) (fun i=>⟨⟨by omega,by have:=js (c*i) (show 0<1999 by decide);omega⟩,yf _,yf _⟩)
 have f59:=FL 59 (yf _)
 refine ⟨.rec_ (Q 59).1 (Q 59).2,l3,⟨⟨f59.nd,f59.len,f59.wd,zcc.mpr fun t ht=>(f59.all t ht).1⟩,?_,?_⟩,fun d st R dc hR=>?_⟩
 ·have:=wL fun t ht=>(f59.all t ht).2.1
  simp only [dp];omega
 ·have h2:=zac fun t ht=>(f59.all t ht).2.2
  have:=f59.le
  simp only [sz];omega
 obtain ⟨s1,e1,x1⟩:=yu dc 5 (by decide)
 obtain ⟨s2,e2,x2⟩:=yu x1.dc 1000003 (by decide)
 rw [ec] at e2
 obtain ⟨s3,e3,x3⟩:=DN d s2 x2.dc
 have x13:=(x1.trans x2).trans x3
 have dl:=zM x3.dc
 obtain ⟨e',s',F,⟨z5,z6,he⟩,ob,ys,hq,tr⟩:=zad (gt:=gN 5) (body:=(zu (zC 6 (zj zZ (zj zw (zd 3) (zj yt (zj zZ (zd 2) (zj yD (mC (.int 7)) (zd 5))) (mC (.int 26)))) (zj zw (zd 3) (zj jb (zd 5) (mC (.int 26))))))
  (zbx (zd 7) (zd 6) (zj yt (zj yD (zd 2) (zd 5)) (mC (.int 1999)))))) (fs:=(zc (mC (.int 59)) zh)) (e:=[sR d,some (.int (rn l 5:Int)),sI c,some (.str abc),some (.int i0),none,none,sR s3.length]) (st:=s3++[.dic [] []]) (fun i e s=>(∃z5 z6,e=[sR d,some (.int (rn l 5:Int)),sI c,some (.str abc),some (.int i0),z5,z6,sR s3.length])/\(∀(k:Nat) so,k≠s3.length->s3[k]?=some so->s[k]?=some so)/\∃ys,s[s3.length]?=some (.dic (Q i).1 ys)/\TRs (vw (s3.length::R) s) (Q i).2 ys) 59 (by decide) rfl (fun i e s hi ⟨⟨z5,z6,he⟩,ob,ys,hq,tr⟩=>by
  subst he
  have fl:=FL i (by omega)
  have h1:(c+7*i)%26<26:=js _ (by decide)
  have h2:i/26<26:=by omega
  obtain ⟨g1,g2⟩:=zjh (z:=S [ji ((c+7*i)%26),ji (i/26)]) (ks:=(Q i).1) (t:=.num ((c*i%1999:Nat):Int)) tr rfl
  have P:=zje (fo:=zd 7) (fi:=zd 6) (fv:=(zj yt (zj yD (zd 2) (zd 5)) (mC (.int 1999)))) (e:=[sR d,some (.int (rn l 5:Int)),sI c,some (.str abc),some (.int i0),sI i,some (.str (S [ji ((c+7*i)%26),ji (i/26)])),sR s3.length]) (s:=s) (zm (zm (ze rfl) (ze rfl) (zaf c i (.inl (by omega)))) rfl (jE _ 1999 (by decide))) (ze rfl) (ze rfl) hq (by have:=fl.le;have:=fl.len;omega)
  refine ⟨[sR d,some (.int (rn l 5:Int)),sI c,some (.str abc),some (.int i0),sI i,z6,sR s3.length],_,_,rfl,zq (zG (zm (zm (ze rfl) (zm (zm (ze rfl) (zm rfl (ze rfl) (zaf 7 i (.inl (by decide)))) (jP c _)) rfl (jE _ 26 (by decide))) (zbl _ h1 _).1) (zm (ze rfl) (zm (ze rfl) rfl (wM i 26 (by decide) (by decide))) (zbl _ h2 _).1) (ad1 _ _ _))) P,⟨_,_,rfl⟩,fun k so kn hs=>?_,_,?_,TRs.mono (zi6 _) _ (by rw [QS];exact g2)⟩
  ·rw [yh (yJ kn)]
   exact ob k so kn hs
  ·rw [yZ (zM hq),QS]
   show _=some (SO.dic (zae _ _ _ _).1 _)
   rw [g1]) ⟨⟨none,none,rfl⟩,fun k so kn hs=>yc _ _ _ _ hs,[],by rw [Q0];exact yi _ _,by rw [Q0];rfl⟩
 subst he
 have hrR:s3.length∉R:=fun h=>by
  have:=x13.lt (hR _ h)
  omega
 exact ⟨.ref s3.length,s',ya rfl (zq (zG (zt (zy (ze rfl) rfl) e1)) (zq (zG (zt (zy (ze rfl) rfl) e2)) (zq (zG rfl) (zq (zQ (zE (zm (ze rfl) rfl (eqT' false (by simp;omega) _)))) (zq (zQ (zE (zm (ze rfl) rfl (eqT' false (by simp;omega) _)))) (zq (zG (zt (zB (ze rfl)) e3)) (zq (zQ (zE (zm (ze rfl) rfl (eqT' false (by simp;omega) _)))) (zq (zQ (zE (zm (ze rfl) rfl (eqT' false (by simp;omega) _)))) (zq (zG rfl) (zq F (zW (ze rfl)))))))))))),⟨s3.length,ys,rfl,zbH.mpr ⟨hrR,hq⟩,f59.nd,by rw [f59.len];exact tr.len,TRs.mono zi7 _ tr,fun k hk=>by have:=zcd (f59.wd k hk);omega⟩,⟨fun k so k1 e=>ob k so (by have:=zM (x13.ob k so k1 e);omega) (x13.ob k so k1 e),ob d _ (by omega) x3.dc⟩⟩
def zrD (l:List Int):∃t l',(gd t/\dp t<=59/\sz t<=60)/\Draws zbf [] l l' t:=by
 have:=yW (m:=5) (by decide) l
 have h:rn l 5=0\/rn l 5=1\/rn l 5=2\/rn l 5=3\/rn l 5=4:=by omega
 rcases h with h|h|h|h|h
 ·exact zrx l h
 ·exact zry l h
 ·exact zrz l h
 ·exact zrA l h
 ·exact zrC l h
def zrE (l:List Int):∃fs zs l',Prg fs zs/\Draws ze2 [] l l' (.row fs):=by
 have hc:=yW (m:=1000000007) (by decide) l
 generalize ec:rn l 1000000007=c at hc
 obtain ⟨nm,M⟩:=zaU c (by omega)
 obtain ⟨t,l',⟨tg,td,tz⟩,DL⟩:=zrD l.tail
 have ln:∀i,i<8->(nm i).length<=1000:=fun i hi=>M.len i (by omega)
 let O:Nat->Tr:=fun i=>.row [.word "of", .word (nm i)]
 let V:Nat->PV:=fun i=>.tup [.str "of", .str (nm i)]
 have tO:∀i,i<8->∀a,TR a (O i) (V i):=fun i hi a=>TR.two (TR.str (by decide +kernel)) (TR.str (ln i hi))
 let P6:List PV:=[.str (nm 0),.str (nm 1),.str (nm 2),.str (nm 3),.str (nm 4),.str (nm 5)]
 let T6:List PV:=[V 5,V 4,V 3,V 2,V 1,V 0]
 refine ⟨[.row [.word (nm 0),.row ([nm 0,nm 1,nm 2,nm 3,nm 4,nm 5].map Tr.word),.row [.row [.row [.word "call", .word (nm 6),.word (nm 0),.row [O 5,O 4,O 3,O 2,O 1,O 0]],.row [.word "let", .word (nm 7),.word "set", .row [.row [.word "is", t],O 5,O 4]]],.row [.word "go", .word (nm 0),.row [.row [.word "is", t],O 6,O 3,O 2,O 1,O 0]]]]],[nm 0],l',zd1 ⟨_,_,_,⟨[nm 0,nm 1,nm 2,nm 3,nm 4,nm 5],rfl,by simp⟩,⟨59,.leaf _ _ (fun s hs=>?_) (.go _ _ (fun a ha=>?_) (by simp)),by omega⟩,by omega,by simp⟩,fun d st R dc hR=>?_⟩
 ·simp only [yQ,List.not_mem_nil,yA] at hs
  rcases hs with q|q
  ·rw [q]
   refine .call _ _ _ (fun a ha=>?_) (by simp)
   simp only [yQ,List.not_mem_nil,yA] at ha
   rcases ha with q|q|q|q|q|q<;>(rw [q];exact .of _)
  ·rw [q]
   refine .let_ _ _ _ (fun a ha=>?_) (by simp)
   simp only [yQ,List.not_mem_nil,yA] at ha
   rcases ha with q|q|q
   ·rw [q];exact .is t tg td tz
   ·rw [q];exact .of _
   ·rw [q];exact .of _
 ·simp only [yQ,List.not_mem_nil,yA] at ha
  rcases ha with q|q|q|q|q|q
  ·rw [q];exact .is t tg td tz
  all_goals (rw [q];exact .of _)
 obtain ⟨s1,e1,x1⟩:=yu dc 1000000007 (by decide)
 rw [ec] at e1
 obtain ⟨us,s2,C,q1,o2⟩:=zay (fe:=(zp yN (zc (zd 2) (zc (zd 0) zh)))) (fs:=(zc (mC (.int 6)) zh)) (env:=[sR d,sI c,none,none,none,none,none,none]) (st:=s1) 6 (by omega) rfl (fun i us s=>us=names nm i/\Old s1 s) (fun i us s hi ⟨g1,g2⟩=>by
  obtain ⟨s',e',o'⟩:=M.at_ i (by omega) s
  exact ⟨_,s',zt (zy (ze rfl) (ze rfl)) e',by rw [g1];simp [names,jI],g2.trans o'⟩) ⟨rfl,Old.refl _⟩
 have q1:us=P6:=q1
 have o3:Old s1 (s2++[SO.lst us]):=o2.trans (yc _ _)
 have x3:Nx d l.tail s1 (s2++[SO.lst us]):=Nx.of x1.dc o3
 have tu:yL [.ref s2.length] (s2++[SO.lst us])=.ok (.tup P6) (s2++[SO.lst us]):=by rw [jo,yb (yi _ _),q1]
 obtain ⟨v,s4,e4,tv,x4⟩:=DL d (s2++[SO.lst us]) R x3.dc (fun r hr=>x3.lt (x1.lt (hR r hr)))
 have ST:(zbz (zd 2) (pSome (ju wn (mC (.int 1))))) [sR d,sI c,some (.tup P6),some v,none,none,none,none] s4=.ok (.tup [.str (nm 5),.str (nm 4),.str (nm 3),.str (nm 2),.str (nm 1),.str (nm 0)]) s4:=by
  show (zd 2 _ s4).bind _=_
  rw [ze (v:=.tup P6) rfl,zP]
  have pn:pSome (ju wn (mC (.int 1))) [sR d,sI c,some (.tup P6),some v,none,none,none,none] s4=.ok (some (-1)) s4:=zbc (zaa rfl rfl)
  show (pSome (ju wn (mC (.int 1))) _ s4).bind _=_
  rw [pn,zP]
  show (if (-1:Int)≠0/\(HT.stepP (-1) P6).length<=1000000 then Res.ok (PV.tup (HT.stepP (-1) P6)) s4 else Res.stuck)=_
  have e:HT.stepP (-1) P6=[.str (nm 5),.str (nm 4),.str (nm 3),.str (nm 2),.str (nm 1),.str (nm 0)]:=by
   have e0:HT.stepAt (-1) 6=[5,4,3,2,1,0]:=by decide +kernel
   show (HT.stepAt (-1) 6).filterMap (fun i=>P6[i]?)=_
   rw [e0]
   rfl
  rw [e,zH ⟨by decide,by simp⟩]
 have C5:(jh (yO (zbz (zd 2) (pSome (ju wn (mC (.int 1)))))) (zA (zc (mC (.str "of")) (zc (zd 0) zh)))) [sR d,sI c,some (.tup P6),some v,none,none,none,none] s4=.ok (.ref s4.length) (s4++[.lst T6]):=by
  rw [zdA,j7,ST]
  simp only [zP,seqOf]
  rw [zeA,zH (by simp [lim])]
  exact zeC (f:=fun x=>.tup [.str "of", x]) _ (fun x hx=>zK (zy rfl (ze rfl)) (by simp)) []
 have t5:yL [.ref s4.length] (s4++[SO.lst T6])=.ok (.tup T6) (s4++[SO.lst T6]):=by rw [jo,yb (yi _ _)]
 have o5:=yc s4 [SO.lst T6]
 obtain ⟨s6,e6,o6⟩:=M.at_ 6 (by decide) (s4++[SO.lst T6])
 obtain ⟨s7,e7,o7⟩:=M.at_ 7 (by decide) s6
 have oo:=o5.trans (o6.trans o7)
 have SL1:oSl (.tup T6) none (some 2) s7=.ok (.tup [V 5,V 4]) s7:=(rfl)
 have SL2:oSl (.tup T6) (some 2) none s7=.ok (.tup [V 3,V 2,V 1,V 0]) s7:=(rfl)
 have tv7:=TR.mono (jX (R:=R) oo) _ tv
 refine ⟨.tup [.tup [.str (nm 0),.tup P6,.tup [.tup [.tup [.str "call", .str (nm 6),.str (nm 0),.tup T6],.tup [.str "let", .str (nm 7),.str "set", .tup ([.tup [.str "is", v]]++[V 5,V 4])]],.tup [.str "go", .str (nm 0),.tup ([.tup [.str "is", v],.tup [.str "of", .str (nm 6)]]++[V 3,V 2,V 1,V 0])]]]],s7,ya rfl (zq (zG (zt (zy (ze rfl) rfl) e1)) (zq (zG (zt (zB C) tu)) (zq (zG (zt (zB (ze rfl)) e4)) (zq (zG (zt (zB C5) t5)) (zq (zG (zt (zy (ze rfl) rfl) e6)) (zq (zG (zK (zy (zK (wB rfl (ze rfl) (zm (ze rfl) rfl jF) (ze rfl)) (by simp)) (zK (wB rfl (zt (zy (ze rfl) rfl) e7) rfl (zm (zK (zB (zK (zy rfl (ze rfl)) (by simp))) (by simp)) (zb5 (ze rfl) zb6 (zbc rfl) SL1) (adT (by simp)))) (by simp))) (by simp))) (zq (zG (zm (zK (zy (zK (zy rfl (ze rfl)) (by simp)) (zK (zy rfl (ze rfl)) (by simp))) (by simp)) (zb5 (ze rfl) (zbc rfl) zb6 SL2) (adT (by simp)))) (zW (zK (zB (zK (wN (zm (ze rfl) rfl jF) (ze rfl) (zK (zy (ze rfl) (zK (wN rfl (zm (ze rfl) rfl jF) (ze rfl)) (by simp))) (by simp))) (by simp))) (by simp)))))))))),?_,x1.trans (x3.trans (x4.trans (Nx.of x4.dc oo)))⟩
 have h:∀i,i<8->TR (vw R s7) (O i) (V i):=fun i hi=>tO i hi _
 have six:TR (vw R s7) (.row [O 5,O 4,O 3,O 2,O 1,O 0]) (.tup T6):=⟨_,rfl,_,_,rfl,h 5 (by decide),_,_,rfl,h 4 (by decide),_,_,rfl,h 3 (by decide),_,_,rfl,h 2 (by decide),_,_,rfl,h 1 (by decide),_,_,rfl,h 0 (by decide),rfl⟩
 have isV:TR (vw R s7) (.row [.word "is", t]) (.tup [.str "is", v]):=TR.two (TR.str (by decide +kernel)) tv7
 refine TR.one1 (TR.three (TR.str (ln 0 (by decide))) ⟨_,rfl,zfG (zs:=[nm 0,nm 1,nm 2,nm 3,nm 4,nm 5]) (fun z hz=>?_)⟩ (TR.two (TR.two (TR.row4 (by decide +kernel) (ln 6 (by decide)) (ln 0 (by decide)) six) (TR.row4 (by decide +kernel) (ln 7 (by decide)) (by decide +kernel) (TR.three isV (h 5 (by decide)) (h 4 (by decide))))) (TR.three (TR.str (by decide +kernel)) (TR.str (ln 0 (by decide))) ⟨_,rfl,_,_,rfl,isV,_,_,rfl,h 6 (by decide),_,_,rfl,h 3 (by decide),_,_,rfl,h 2 (by decide),_,_,rfl,h 1 (by decide),_,_,rfl,h 0 (by decide),rfl⟩)))
 simp only [yQ,List.not_mem_nil,yA] at hz
 rcases hz with q|q|q|q|q|q<;>(rw [q];exact ln _ (by decide))
def atI_last {α:Type}{l:List α}{x:α}(h:l[l.length-1]?=some x):atI l (-1)=some x:=by
 have h1:=(yI.mp h).1
 have e:ixN l.length (-1)=some (l.length-1):=by
  unfold ixN
  rw [zX (by decide),zH (by omega)]
  congr 1
  omega
 simp only [atI,e,Option.bind_some,h]
def lz (zs:List Str):Str:=(zs[zs.length-1]?).getD ""
def zjC {zs:List Str}(h:0<zs.length):zs[zs.length-1]?=some (lz zs):=by
 unfold lz
 rw [zU (show zs.length-1<zs.length by omega)]
 rfl
def zjD {zs:List Str}(h:0<zs.length) (hz:∀z∈zs,z.length<=1000):(lz zs).length<=1000:=hz _ (j3 (zjC h))
def zjE {s:Sto}{sc:Nat}{zs:List Str}(h:0<zs.length) (hs:s[sc]?=some (.lst (zs.map PV.str))):zw (.ref sc) (.int (-1)) s=.ok (.str (lz zs)) s:=by
 rw [wo,yb hs,atI_last (x:=PV.str (lz zs)) (by rw [jk,jq,zjC h];rfl)]
 rfl
structure Nv (nm:Nat->Str) (d u r:Nat) (l:List Int) (n k:Nat) (a b:Sto):Prop where
 ob:∀(m:Nat) so,m≠d->m≠u->m≠r->a[m]?=some so->b[m]?=some so
 dc:Dc d l b
 us:b[u]?=some (.lst (names nm n))
 rm:b[r]?=some (.lst (List.replicate k (.int 0)))
def Nv.trans {nm:Nat->Str}{d u r:Nat}{l l':List Int}{n n' k k':Nat}{a b c:Sto}(h:Nv nm d u r l n k a b) (h':Nv nm d u r l' n' k' b c):Nv nm d u r l' n' k' a c:=⟨fun m so q1 q2 q3 e=>h'.ob m so q1 q2 q3 (h.ob m so q1 q2 q3 e),h'.dc,h'.us,h'.rm⟩
def Nv.vw {nm:Nat->Str}{d u r:Nat}{l l0:List Int}{n k:Nat}{xs ys:List PV}{a b:Sto}{R:List Nat}(h:Nv nm d u r l n k a b) (hd:Dc d l0 a) (hu:a[u]?=some (.lst xs)) (hr:a[r]?=some (.lst ys)):Dk (FK25.vw R a) (FK25.vw R b):=zbk fun m ks zs hm e=>⟨hm,h.ob m _ (fun q=>by rw [q,show a[d]?=_ from hd] at e;cases e) (fun q=>by rw [q,hu] at e;cases e) (fun q=>by rw [q,hr] at e;cases e) e⟩
def Nv.lt {nm:Nat->Str}{d u r:Nat}{l:List Int}{n k:Nat}{a b:Sto}(h:Nv nm d u r l n k a b) {m:Nat}(hm:m<a.length):m<b.length:=by
 by_cases q1:m=d
 ·rw [q1];exact zM h.dc
 ·by_cases q2:m=u
  ·rw [q2];exact zM h.us
  ·by_cases q3:m=r
   ·rw [q3];exact zM h.rm
   ·exact zM (h.ob m _ q1 q2 q3 (zU hm))
def zrF {s:Sto}{r k:Nat}(h:s[r]?=some (.lst (List.replicate (k+1) (.int 0)))):zby (.ref r) s=.ok (.int 0) (s.set r (.lst (List.replicate k (.int 0)))):=by
 show yo s r _=_
 rw [yb h]
 have e:(List.replicate (k+1) (PV.int 0))[(List.replicate (k+1) (PV.int 0)).length-1]?=some (.int 0):=by
  rw [List.getElem?_replicate,zH (by simp)]
 have e2:(List.replicate (k+1) (PV.int 0)).dropLast=List.replicate k (.int 0):=by simp
 simp only [e,e2]
abbrev bV:zk->Mo Fl:=(zu (yH (ju zby (zd 5)))
  (zu (zC 8 (zp yN (zc (zd 1) (zc (zp yE (zc (zd 2) zh)) zh))))
  (zu (yH (yC yM (zd 6) (zA (zc (mC (.str "let")) (zc (zd 8) (zc (mC (.str "add")) (zc (zA (zc (zA (zc (mC (.str "of")) (zc (zj zw (zd 3) (ju wn (mC (.int 1)))) zh))) (zc (zA (zc (mC (.str "is")) (zc (zp yE (zc (zd 2) zh)) zh))) zh))) zh)))))))
  (zu (yH (yC yM (zd 2) (zd 8)))
  (yH (yC yM (zd 3) (zd 8)))))))
def tS (nm:Nat->Str) (zs:List Str) (n:Nat):Tr:=.row [.word "let", .word (nm n),.word "add", .row [.row [.word "of", .word (lz zs)],.row [.word "is", .num (n:Int)]]]
def zrG {nm:Nat->Str}{zs:List Str}{n:Nat}(hn:n<=1000):Stp 1 (tS nm zs n):=.let_ _ _ _ (fun a ha=>by
 rcases yQ.mp ha with q|q
 ·rw [q];exact .of _
 ·rw [jw.mp q];exact .is _ ⟨by omega,by omega⟩ (by simp [dp]) (by simp [sz])) (by simp)
structure Tv (nm:Nat->Str) (R:List Nat) (d u r sc t:Nat) (a:Sto) (l:List Int) (zs:List Str) (n k:Nat) (ts:List Tr) (s:Sto):Prop where
 nv:Nv nm d u r l n k a s
 scp:s[sc]?=some (.lst (zs.map PV.str))
 st:∃ys,s[t]?=some (.lst ys)/\TRs (vw R s) ts ys
def zrH {nm:Nat->Str}{c:Nat}(M:Nm c nm) {R:List Nat}{d u r sc t b n k i:Nat}{a s:Sto}{zs:List Str}{l:List Int}{ts:List Tr}
  (hz:∀z∈zs,z.length<=1000) (hz0:0<zs.length) (hzl:zs.length<=2000) (hn:n<900) (htl:ts.length<=100) (da:d<a.length) (ua:u<a.length) (ra:r<a.length) (h1:d≠u) (h2:d≠r) (h3:u≠r) (sa:a.length<=sc) (ta:a.length<=t) (st_:sc≠t) (I:Tv nm R d u r sc t a l zs n (k+1) ts s) (z8 z9 z10:Option PV) :
  ∃s',bV [sR d,sI c,sR u,sR sc,sI b,sR r,sR t,sI i,z8,z9,z10] s=.ok (.nx [sR d,sI c,sR u,sR sc,sI b,sR r,sR t,sI i,some (.str (nm n)),z9,z10]) s'/\Tv nm R d u r sc t a l (zs++[nm n]) (n+1) k (ts++[tS nm zs n]) s':=by
 obtain ⟨ys,hy,tr⟩:=I.st
 have hlen:=tr.len
 have PP:=zrF I.nv.rm
 let s0:=s.set r (SO.lst (List.replicate k (.int 0)))
 have us0:s0[u]?=some (.lst (names nm n)):=by rw [yh (yJ h3)];exact I.nv.us
 have dc0:Dc d l s0:=by show s0[d]?=_;rw [yh (yJ h2)];exact I.nv.dc
 have rm0:s0[r]?=some (.lst (List.replicate k (.int 0))):=yZ (zM I.nv.rm)
 have sc0:s0[sc]?=some (.lst (zs.map PV.str)):=by rw [yh (by omega)];exact I.scp
 have hy0:s0[t]?=some (.lst ys):=by rw [yh (by omega)];exact hy
 have ul:=j9 us0
 rw [show (names nm n).length=n by simp [names]] at ul
 obtain ⟨s1,e1,o1⟩:=M.at_ n hn s0
 have ul1:=j9 (o1 _ _ us0)
 rw [show (names nm n).length=n by simp [names]] at ul1
 have A1:=wO (y:=.tup [.str "let", .str (nm n),.str "add", .tup [.tup [.str "of", .str (lz zs)],.tup [.str "is", .int (n:Int)]]]) (o1 _ _ hy0) (by omega)
 let s2:=s1.set t (SO.lst (ys++[.tup [.str "let", .str (nm n),.str "add", .tup [.tup [.str "of", .str (lz zs)],.tup [.str "is", .int (n:Int)]]]]))
 have us2:s2[u]?=some (.lst (names nm n)):=by rw [yh (by omega)];exact o1 _ _ us0
 have A2:=wO (y:=.str (nm n)) us2 (by simp [names];omega)
 let s3:=s2.set u (SO.lst (names nm n++[.str (nm n)]))
 have sc3:s3[sc]?=some (.lst (zs.map PV.str)):=by rw [yh (by omega),yh (by omega)];exact o1 _ _ sc0
 have A3:=wO (y:=.str (nm n)) sc3 (by simp;omega)
 refine ⟨_,zq (jU (zaa (ze rfl) PP)) (zq (zG (zt (zy (ze rfl) (zt (zB (ze rfl)) ul)) e1)) (zq (jU (jV (ze rfl) (o1 _ _ hy0) (zK (wB rfl (ze rfl) rfl (zK (zy (zK (zy rfl (zm (ze rfl) (zaa rfl rfl) (zjE hz0 (o1 _ _ sc0)))) (by simp)) (zK (zy rfl (zt (zB (ze rfl)) ul1)) (by simp))) (by simp))) (by simp)) A1)) (zq (jU (jV (ze rfl) us2 (ze rfl) A2)) (jU (jV (ze rfl) sc3 (ze rfl) A3))))),⟨⟨fun m so q1 q2 q3 e=>?_,?_,?_,?_⟩,?_,ys++[.tup [.str "let", .str (nm n),.str "add", .tup [.tup [.str "of", .str (lz zs)],.tup [.str "is", .int (n:Int)]]]],?_,?_⟩⟩
 ·have:=zM e
  rw [yh (by omega),yh (fun q=>q2 q.symm),yh (by omega)]
  exact o1 m so (by rw [yh (fun q=>q3 q.symm)];exact I.nv.ob m so q1 q2 q3 e)
 ·show (List.set _ _ _)[d]?=_
  rw [yh (by omega),yh (fun q=>h1 q.symm),yh (by omega)]
  exact o1 _ _ dc0
 ·rw [yh (by omega),yZ (zM us2)]
  simp [names,jI]
 ·rw [yh (by omega),yh h3,yh (by omega)]
  exact o1 _ _ rm0
 ·rw [yZ (zM sc3),jz];rfl
 ·rw [yh st_,yh (by omega),yZ (zM (o1 _ _ hy0))]
 ·refine TRs.mono (wU sc3 _) _ (TRs.mono (wU us2 _) _ (TRs.mono (wU (o1 _ _ hy0) _) _ (TRs.mono (jX o1) _ ?_)))
  exact (TRs.mono (wU I.nv.rm _) _ tr).append ⟨_,[],rfl,TR.row4 (by decide +kernel) (M.len n hn) (by decide +kernel) (TR.two (TR.two (TR.str (by decide +kernel)) (TR.str (zjD hz0 hz))) (TR.two (TR.str (by decide +kernel)) rfl)),rfl⟩
def BDraw (nm:Nat->Str) (c lev b:Nat) (zs:List Str) (l l':List Int) (n n' k k':Nat) (t:Tr):Prop :=
 ∀(d u r sc:Nat) (st:Sto) (R:List Nat),Dc d l st->d≠u->d≠r->u≠r->st[u]?=some (.lst (names nm n))->st[r]?=some (.lst (List.replicate k (.int 0)))->st[sc]?=some (.lst (zs.map PV.str))->(∀r∈R,r<st.length)->∃v s1,wK lev [.ref d,.int (c:Int),.ref u,.ref sc,.int (b:Int),.ref r] st=.ok v s1/\TR (vw R s1) t v/\Nv nm d u r l' n' k' st s1
def zjF {lev:Nat}{xs:List PV}{st:Sto}{X:Res PV}(h:ze3 (wK lev) xs st=X):wK (lev+1) xs st=X:=h
def tSs (nm:Nat->Str) (zs:List Str) (n m:Nat):List Tr:=(List.range m).map fun i=>tS nm (zsi nm zs n i) (n+i)
def zjG {nm:Nat->Str}{c:Nat}(M:Nm c nm) (mr:List PV->Mo PV) (b:Nat) (l:List Int) (zs:List Str) (n k:Nat) (hz0:0<zs.length) (hz:∀z∈zs,z.length<=1000) (hzl:zs.length+k<=900) (hn:n+k<=800) (m:Nat) (em:m=min k (rn l 4)) {d u r sc:Nat}{st:Sto}{R:List Nat}(dc:Dc d l st) (h1:d≠u) (h2:d≠r) (h3:u≠r) (hu:st[u]?=some (.lst (names nm n))) (hr:st[r]?=some (.lst (List.replicate k (.int 0)))) (hs:st[sc]?=some (.lst (zs.map PV.str))) :
  ∃s z7 z8,Tv nm R d u r (st.length+1) st.length st l.tail (zsi nm zs n m) (n+m) (k-m) (tSs nm zs n m) s/\∀X,zix mr [sR d,sI c,sR u,some (.ref (st.length+1)),sI b,sR r,sR st.length,z7,z8,none,none] s=X->ziy mr [sR d,sI c,sR u,sR sc,sI b,sR r,none,none,none,none,none] st=X:=by
 have hm4:=yW (m:=4) (by decide) l
 let a0:=st++[SO.lst []]
 let a1:=a0++[SO.lst (zs.map PV.str)]
 have l0:a0.length=st.length+1:=by simp [a0]
 have o0:Old st a0:=yc _ _
 have o1:Old st a1:=o0.trans (yc _ _)
 have LS:jY [.ref sc] a0=.ok (.ref (st.length+1)) a1:=by rw [zc3 (o0 _ _ hs),l0]
 have dl:d<st.length:=zM dc
 have ul:u<st.length:=zM hu
 have rl:r<st.length:=zM hr
 have LN:=j9 (o1 _ _ hr)
 rw [List.length_replicate] at LN
 obtain ⟨s2,e2,x2⟩:=yu (o1 _ _ dc:Dc d l a1) 4 (by decide)
 have MN:zcF [.int (k:Int),.int (rn l 4:Int)] s2=.ok (.int (m:Int)) s2:=by
  show Res.ok (PV.int (if (rn l 4:Int)<(k:Int) then (rn l 4:Int) else (k:Int))) s2=_
  split
  ·congr 2;omega
  ·congr 2;omega
 have I0:Tv nm R d u r (st.length+1) st.length st l.tail zs n k [] s2:=⟨⟨fun q so q1 q2 q3 e=>x2.ob q so q1 (o1 q so e),x2.dc,x2.ob _ _ (yJ h1) (o1 _ _ hu),x2.ob _ _ (yJ h2) (o1 _ _ hr)⟩,x2.ob _ _ (by omega) (by rw [<-l0];exact yi _ _),[],x2.ob _ _ (by omega) (yc _ _ _ _ (yi _ _)),rfl⟩
 obtain ⟨e',s3,F,⟨z7,z8,he⟩,I3⟩:=zad (gt:=gN 7) (body:=bV) (fs:=(zc (zp zcF (zc (zp yE (zc (zd 5) zh)) (zc (zp yz (zc (zd 0) (zc (mC (.int 4)) zh))) zh))) zh)) (e:=[sR d,sI c,sR u,some (.ref (st.length+1)),sI b,sR r,sR st.length,none,none,none,none]) (st:=a1) (fun i e s=>(∃z7 z8,e=[sR d,sI c,sR u,some (.ref (st.length+1)),sI b,sR r,sR st.length,z7,z8,none,none])/\Tv nm R d u r (st.length+1) st.length st l.tail (zsi nm zs n i) (n+i) (k-i) (tSs nm zs n i) s) m (by omega) (zB (zt (zy (zt (zB (ze rfl)) LN) (zt (zy (ze rfl) rfl) e2)) MN)) (fun i e s hi ⟨⟨z7,z8,he⟩,I⟩=>by
  subst he
  have ek:k-i=(k-(i+1))+1:=by omega
  rw [ek] at I
  obtain ⟨s',e',I'⟩:=zrH (b:=b) (i:=i) M (zc2 M hz (by omega)) (by simp [zsi];omega) (by simp [zsi];omega) (by omega) (by simp [tSs];omega) dl ul rl h1 h2 h3 (by omega) (yf _) (by omega) I z8 none none
  refine ⟨[sR d,sI c,sR u,some (.ref (st.length+1)),sI b,sR r,sR st.length,sI i,z8,none,none],_,s',rfl,e',⟨_,_,rfl⟩,?_⟩
  have ez:zsi nm zs n (i+1)=zsi nm zs n i++[nm (n+i)]:=by simp [zsi,jI]
  have et:tSs nm zs n (i+1)=tSs nm zs n i++[tS nm (zsi nm zs n i) (n+i)]:=by simp [tSs,jI]
  rw [ez,et]
  exact I') ⟨⟨none,none,rfl⟩,by simpa [zsi,tSs] using I0⟩
 subst he
 exact ⟨s3,z7,z8,I3,fun X h=>zq (zG (jp jD (by simp))) (zq (zG (zt (zB (ze rfl)) LS)) (zq F h))⟩
def zjH {nm:Nat->Str}{c:Nat}(M:Nm c nm):∀(lev b:Nat) (l:List Int) (zs:List Str) (n k:Nat),b<lev->0<zs.length->(∀z∈zs,z.length<=1000)->zs.length+k<=900->n+k<=800 ->
  ∃t ls dd l' n' k',Blk 1 t ls dd/\dd<=b/\n'+k'=n+k/\n<=n'/\ls.length+1=(n'-n)+2 ^ (b+1)/\BDraw nm c lev b zs l l' n n' k k' t:=by
 intro lev
 induction lev with
 | zero=>intro b l zs n k h;omega
 | succ lev ih =>
  intro b l zs n k hb hz0 hz hzl hn
  obtain ⟨m,em⟩:∃m,m=min k (rn l 4):=⟨_,rfl⟩
  have hz1:=zc2 (i:=m) M hz (n:=n) (by omega)
  have zl:(zsi nm zs n m).length=zs.length+m:=by simp [zsi]
  have hS:∀t∈tSs nm zs n m,Stp 1 t:=fun t ht=>by
   obtain ⟨i,hi,rfl⟩:=j4.mp ht
   have:=zaZ.mp hi
   exact zrG (by omega)
  have tl:(tSs nm zs n m).length=m:=by simp [tSs]
  cases b with
  | zero =>
   refine ⟨_,_,_,l.tail,n+m,k-m,.leaf _ (.row [.word "give", .row [.word "of", .word (lz (zsi nm zs n m))]]) hS (.give _ (.of _)),yf _,by omega,by omega,by rw [jG,tl];simp,fun d u r sc st R dc h1 h2 h3 hu hr hs hR=>?_⟩
   obtain ⟨s,z7,z8,I,G⟩:=zjG M (wK lev) 0 l zs n k hz0 hz hzl hn m em (R:=R) dc h1 h2 h3 hu hr hs
   obtain ⟨ys,hy,tr⟩:=I.st
   have tu:yL [.ref st.length] s=.ok (.tup ys) s:=by rw [jo,yb hy]
   exact ⟨_,s,zjF (ya rfl (G _ (yK (yx (zE (zm (ze rfl) rfl (eqT' true (by simp) _))) (zW (zK (zy (zt (zB (ze rfl)) tu) (zK (zy rfl (zK (zy rfl (zm (ze rfl) (zaa rfl rfl) (zjE (by omega) I.scp))) (by simp))) (by simp))) (by simp))))))),TR.two ⟨ys,rfl,tr⟩ (TR.two (TR.str (by decide +kernel)) (TR.two (TR.str (by decide +kernel)) (TR.str (zjD (by omega) hz1)))),I.nv⟩
  | succ b =>
   obtain ⟨t1,ls1,d1,l4,n4,k4,B1,q1,q2,q3,q4,D1⟩:=ih b l.tail (zsi nm zs n m) (n+m) (k-m) (by omega) (by omega) hz1 (by omega) (by omega)
   obtain ⟨t2,ls2,d2,l5,n5,k5,B2,p1,p2,p3,p4,D2⟩:=ih b l4 (zsi nm zs n m) n4 k4 (by omega) (by omega) hz1 (by omega) (by omega)
   obtain ⟨z0,ez0⟩:∃z0,(zsi nm zs n m)[0]?=some z0:=⟨_,zU (by omega)⟩
   refine ⟨_,_,_,l5,n5,k5,.node _ (.row [.word "of", .word z0]) t1 t2 ls1 ls2 d1 d2 hS (.of _) B1 B2,by omega,by omega,by omega,?_,fun d u r sc st R dc h1 h2 h3 hu hr hs hR=>?_⟩
   ·have:2 ^ (b+1+1)=2 ^ (b+1)+2 ^ (b+1):=by rw [Nat.pow_succ 2 (b+1)];omega
    simp only [jG,zbp,tl]
    omega
   obtain ⟨s,z7,z8,I,G⟩:=zjG M (wK lev) (b+1) l zs n k hz0 hz hzl hn m em (R:=R) dc h1 h2 h3 hu hr hs
   have dl:d<st.length:=zM dc
   have ul:u<st.length:=zM hu
   have rl:r<st.length:=zM hr
   obtain ⟨ys,hy,tr⟩:=I.st
   obtain ⟨v1,s1,e1,tv1,N1⟩:=D1 d u r (st.length+1) s R I.nv.dc h1 h2 h3 I.nv.us I.nv.rm I.scp (fun x hx=>I.nv.lt (hR x hx))
   have sc1:=N1.ob _ _ (by omega) (by omega) (by omega) I.scp
   have hy1:=N1.ob _ _ (by omega) (by omega) (by omega) hy
   obtain ⟨v2,s2,e2,tv2,N2⟩:=D2 d u r (st.length+1) s1 R N1.dc h1 h2 h3 N1.us N1.rm sc1 (fun x hx=>N1.lt (I.nv.lt (hR x hx)))
   have sc2:=N2.ob _ _ (by omega) (by omega) (by omega) sc1
   have hy2:=N2.ob _ _ (by omega) (by omega) (by omega) hy1
   have D12:=N2.vw (R:=R) N1.dc N1.us N1.rm
   have D01:=N1.vw (R:=R) I.nv.dc I.nv.us I.nv.rm
   have tu:yL [.ref st.length] s2=.ok (.tup ys) s2:=by rw [jo,yb hy2]
   have i0:zw (.ref (st.length+1)) (.int 0) s2=.ok (.str z0) s2:=by
    rw [wo,yb sc2]
    have:=atI_get (l:=(zsi nm zs n m).map PV.str) (k:=0) (x:=.str z0) (by rw [jk,ez0];rfl)
    exact (congrArg (fun z=>optR z s2) this).trans rfl
   have db:(((b+1:Nat):Int))-1=(b:Int):=by omega
   have six:∀{s':Sto} {z9 z10:Option PV},(zp (wK lev) (zc (zd 0) (zc (zd 1) (zc (zd 2) (zc (zd 3) (zc (zj jd (zd 4) (mC (.int 1))) (zc (zd 5) zh))))))) [sR d,sI c,sR u,some (.ref (st.length+1)),some (.int ((b+1:Nat):Int)),sR r,sR st.length,z7,z8,z9,z10] s'=wK lev [.ref d,.int (c:Int),.ref u,.ref (st.length+1),.int (b:Int),.ref r] s':=fun {s'} {z9} {z10}=>zt (y9 (ze rfl) (y9 (ze rfl) (y9 (ze rfl) (y9 (ze rfl) (zy (zm (ze rfl) rfl ((wz _ _).trans (by rw [db]))) (ze rfl)))))) rfl
   refine ⟨.tup [.tup ys,.tup [.str "if", .tup [.str "of", .str z0],v1,v2]],s2,zjF (ya rfl (G _ (zq (zQ (zE (zm (ze rfl) rfl (eqT' false (by simp;omega) _)))) (zq (zG (six.trans e1)) (zq (zG (six.trans e2)) (zW (zK (zy (zt (zB (ze rfl)) tu) (zK (wB rfl (zK (zy rfl (zm (ze rfl) rfl i0)) (by simp)) (ze rfl) (ze rfl)) (by simp))) (by simp)))))))),?_,I.nv.trans (N1.trans N2)⟩
   exact TR.two ⟨ys,rfl,TRs.mono D12 _ (TRs.mono D01 _ tr)⟩ (TR.four (TR.str (by decide +kernel)) (TR.two (TR.str (by decide +kernel)) (TR.str (hz1 _ (j3 ez0)))) (TR.mono D12 _ tv1) tv2)
def zrI (n:Nat) (x:PV):(List.replicate n [x]).flatten=List.replicate n x:=by
 induction n with
 | zero=>rfl
 | succ n ih=>rw [List.replicate_succ,List.flatten_cons,ih,List.replicate_succ];rfl
def zrJ {nm:Nat->Str}{n:Nat}(h:0<n):cutP (names nm n) none (some 1)=[.str (nm 0)]:=by
 obtain ⟨j,rfl⟩:∃j,n=j+1:=⟨n-1,by omega⟩
 unfold cutP names
 rw [List.range_succ_eq_map]
 simp [HT.sIx]
def zfJ {nm:Nat->Str}{n i:Nat}{s:Sto}{u:Nat}(h:s[u]?=some (.lst (names nm n))) (hi:i<n):zw (.ref u) (.int (i:Int)) s=.ok (.str (nm i)) s:=by
 rw [wo,yb h,atI_get (x:=PV.str (nm i)) (by simp [names,hi])]
 rfl
def zrK {nm:Nat->Str}{n:Nat}{s:Sto}{u:Nat}(h:s[u]?=some (.lst (names nm n))) (hn:0<n):zw (.ref u) (.int (-1)) s=.ok (.str (nm (n-1))) s:=by
 rw [wo,yb h,atI_last (x:=PV.str (nm (n-1))) (by rw [show (names nm n).length=n by simp [names]];simp only [names,jk,List.getElem?_range (show n-1<n by omega)];rfl)]
 rfl
abbrev bT:zk->Mo Fl:=(zu (zC 9 (zp yN (zc (zd 2) (zc (zp yE (zc (zd 3) zh)) zh))))
  (zu (yH (yC yM (zd 7) (zA (zc (mC (.str "let")) (zc (zd 9) (zc (mC (.str "less")) (zc (zA (zc (zA (zc (mC (.str "is")) (zc (zd 8) zh))) (zc (zA (zc (mC (.str "of")) (zc (zj zw (zd 3) (mC (.int 0))) zh))) zh))) zh)))))))
  (yH (yC yM (zd 3) (zd 9)))))
def zrL (most:Nat) (hmo:most=59\/most=60) (l:List Int):∃fs zs l',Prg fs zs/\Draws ze5 [.int (most:Int)] l l' (.row fs):=by
 have hc:=yW (m:=1000000007) (by decide) l
 generalize ec:rn l 1000000007=c at hc
 obtain ⟨nm,M⟩:=zaU c (by omega)
 have n0:(nm 0).length<=1000:=M.len 0 (by decide)
 obtain ⟨t1,ls1,d1,l4,n4,k4,B1,q1,q2,q3,q4,D1⟩:=zjH M 6 3 l.tail [nm 0] 1 (most-31) (by decide) (by simp) (fun z hz=>by rw [jw.mp hz];exact n0) (by simp;omega) (by omega)
 obtain ⟨t2,ls2,d2,l5,n5,k5,B2,p1,p2,p3,p4,D2⟩:=zjH M 6 3 l4 [nm 0] n4 k4 (by decide) (by simp) (fun z hz=>by rw [jw.mp hz];exact n0) (by simp;omega) (by omega)
 let G:Nat->Tr:=fun i=>.row [.word "let", .word (nm (n5+i)),.word "less", .row [.row [.word "is", .num (i:Int)],.row [.word "of", .word (nm 0)]]]
 obtain ⟨za,hza,ea⟩:∃za:Str,za.length<=1000/\za=if 0<k5 then nm (n5+k5-1) else nm 0:=⟨_,by split;exact M.len _ (by omega);exact n0,rfl⟩
 refine ⟨[.row [.word (nm 90),.row [.word (nm 0)],.row [.row ((List.range k5).map G),.row [.word "if", .row [.word "of", .word za],t1,t2]]]],[nm 90],l5,zd1 ⟨_,_,_,⟨[nm 0],rfl,by simp⟩,⟨1,.node _ _ _ _ _ _ _ _ (fun s hs=>?_) (.of _) B1 B2,by omega⟩,by omega,by simp only [jG,zbp,jq,zaY];omega⟩,fun d st R dc hR=>?_⟩
 ·obtain ⟨i,hi,rfl⟩:=j4.mp hs
  have:=zaZ.mp hi
  refine .let_ _ _ _ (fun a ha=>?_) (by simp)
  rcases yQ.mp ha with q|q
  ·rw [q];exact .is _ ⟨by omega,by omega⟩ (by simp [dp]) (by simp [sz])
  ·rw [jw.mp q];exact .of _
 obtain ⟨s1,e1,x1⟩:=yu dc 1000000007 (by decide)
 rw [ec] at e1
 obtain ⟨s2,e2,o2⟩:=M.at_ 0 (by decide) s1
 let s3:=s2++[SO.lst [.str (nm 0)]]
 let s4:=s3++[SO.lst [.int 0]]
 let s5:=s4++[SO.lst (List.replicate (most-31) (.int 0))]
 have am:(most:Int)-31=((most-31:Nat):Int):=by omega
 have ML:zeL (.ref s3.length) (.int ((most-31:Nat):Int)) s4=.ok (.ref s4.length) s5:=by
  show yo s4 s3.length _=_
  rw [yb (yi _ _)]
  rw [zH ⟨by omega,by omega,by simp⟩,Int.toNat_natCast,zrI]
 have l3:s3.length=s2.length+1:=by simp [s3]
 have l4':s4.length=s2.length+2:=by simp [s4,s3]
 have l5':s5.length=s2.length+3:=by simp [s5,s4,s3]
 have dl2:=zM (o2 _ _ x1.dc)
 have o5:Old s1 s5:=o2.trans ((yc _ _).trans ((yc _ _).trans (yc _ _)))
 have us5:s5[s2.length]?=some (.lst (names nm 1)):=yc _ _ _ _ (yc _ _ _ _ (yi _ _))
 have rm5:s5[s4.length]?=some (.lst (List.replicate (most-31) (.int 0))):=yi _ _
 let s6:=s5++[SO.lst [.str (nm 0)]]
 have SL:∀{n:Nat} {s:Sto},s[s2.length]?=some (.lst (names nm n))->0<n->oSl (.ref s2.length) none (some 1) s=.ok (.ref s.length) (s++[.lst [.str (nm 0)]]):=fun h hn=>by
  rw [zoH,yb h,zrJ hn]
 have o6:Old s5 s6:=yc _ _
 have x6:Nx d l.tail s1 s6:=Nx.of x1.dc (o5.trans o6)
 obtain ⟨v1,s7,e7,tv1,N7⟩:=D1 d s2.length s4.length s5.length s6 R x6.dc (by omega) (by omega) (by omega) (o6 _ _ us5) (o6 _ _ rm5) (yi _ _) (fun r hr=>x6.lt (x1.lt (hR r hr)))
 let s8:=s7++[SO.lst [.str (nm 0)]]
 have o8:Old s7 s8:=yc _ _
 have dc8:Dc d l4 s8:=o8 _ _ N7.dc
 have lt8:∀r∈R,r<s8.length:=fun r hr=>by have:=N7.lt (x6.lt (x1.lt (hR r hr)));simp [s8];omega
 obtain ⟨v2,s9,e9,tv2,N9⟩:=D2 d s2.length s4.length s7.length s8 R dc8 (by omega) (by omega) (by omega) (o8 _ _ N7.us) (o8 _ _ N7.rm) (yi _ _) lt8
 have D79:Dk (vw R s7) (vw R s9):=fun n ks xs e=>N9.vw dc8 (o8 _ _ N7.us) (o8 _ _ N7.rm) _ _ _ (jX o8 _ _ _ e)
 have us9:=N9.us
 let s10:=s9++[SO.lst []]
 have o10:Old s9 s10:=yc _ _
 have ul9:=zM us9
 have rl9:=zM N9.rm
 have dl9:=zM N9.dc
 have LN:=j9 (o10 _ _ N9.rm)
 rw [List.length_replicate] at LN
 obtain ⟨e',s11,F,⟨z8,z9,he⟩,ob,us11,ys,hy,tr⟩:=zad (gt:=gN 8) (body:=bT) (fs:=(zc (zp yE (zc (zd 4) zh)) zh)) (e:=[sR d,sI most,sI c,sR s2.length,sR s4.length,some v1,some v2,sR s9.length,none,none,none]) (st:=s10) (fun i e s=>(∃z8 z9,e=[sR d,sI most,sI c,sR s2.length,sR s4.length,some v1,some v2,sR s9.length,z8,z9,none])/\(∀(m:Nat) so,m≠s2.length->m≠s9.length->s10[m]?=some so->s[m]?=some so)/\s[s2.length]?=some (.lst (names nm (n5+i)))/\∃ys,s[s9.length]?=some (.lst ys)/\TRs (vw R s) ((List.range i).map G) ys) k5 (by omega) (zB (zt (zB (ze rfl)) LN)) (fun i e s hi ⟨⟨z8,z9,he⟩,ob,us,ys,hy,tr⟩=>by
  subst he
  have yl:=tr.len
  simp at yl
  have ul:=j9 us
  rw [show (names nm (n5+i)).length=n5+i by simp [names]] at ul
  obtain ⟨t1,f1,g1⟩:=M.at_ (n5+i) (by omega) s
  have A1:=wO (y:=.tup [.str "let", .str (nm (n5+i)),.str "less", .tup [.tup [.str "is", .int (i:Int)],.tup [.str "of", .str (nm 0)]]]) (g1 _ _ hy) (by omega)
  have us2:(t1.set s9.length (.lst (ys++[.tup [.str "let", .str (nm (n5+i)),.str "less", .tup [.tup [.str "is", .int (i:Int)],.tup [.str "of", .str (nm 0)]]]])))[s2.length]?=some (.lst (names nm (n5+i))):=by rw [yh (by omega)];exact g1 _ _ us
  have A2:=wO (y:=.str (nm (n5+i))) us2 (by simp [names];omega)
  refine ⟨[sR d,sI most,sI c,sR s2.length,sR s4.length,some v1,some v2,sR s9.length,sI i,z9,none],_,_,rfl,zq (zG (zt (zy (ze rfl) (zt (zB (ze rfl)) ul)) f1)) (zq (jU (jV (ze rfl) (g1 _ _ hy) (zK (wB rfl (ze rfl) rfl (zK (zy (zK (zy rfl (ze rfl)) (by simp)) (zK (zy rfl (zm (ze rfl) rfl (zfJ (i:=0) (g1 _ _ us) (by omega)))) (by simp))) (by simp))) (by simp)) A1)) (jU (jV (ze rfl) us2 (ze rfl) A2))),⟨_,_,rfl⟩,fun m so q1 q2 e=>?_,?_,ys++[.tup [.str "let", .str (nm (n5+i)),.str "less", .tup [.tup [.str "is", .int (i:Int)],.tup [.str "of", .str (nm 0)]]]],?_,?_⟩
  ·rw [yh (yJ q1),yh (yJ q2)]
   exact g1 m so (ob m so q1 q2 e)
  ·rw [yZ (zM us2)]
   simp [names,jI,<-Nat.add_assoc]
  ·rw [yh (by omega),yZ (zM (g1 _ _ hy))]
  ·rw [jI,jz]
   refine TRs.mono (wU us2 _) _ (TRs.mono (wU (g1 _ _ hy) _) _ ((TRs.mono (jX g1) _ tr).append ?_))
   exact ⟨_,[],rfl,TR.row4 (by decide +kernel) (M.len _ (by omega)) (by decide +kernel) (TR.two (TR.two (TR.str (by decide +kernel)) rfl) (TR.two (TR.str (by decide +kernel)) (TR.str n0))),rfl⟩) ⟨⟨none,none,rfl⟩,(fun _ _ _ _ e=>e),o10 _ _ us9,[],yi _ _,rfl⟩
 subst he
 have yl:=tr.len
 simp at yl
 have D9:Dk (vw R s9) (vw R s11):=zbk fun m ks xs hm e=>⟨hm,ob m _ (fun q=>by rw [q,us9] at e;cases e) (by have:=zM e;omega) (o10 _ _ e)⟩
 let s12:=s11++[SO.lst [.str (nm 0),.str (nm (n5+k5-1))]]
 have o12:Old s11 s12:=yc _ _
 have LY:=j9 (o12 _ _ hy)
 have IX:zw (.ref s11.length) (.int (if decide ((0:Int)<(ys.length:Int)) then 1 else 0)) s12=.ok (.str za) s12:=by
  rw [wo,yb (yi _ _),ea]
  by_cases hk:0<k5
  ·rw [zH hk,zbN (by omega)];rfl
  ·rw [zX hk,wu (by omega)];rfl
 obtain ⟨s13,e13,o13⟩:=M.at_ 90 (by decide) s12
 have oo:=o12.trans o13
 have tu:yL [.ref s9.length] s13=.ok (.tup ys) s13:=by rw [jo,yb (oo _ _ hy)]
 have tD:Dk (vw R s9) (vw R s13):=fun n ks xs e=>jX oo _ _ _ (D9 _ _ _ e)
 have c1:(zp (wK 6) (zc (zd 0) (zc (zd 2) (zc (zd 3) (zc (wP (zd 3) pNone (pSome (mC (.int 1)))) (zc (mC (.int 3)) (zc (zd 4) zh))))))) [sR d,sI most,sI c,sR s2.length,sR s4.length,none,none,none,none,none,none] s5=.ok v1 s7:=zt (y9 (ze rfl) (y9 (ze rfl) (y9 (ze rfl) (y9 (zb5 (ze rfl) zb6 (zbc rfl) (SL us5 (by decide))) (zy rfl (ze rfl)))))) e7
 have c2:(zp (wK 6) (zc (zd 0) (zc (zd 2) (zc (zd 3) (zc (wP (zd 3) pNone (pSome (mC (.int 1)))) (zc (mC (.int 3)) (zc (zd 4) zh))))))) [sR d,sI most,sI c,sR s2.length,sR s4.length,some v1,none,none,none,none,none] s7=.ok v2 s9:=zt (y9 (ze rfl) (y9 (ze rfl) (y9 (ze rfl) (y9 (zb5 (ze rfl) zb6 (zbc rfl) (SL N7.us (by omega))) (zy rfl (ze rfl)))))) e9
 refine ⟨.tup [.tup [.str (nm 90),.tup [.str (nm 0)],.tup [.tup ys,.tup [.str "if", .tup [.str "of", .str za],v1,v2]]]],s13,ya rfl (zq (zG (zt (zy (ze rfl) rfl) e1)) (zq (zG (jp (zB (zt (zy (ze rfl) rfl) e2)) (by simp))) (zq (zG (zm (jp (zB rfl) (by simp)) (zm (ze rfl) rfl ((wz _ _).trans (by rw [am]))) ML)) (zq (zG c1) (zq (zG c2) (zq (zG (jp jD (by simp))) (zq F (zq (zG (zK (zy rfl (zm (jp (zy (zm (ze rfl) rfl (zfJ (i:=0) us11 (by omega))) (zm (ze rfl) (zaa rfl rfl) (zrK us11 (by omega)))) (by simp)) (zt (zB (zm (zt (zB (ze rfl)) LY) rfl (zhU _ _))) rfl) IX)) (by simp))) (zW (zK (zB (zK (wN (zt (zy (ze rfl) rfl) e13) (zK (zB (zm (ze rfl) rfl (zfJ (i:=0) (oo _ _ us11) (by omega)))) (by simp)) (zK (zy (zt (zB (ze rfl)) tu) (zK (wB rfl (ze rfl) (ze rfl) (ze rfl)) (by simp))) (by simp))) (by simp))) (by simp))))))))))),?_,?_⟩
 ·exact TR.one1 (TR.three (TR.str (M.len 90 (by decide))) (TR.one1 (TR.str n0)) (TR.two ⟨ys,rfl,TRs.mono (jX oo) _ tr⟩ (TR.four (TR.str (by decide +kernel)) (TR.two (TR.str (by decide +kernel)) (TR.str hza)) (TR.mono tD _ (TR.mono D79 _ tv1)) (TR.mono tD _ tv2))))
 ·have sl:st.length<=s2.length:=by
   have a:=zM dc
   have:=x1.lt (n:=st.length-1) (by omega)
   have:=zM (o2 _ _ (zU this))
   omega
  refine ⟨fun k so k1 e=>?_,?_⟩
  ·have kl:=zM e
   have w1:=o6 _ _ (o5 _ _ (x1.ob k so k1 e))
   have w2:=o8 _ _ (N7.ob k so k1 (by omega) (by omega) w1)
   have w3:=N9.ob k so k1 (by omega) (by omega) w2
   exact oo _ _ (ob k so (by omega) (by have:=zM w3;omega) (o10 _ _ w3))
  ·exact oo _ _ (ob d _ (by omega) (by omega) (o10 _ _ N9.dc))
def zrM (l:List Int):∃fs zs l',Prg fs zs/\Draws zcS [] l l' (.row fs):=by
 have hw:=yW (m:=12) (by decide) l
 have key:(∃fs zs l',Prg fs zs/\∀d s1 R,Dc d l.tail s1->(∀r∈R,r<s1.length)->∃v s2,zff [sR d,some (.int (rn l 12:Int))] s1=.ok (.rt v) s2/\TR (vw R s2) (.row fs) v/\Nx d l' s1 s2)->∃fs zs l',Prg fs zs/\Draws zcS [] l l' (.row fs):=fun ⟨fs,zs,l',P,D⟩=>⟨fs,zs,l',P,fun d st R dc hR=>by
  obtain ⟨s1,e1,x1⟩:=yu dc 12 (by decide)
  obtain ⟨v,s2,e2,tv,x2⟩:=D d s1 R x1.dc (fun r hr=>x1.lt (hR r hr))
  exact ⟨v,s2,ya rfl (zq (zG (zt (zy (ze rfl) rfl) e1)) e2),tv,x1.trans x2⟩⟩
 apply key
 by_cases c1:rn l 12=1
 ·obtain ⟨fs,zs,l',P,D⟩:=zrt l.tail
  refine ⟨fs,zs,l',P,fun d s R dc hR=>?_⟩
  obtain ⟨v,s2,e2,tv,x2⟩:=D d s R dc hR
  exact ⟨v,s2,yK (yx (zE (zm (ze rfl) rfl (eqT' true (by simp;omega) _))) (zW (zt (zB (ze rfl)) e2))),tv,x2⟩
 by_cases c2:rn l 12=2
 ·obtain ⟨fs,zs,l',P,D⟩:=zru l.tail
  refine ⟨fs,zs,l',P,fun d s R dc hR=>?_⟩
  obtain ⟨v,s2,e2,tv,x2⟩:=D d s R dc hR
  exact ⟨v,s2,zq (zQ (zE (zm (ze rfl) rfl (eqT' false (by simp;omega) _)))) (yK (yx (zE (zm (ze rfl) rfl (eqT' true (by simp;omega) _))) (zW (zt (zB (ze rfl)) e2)))),tv,x2⟩
 by_cases c3:rn l 12=3
 ·obtain ⟨fs,zs,l',P,D⟩:=zrs l.tail
  refine ⟨fs,zs,l',P,fun d s R dc hR=>?_⟩
  obtain ⟨v,s2,e2,tv,x2⟩:=D d s R dc hR
  exact ⟨v,s2,zq (zQ (zE (zm (ze rfl) rfl (eqT' false (by simp;omega) _)))) (zq (zQ (zE (zm (ze rfl) rfl (eqT' false (by simp;omega) _)))) (yK (yx (zE (zm (ze rfl) rfl (eqT' true (by simp;omega) _))) (zW (zt (zB (ze rfl)) e2))))),tv,x2⟩
 by_cases c4:rn l 12=4
 ·obtain ⟨fs,zs,l',P,D⟩:=zrE l.tail
  refine ⟨fs,zs,l',P,fun d s R dc hR=>?_⟩
  obtain ⟨v,s2,e2,tv,x2⟩:=D d s R dc hR
  exact ⟨v,s2,zq (zQ (zE (zm (ze rfl) rfl (eqT' false (by simp;omega) _)))) (zq (zQ (zE (zm (ze rfl) rfl (eqT' false (by simp;omega) _)))) (zq (zQ (zE (zm (ze rfl) rfl (eqT' false (by simp;omega) _)))) (yK (yx (zE (zm (ze rfl) rfl (eqT' true (by simp;omega) _))) (zW (zt (zB (ze rfl)) e2)))))),tv,x2⟩
 have sk:∀{d:Nat} {s:Sto} {X:Res Fl},ziI [sR d,some (.int (rn l 12:Int))] s=X->zff [sR d,some (.int (rn l 12:Int))] s=X:=fun h=>zq (zQ (zE (zm (ze rfl) rfl (eqT' false (by simp;omega) _)))) (zq (zQ (zE (zm (ze rfl) rfl (eqT' false (by simp;omega) _)))) (zq (zQ (zE (zm (ze rfl) rfl (eqT' false (by simp;omega) _)))) (zq (zQ (zE (zm (ze rfl) rfl (eqT' false (by simp;omega) _)))) h)))
 by_cases c5:rn l 12=5\/rn l 12=6
 ·obtain ⟨fs,zs,l',P,D⟩:=zrL (54+rn l 12) (by omega) l.tail
  refine ⟨fs,zs,l',P,fun d s R dc hR=>?_⟩
  obtain ⟨v,s2,e2,tv,x2⟩:=D d s R dc hR
  refine ⟨v,s2,sk (yK (yx ?_ (zW (zt (zy (ze rfl) (zm rfl (ze rfl) (jP 54 _))) e2)))),tv,x2⟩
  rcases c5 with c|c
  ·exact zcN (zE (zm (ze rfl) rfl (eqT' true (by simp;omega) _)))
  ·exact jO (zE (zm (ze rfl) rfl (eqT' false (by simp;omega) _))) (zE (zm (ze rfl) rfl (eqT' true (by simp;omega) _)))
 ·obtain ⟨fs,zs,l',P,D⟩:=zrp l.tail
  refine ⟨fs,zs,l',P,fun d s R dc hR=>?_⟩
  obtain ⟨v,s2,e2,tv,x2⟩:=D d s R dc hR
  exact ⟨v,s2,sk (zq (zQ (jO (zE (zm (ze rfl) rfl (eqT' false (by simp;omega) _))) (zE (zm (ze rfl) rfl (eqT' false (by simp;omega) _))))) (zW (zt (zB (ze rfl)) e2))),tv,x2⟩
abbrev tL:zk->Mo Bool:=(mB (zj j5 (zp yE (zc (zd 3) zh)) (mC (.int 0))))
abbrev iL:zk->Mo Fl:=(yd (mB (zj ye (zj zw (zj zw (zd 0) (mC (.int 1))) (mC (.int 0))) (mC (.str "if"))))
  (zu (yH (yC yM (zd 3) (zA (zc (zj zw (zj zw (zd 0) (mC (.int 1))) (mC (.int 3))) (zc (zj zZ (zd 4) (mC (.int 1))) zh)))))
  (yH (yC yM (zd 3) (zA (zc (zj zw (zj zw (zd 0) (mC (.int 1))) (mC (.int 2))) (zc (zj zZ (zd 4) (mC (.int 1))) zh))))))
  yg)
abbrev bLn:zk->Mo Fl:=(zu (sTo (g2 0 4) (ju zby (zd 3)))
  (zu (zC 2 (zp zaR (zc (zd 2) (zc (zd 4) zh))))
  (zu (zC 1 (zj zZ (zj zZ (zd 1) (zp jY (zc (zj zw (zd 0) (mC (.int 0))) zh))) (y8 (zc (zj zw (zd 0) (mC (.int 1))) zh))))
  iL)))
def zrN {s:Sto}{w:Nat}{W:List PV}{x:PV}(h:s[w]?=some (.lst (W++[x]))):zby (.ref w) s=.ok x (s.set w (.lst W)):=by
 show yo s w _=_
 rw [yb h]
 have e:(W++[x])[(W++[x]).length-1]?=some x:=by simp
 simp only [e,List.dropLast_concat]
def adL {s:Sto}{m n:Nat}{xs ys:List PV}(h:s[m]?=some (.lst xs)) (h':s[n]?=some (.lst ys)) (hl:xs.length+ys.length<=1000000):zZ (.ref m) (.ref n) s=.ok (.ref s.length) (s++[.lst (xs++ys)]):=by
 show yo s m _=_
 rw [yb h,yb h']
 exact zH (by simpa [lim] using hl)
def zrO {a b:Nat}{s:Sto}:zaR [.int (a:Int),.int (b:Int)] s=.ok (.int ((max a b:Nat):Int)) s:=by
 show Res.ok (PV.int (if (b:Int)>(a:Int) then (b:Int) else (a:Int))) s=_
 split
 ·congr 2;omega
 ·congr 2;omega
def zjI {s:Sto}{w r:Nat}{W rows ys:List PV}{ve:PV}{dm e:Nat}{x0 x4:Option PV}(hw:s[w]?=some (.lst (W++[.tup [.tup [.tup ys,ve],.int (e:Int)]]))) (hr:s[r]?=some (.lst rows)) (ne:r≠w) (hl:rows.length+ys.length+1<=1000000) :
  ∃s5 r',(∀X,iL [some (.tup [.tup ys,ve]),sR r',some (.int ((max dm e:Nat):Int)),sR w,sI e] s5=X->bLn [x0,sR r,sI dm,sR w,x4] s=X)/\s5[w]?=some (.lst W)/\s5[r']?=some (.lst (rows++ys++[ve]))/\(∀(m:Nat) so,m≠w->s[m]?=some so->s5[m]?=some so)/\w<r':=by
 let s1:=s.set w (SO.lst W)
 have hw1:s1[w]?=some (.lst W):=yZ (zM hw)
 have hr1:s1[r]?=some (.lst rows):=by rw [yh (yJ ne)];exact hr
 have wl:=zM hw1
 let s2:=s1++[SO.lst ys]
 let s3:=s2++[SO.lst (rows++ys)]
 let s4:=s3++[SO.lst [ve]]
 let s5:=s4++[SO.lst (rows++ys++[ve])]
 have o5:Old s1 s5:=(yc _ _).trans ((yc _ _).trans ((yc _ _).trans (yc _ _)))
 have A1:zZ (.ref r) (.ref s1.length) s2=.ok (.ref s2.length) s3:=adL (yc _ _ _ _ hr1) (yi _ _) (by omega)
 have A2:zZ (.ref s2.length) (.ref s3.length) s4=.ok (.ref s4.length) s5:=adL (yc _ _ _ _ (yi _ _)) (yi _ _) (by simp;omega)
 have l4:s4.length=s1.length+3:=by simp [s4,s3,s2]
 refine ⟨s5,s4.length,fun X h=>?_,o5 _ _ hw1,yi _ _,fun m so q e=>o5 _ _ (by rw [yh (yJ q)];exact e),by omega⟩
 exact zq (zc1 (zaa (ze rfl) (zrN hw))) (zq (zG (zt (zy (ze rfl) (ze rfl)) zrO)) (zq (zG (zm (zm (ze rfl) (zt (zB (zm (ze rfl) rfl jF)) zjo) A1) (jp (zB (zm (ze rfl) rfl ja)) (by simp)) A2)) h))
def zjJ {fuel:Nat}{e e':zk}{s s':Sto}(ht:tL e s=.ok true s) (h:bLn e s=.ok (.nx e') s'):whileF tL bLn (fuel+1) e s=whileF tL bLn fuel e' s':=by
 rw [zg6,ht,zP,zH rfl,h,zP]
def zjK {s:Sto}{w:Nat}{W:List PV}{x:PV}{x0 x1 x2 x4:Option PV}(h:s[w]?=some (.lst (W++[x]))):tL [x0,x1,x2,sR w,x4] s=.ok true s:=by
 have L:=j9 h
 exact zE (zm (zt (zB (ze rfl)) L) rfl (gtT true (by rw [za0];simp) _))
def zrP {a:Sto}{D:Nat}{b:Tr}{ls:List Tr}{dd:Nat}(B:Blk D b ls dd):∀{v:PV},TR a b v->∃ws nb,TRs a ls ws/\nb<=ls.length/\∀(fuel:Nat) (s:Sto) (w r:Nat) (W rows:List PV) (dm e:Nat) (x0 x4:Option PV),s[w]?=some (.lst (W++[.tup [v,.int (e:Int)]]))->s[r]?=some (.lst rows)->r≠w->W.length+dd<=1000->rows.length+ls.length<=100000->∃s' r' x0' x4',whileF tL bLn (fuel+nb) [x0,sR r,sI dm,sR w,x4] s=whileF tL bLn fuel [x0',sR r',some (.int ((max dm (e+dd):Nat):Int)),sR w,x4'] s'/\s'[w]?=some (.lst W)/\s'[r']?=some (.lst (rows++ws))/\(∀(m:Nat) so,m≠w->s[m]?=some so->s'[m]?=some so)/\w<r':=by
 induction B with
 | leaf ss en hS hE =>
  intro v tv
  obtain ⟨_,rfl,_,_,rfl,⟨ys,rfl,tr⟩,ve,_,rfl,te,rfl⟩:=tv
  obtain ⟨w0,r0,rfl,hw0⟩:=zfH hE te
  have yl:=tr.len
  refine ⟨ys++[.tup (.str w0::r0)],1,tr.append ⟨_,[],rfl,te,rfl⟩,by simp,fun fuel s w r W rows dm e x0 x4 hw hr ne hW hl=>?_⟩
  simp at hl
  obtain ⟨s5,r',G,g1,g2,g3,g4⟩:=zjI (dm:=dm) (x0:=x0) (x4:=x4) hw hr ne (by omega)
  refine ⟨s5,r',_,_,zjJ (zjK hw) (G _ (zQ (zE (zm (zm (zm (ze rfl) rfl ja) rfl jF) rfl (eqs _ _ false (by simpa using hw0) _))))),g1,by rw [<-zcg];exact g2,g3,g4⟩
 | node ss ta b1 b2 l1 l2 d1 d2 hS hA B1 B2 ih1 ih2 =>
  intro v tv
  obtain ⟨_,rfl,_,_,rfl,⟨ys,rfl,tr⟩,ve,_,rfl,te,rfl⟩:=tv
  have te':=te
  obtain ⟨_,rfl,_,_,rfl,⟨rfl,_⟩,va,_,rfl,tva,v1,_,rfl,t1,v2,_,rfl,t2,rfl⟩:=te
  have yl:=tr.len
  obtain ⟨w1,n1,r1,k1,F1⟩:=ih1 t1
  obtain ⟨w2,n2,r2,k2,F2⟩:=ih2 t2
  refine ⟨ys++[.tup [.str "if", va,v1,v2]]++w1++w2,n2+n1+1,((tr.append (us:=[.row [.word "if", ta,b1,b2]]) ⟨_,[],rfl,te',rfl⟩).append r1).append r2,by simp;omega,fun fuel s w r W rows dm e x0 x4 hw hr ne hW hl=>?_⟩
  simp at hl
  have wl1:=r1.len
  obtain ⟨s5,r',G,g1,g2,g3,g4⟩:=zjI (dm:=dm) (x0:=x0) (x4:=x4) hw hr ne (by omega)
  have A1:=wO (y:=.tup [v2,.int ((e+1:Nat):Int)]) g1 (by omega)
  let s6:=s5.set w (SO.lst (W++[.tup [v2,.int ((e+1:Nat):Int)]]))
  have h6:s6[w]?=some (.lst (W++[.tup [v2,.int ((e+1:Nat):Int)]])):=yZ (zM g1)
  have A2:=wO (y:=.tup [v1,.int ((e+1:Nat):Int)]) h6 (by simp;omega)
  let s7:=s6.set w (SO.lst (W++[.tup [v2,.int ((e+1:Nat):Int)]]++[.tup [v1,.int ((e+1:Nat):Int)]]))
  have h7:s7[w]?=some (.lst (W++[.tup [v2,.int ((e+1:Nat):Int)]]++[.tup [v1,.int ((e+1:Nat):Int)]])):=yZ (zM h6)
  have hr7:s7[r']?=some (.lst (rows++ys++[.tup [.str "if", va,v1,v2]])):=by rw [yh (by omega),yh (by omega)];exact g2
  have st:=zjJ (fuel:=fuel+n2+n1) (zjK hw) (G _ (yx (zE (zm (zm (zm (ze rfl) rfl ja) rfl jF) rfl (eqs _ _ true (by simp) _))) (zq (jU (jV (ze rfl) g1 (zK (zy (zm (zm (ze rfl) rfl ja) rfl ix3) (zm (ze rfl) rfl (jP e 1))) (by simp)) A1)) (jU (jV (ze rfl) h6 (zK (zy (zm (zm (ze rfl) rfl ja) rfl jZ) (zm (ze rfl) rfl (jP e 1))) (by simp)) A2)))))
  obtain ⟨s8,r8,y0,y4,E1,p1,p2,p3,p4⟩:=F1 (fuel+n2) s7 w r' _ _ (max dm e) (e+1) _ _ h7 hr7 (by omega) (by simp;omega) (by simp;omega)
  obtain ⟨s9,r9,z0,z4,E2,q1,q2,q3,q4⟩:=F2 fuel s8 w r8 W _ (max (max dm e) (e+1+d1)) (e+1) _ _ p1 p2 (by omega) (by omega) (by simp;omega)
  refine ⟨s9,r9,z0,z4,?_,q1,by rw [q2];simp,fun m so q h=>q3 m so q (p3 m so q (by rw [yh (yJ q),yh (yJ q)];exact g3 m so q h)),q4⟩
  have em:max (max (max dm e) (e+1+d1)) (e+1+d2)=max dm (e+(1+max d1 d2)):=by omega
  rw [em] at E2
  rw [show fuel+(n2+n1+1)=fuel+n2+n1+1 by omega]
  exact (st.trans E1).trans E2
def zfK {D:Nat}{b:Tr}{ls:List Tr}{dd:Nat}{v:PV}{st:Sto}(B:Blk D b ls dd) (hd:dd<=900) (hl:ls.length<=100000) (tv:TR st b v):∃ws r s1,zbE [v] st=.ok (.tup [.ref r,.int (dd:Int)]) s1/\s1[r]?=some (.lst ws)/\TRs st ls ws/\Old st s1/\st.length<r:=by
 obtain ⟨ws,nb,tr,hnb,F⟩:=zrP B tv
 let s0:=st++[SO.lst []]
 let s1:=s0++[SO.lst [.tup [v,.int 0]]]
 have l0:s0.length=st.length+1:=by simp [s0]
 have h1:s1[s0.length]?=some (.lst ([]++[.tup [v,.int ((0:Nat):Int)]])):=yi _ _
 have h2:s1[st.length]?=some (.lst []):=yc _ _ _ _ (yi _ _)
 have ln:lim=1000000:=rfl
 obtain ⟨s2,r2,y0,y4,E,p1,p2,p3,p4⟩:=F (lim-nb) s1 s0.length st.length [] [] 0 0 (some v) none h1 h2 (by omega) (by simp;omega) (by simp;omega)
 have e1:lim-nb+nb=lim:=by omega
 rw [e1] at E
 obtain ⟨f,hf⟩:∃f,lim-nb=f+1:=⟨lim-nb-1,by omega⟩
 have L:=j9 p1
 have em:max 0 (0+dd)=dd:=by omega
 rw [em] at E
 have T:tL [y0,sR r2,sI dd,sR s0.length,y4] s2=.ok false s2:=zE (zm (zt (zB (ze rfl)) L) rfl (gtT false (by simp) _))
 have E2:whileF tL bLn (lim-nb) [y0,sR r2,sI dd,sR s0.length,y4] s2=.ok (.nx [y0,sR r2,sI dd,sR s0.length,y4]) s2:=by
  rw [hf,zg6,T,zP,zX (by simp)]
 refine ⟨ws,r2,s2,ya rfl (zq (zG (jp jD (by simp))) (zq (zG rfl) (zq (zG (jp (zB (zK (zy (ze rfl) rfl) (by simp))) (by simp))) (zq (E.trans E2) (zW (zK (zy (ze rfl) (ze rfl)) (by simp))))))),p2,tr,fun m so e=>p3 m so (by have:=zM e;omega) (yc _ _ _ _ (yc _ _ _ _ e)),by omega⟩
inductive LV (st:Sto) (D:Nat):Tr->PV->Prop
 | let_ (z o:Str) (as:List Tr) (vs:List PV):(∀a∈as,Atm D a)->as.length<=6->z.length<=1000->TRs st as vs->LV st D (.row [.word "let", .word z,.word o,.row as]) (.tup [.str "let", .str z,.str o,.tup vs])
 | call (z f:Str) (as:List Tr) (vs:List PV):(∀a∈as,Atm D a)->as.length<=6->z.length<=1000->f.length<=1000->TRs st as vs->LV st D (.row [.word "call", .word z,.word f,.row as]) (.tup [.str "call", .str z,.str f,.tup vs])
 | give (a:Tr) (va:PV):Atm D a->TR st a va->LV st D (.row [.word "give", a]) (.tup [.str "give", va])
 | fail (z:Str):LV st D (.row [.word "fail", .word z]) (.tup [.str "fail", .str z])
 | go (f:Str) (as:List Tr) (vs:List PV):(∀a∈as,Atm D a)->as.length<=6->f.length<=1000->TRs st as vs->LV st D (.row [.word "go", .word f,.row as]) (.tup [.str "go", .str f,.tup vs])
 | if_ (a b1 b2:Tr) (va v1 v2:PV):Atm D a->TR st a va->LV st D (.row [.word "if", a,b1,b2]) (.tup [.str "if", va,v1,v2])
def zjL {st:Sto}{D:Nat}{x:Tr}{w:PV}(h:Stp D x) (t:TR st x w):LV st D x w:=by
 cases h with
 | let_ z o as h hl=>obtain ⟨_,rfl,_,_,rfl,⟨rfl,_⟩,_,_,rfl,⟨rfl,hz⟩,_,_,rfl,⟨rfl,_⟩,_,_,rfl,⟨vs,rfl,tr⟩,rfl⟩:=t;exact .let_ z o as vs h hl hz tr
 | call z f as h hl=>obtain ⟨_,rfl,_,_,rfl,⟨rfl,_⟩,_,_,rfl,⟨rfl,hz⟩,_,_,rfl,⟨rfl,hf⟩,_,_,rfl,⟨vs,rfl,tr⟩,rfl⟩:=t;exact .call z f as vs h hl hz hf tr
def zrQ {st:Sto}{D:Nat}{x:Tr}{w:PV}(h:End0 D x) (t:TR st x w):LV st D x w:=by
 cases h with
 | give a h=>obtain ⟨_,rfl,_,_,rfl,⟨rfl,_⟩,va,_,rfl,ta,rfl⟩:=t;exact .give a va h ta
 | fail z h=>obtain ⟨_,rfl,_,_,rfl,⟨rfl,_⟩,va,_,rfl,⟨rfl,_⟩,rfl⟩:=t;exact .fail z
 | go f as h hl=>obtain ⟨_,rfl,_,_,rfl,⟨rfl,_⟩,_,_,rfl,⟨rfl,hf⟩,_,_,rfl,⟨vs,rfl,tr⟩,rfl⟩:=t;exact .go f as vs h hl hf tr
def zrR {st:Sto} {D:Nat} {a b1 b2:Tr} {w:PV} (h:Atm D a) (t:TR st (.row [.word "if", a,b1,b2]) w):LV st D (.row [.word "if", a,b1,b2]) w:=by
 obtain ⟨_,rfl,_,_,rfl,⟨rfl,_⟩,va,_,rfl,ta,v1,_,rfl,t1,v2,_,rfl,t2,rfl⟩:=t
 exact .if_ a b1 b2 va v1 v2 h ta
def wV {st:Sto}{D:Nat}{b:Tr}{ls:List Tr}{dd:Nat}(B:Blk D b ls dd):∀x∈ls,∀w,TR st x w->LV st D x w:=by
 induction B with
 | leaf ss e hS hE =>
  intro x hx w t
  rcases wE.mp hx with q|q
  ·exact zjL (hS x q) t
  ·rw [jw.mp q] at t ⊢;exact zrQ hE t
 | node ss a b1 b2 l1 l2 d1 d2 hS hA _ _ h1 h2 =>
  intro x hx w t
  simp only [wE,jw] at hx
  rcases hx with ((q|q)|q)|q
  ·exact zjL (hS x q) t
  ·rw [q] at t ⊢;exact zrR hA t
  ·exact h1 x q w t
  ·exact h2 x q w t
def hdw:Tr->Str
 | .row (.word w::_)=>w
 | _ => ""
def arg (i:Nat):Tr->Tr
 | .row ts=>(ts[i]?).getD (.num 0)
 | _=>.num 0
def rowT:Tr->List Tr
 | .row ts=>ts
 | _=>[]
def aimT (x:Tr):List Tr:=if hdw x = "call" then [.row [arg 2 x,arg 3 x]] else if hdw x = "go" then [.row [arg 1 x,arg 2 x]] else []
def stpT (x:Tr):List Tr:=if hdw x = "let" \/ hdw x = "call" then [arg 1 x] else []
def atsT (x:Tr):List Tr:=if hdw x = "let" \/ hdw x = "call" then rowT (arg 3 x) else if hdw x = "go" then rowT (arg 2 x) else if hdw x = "fail" then [] else [arg 1 x]
def valT (a:Tr):List Tr:=if hdw a = "is" then [arg 1 a] else []
def hdv:PV->Str
 | .tup (.str w::_)=>w
 | _ => ""
def argv (i:Nat):PV->PV
 | .tup xs=>(xs[i]?).getD .non
 | _=>.non
def rowv:PV->List PV
 | .tup xs=>xs
 | _=>[]
def aimV (w:PV):PV:=if hdv w = "call" then .tup [argv 2 w,argv 3 w] else if hdv w = "go" then .tup [argv 1 w,argv 2 w] else .non
def isSt (w:PV):Bool:=decide (hdv w = "let" \/ hdv w = "call")
def atsV (w:PV):List PV:=if hdv w = "let" \/ hdv w = "call" then rowv (argv 3 w) else if hdv w = "go" then rowv (argv 2 w) else if hdv w = "fail" then [] else [argv 1 w]
def isIs (a:PV):Bool:=decide (hdv a = "is")
def n1:("let" : Str) ≠ "call" := by decide +kernel
def n2:("let" : Str) ≠ "go" := by decide +kernel
def n3:("give" : Str) ≠ "call" := by decide +kernel
def n4:("give" : Str) ≠ "go" := by decide +kernel
def n5:("fail" : Str) ≠ "call" := by decide +kernel
def n6:("fail" : Str) ≠ "go" := by decide +kernel
def n7:("go" : Str) ≠ "call" := by decide +kernel
def n8:("if" : Str) ≠ "call" := by decide +kernel
def n9:("if" : Str) ≠ "go" := by decide +kernel
def n10:("give" : Str) ≠ "let" := by decide +kernel
def n11:("fail" : Str) ≠ "let" := by decide +kernel
def n12:("go" : Str) ≠ "let" := by decide +kernel
def n13:("if" : Str) ≠ "let" := by decide +kernel
def n14:("give" : Str) ≠ "fail" := by decide +kernel
def n15:("if" : Str) ≠ "fail" := by decide +kernel
def n16:("of" : Str) ≠ "is" := by decide +kernel
def n17:("call" : Str) ≠ "let" := by decide +kernel
def n18:("call" : Str) ≠ "go" := by decide +kernel
def n19:("call" : Str) ≠ "give" := by decide +kernel
def n20:("call" : Str) ≠ "if" := by decide +kernel
def n21:("let" : Str) ≠ "give" := by decide +kernel
def n22:("let" : Str) ≠ "if" := by decide +kernel
def n23:("go" : Str) ≠ "give" := by decide +kernel
def n24:("go" : Str) ≠ "if" := by decide +kernel
def n25:("fail" : Str) ≠ "give" := by decide +kernel
def n26:("fail" : Str) ≠ "if" := by decide +kernel
def n27:("let" : Str) ≠ "fail" := by decide +kernel
def n28:("call" : Str) ≠ "fail" := by decide +kernel
def n29:("if" : Str) ≠ "give" := by decide +kernel
def eqF {a b:Str}(h:a≠b) (st:Sto):ye (.str a) (.str b) st=.ok (.bl false) st:=eqs a b false (by simpa using h) st
def eqY {a:Str}(st:Sto):ye (.str a) (.str a) st=.ok (.bl true) st:=eqs a a true (by simp) st
def q0 {z y:Str}{c:Bool}{e:zk}{r:List PV}{s:Sto}{i:Nat}(hi:e[i]?=some (some (.tup (.str z::r)))) (h:ye (.str z) (.str y) s=.ok (.bl c) s):(mB (zj ye (zj zw (zd i) (mC (.int 0))) (mC (.str y)))) e s=.ok c s:=zE (zm (zm (ze hi) rfl jF) rfl h)
def zr4 {st:Sto}{D:Nat}{x:Tr}{w:PV}(h:LV st D x w) (s:Sto):zdS [w] s=.ok (aimV w) s:=by
 cases h with
 | let_ z o as vs=>simp only [aimV,hdv,n1,n2,ym];exact ya rfl (zq (zQ (q0 rfl (eqF n1 _))) (zq (zQ (q0 rfl (eqF n2 _))) (zW rfl)))
 | call z f as vs=>simp only [aimV,hdv,yw];exact ya rfl (yK (yx (q0 rfl (eqY _)) (zW (zK (zy (zm (ze rfl) rfl jZ) (zm (ze rfl) rfl ix3)) (by simp)))))
 | give a va=>simp only [aimV,hdv,n3,n4,ym];exact ya rfl (zq (zQ (q0 rfl (eqF n3 _))) (zq (zQ (q0 rfl (eqF n4 _))) (zW rfl)))
 | fail z=>simp only [aimV,hdv,n5,n6,ym];exact ya rfl (zq (zQ (q0 rfl (eqF n5 _))) (zq (zQ (q0 rfl (eqF n6 _))) (zW rfl)))
 | go f as vs=>simp only [aimV,hdv,n7,ym,yw];exact ya rfl (zq (zQ (q0 rfl (eqF n7 _))) (yK (yx (q0 rfl (eqY _)) (zW (zK (zy (zm (ze rfl) rfl ja) (zm (ze rfl) rfl jZ)) (by simp))))))
 | if_ a b1 b2 va v1 v2=>simp only [aimV,hdv,n8,n9,ym];exact ya rfl (zq (zQ (q0 rfl (eqF n8 _))) (zq (zQ (q0 rfl (eqF n9 _))) (zW rfl)))
def aimB (w:PV):List PV:=if isNon (aimV w)=true then [] else [aimV w]
def stB (w:PV):List PV:=if isSt w=true then [argv 1 w] else []
def valB (a:PV):List PV:=if isIs a=true then [argv 1 a] else []
def zjO {st:Sto}{D:Nat}{x:Tr}{w:PV}(h:LV st D x w):TRs st (aimT x) (aimB w):=by
 cases h with
 | let_ z o as vs=>simp only [aimT,hdw,aimB,aimV,hdv,n1,n2,ym];rfl
 | call z f as vs _ _ _ hf tr=>simp only [aimT,hdw,aimB,aimV,hdv,yw];exact ⟨_,[],rfl,TR.two (TR.str hf) ⟨vs,rfl,tr⟩,rfl⟩
 | give a va=>simp only [aimT,hdw,aimB,aimV,hdv,n3,n4,ym];rfl
 | fail z=>simp only [aimT,hdw,aimB,aimV,hdv,n5,n6,ym];rfl
 | go f as vs _ _ hf tr=>simp only [aimT,hdw,aimB,aimV,hdv,n7,ym,yw];exact ⟨_,[],rfl,TR.two (TR.str hf) ⟨vs,rfl,tr⟩,rfl⟩
 | if_ a b1 b2 va v1 v2=>simp only [aimT,hdw,aimB,aimV,hdv,n8,n9,ym];rfl
def zjP {st:Sto}{D:Nat}{x:Tr}{w:PV}(h:LV st D x w):TRs st (stpT x) (stB w):=by
 cases h with
 | let_ z o as vs _ _ hz=>simp only [stpT,hdw,stB,isSt,hdv,true_or,decide_true,yw];exact ⟨_,[],rfl,TR.str hz,rfl⟩
 | call z f as vs _ _ hz=>simp only [stpT,hdw,stB,isSt,hdv,or_true,decide_true,yw];exact ⟨_,[],rfl,TR.str hz,rfl⟩
 | give a va=>simp only [stpT,hdw,stB,isSt,hdv,n3,n10,yA,decide_false,ym];rfl
 | fail z=>simp only [stpT,hdw,stB,isSt,hdv,n5,n11,yA,decide_false,ym];rfl
 | go f as vs=>simp only [stpT,hdw,stB,isSt,hdv,n7,n12,yA,decide_false,ym];rfl
 | if_ a b1 b2 va v1 v2=>simp only [stpT,hdw,stB,isSt,hdv,n8,n13,yA,decide_false,ym];rfl
def zc6 {st:Sto}{D:Nat}{x:Tr}{w:PV}(h:LV st D x w):TRs st (atsT x) (atsV w)/\(∀a∈atsT x,Atm D a)/\(atsT x).length<=6:=by
 cases h with
 | let_ z o as vs ha hl _ tr=>simp only [atsT,hdw,atsV,hdv,true_or,yw];exact ⟨tr,ha,hl⟩
 | call z f as vs ha hl _ _ tr=>simp only [atsT,hdw,atsV,hdv,or_true,yw];exact ⟨tr,ha,hl⟩
 | give a va ha ta=>simp only [atsT,hdw,atsV,hdv,n3,n10,n4,n14,yA,ym];exact ⟨⟨_,[],rfl,ta,rfl⟩,fun b hb=>by rw [jw.mp hb];exact ha,by simp⟩
 | fail z=>simp only [atsT,hdw,atsV,hdv,n5,n11,n6,yA,ym,yw];exact ⟨rfl,(fun _ h=>nomatch h),by simp⟩
 | go f as vs ha hl _ tr=>simp only [atsT,hdw,atsV,hdv,n7,n12,yA,ym,yw];exact ⟨tr,ha,hl⟩
 | if_ a b1 b2 va v1 v2 ha ta=>simp only [atsT,hdw,atsV,hdv,n8,n13,n9,n15,yA,ym];exact ⟨⟨_,[],rfl,ta,rfl⟩,fun b hb=>by rw [jw.mp hb];exact ha,by simp⟩
def zjQ {st:Sto}{D:Nat}{a:Tr}{w:PV}(h:Atm D a) (t:TR st a w):TRs st (valT a) (valB w)/\∃z y,w=.tup [.str z,y]:=by
 cases h with
 | of z=>obtain ⟨_,rfl,_,_,rfl,⟨rfl,_⟩,_,_,rfl,⟨rfl,_⟩,rfl⟩:=t;simp only [valT,hdw,valB,isIs,hdv,n16,decide_false,ym];exact ⟨rfl,_,_,rfl⟩
 | is t0 _ _ _=>obtain ⟨_,rfl,_,_,rfl,⟨rfl,_⟩,y,_,rfl,ty,rfl⟩:=t;simp only [valT,hdw,valB,isIs,hdv,decide_true,yw];exact ⟨⟨_,[],rfl,ty,rfl⟩,_,_,rfl⟩
def TRs.flat {st:Sto}{A:Tr->List Tr}{B:PV->List PV}:∀{ls:List Tr}{ws:List PV},TRs st ls ws->(∀x w,x∈ls->TR st x w->TRs st (A x) (B w))->TRs st (ls.flatMap A) (ws.flatMap B)
 | [],ws,h,_=>by cases h;rfl
 | x::ls,ws,h,hA=>by
  obtain ⟨w,r,rfl,h1,h2⟩:=h
  rw [wY,wY]
  exact (hA x w (yY ..) h1).append (TRs.flat h2 fun y v hy=>hA y v (jc _ hy))
def in2 (z:Str) (c:Bool) (h:((("let" : Str)==z)||(("call" : Str)==z))=c) (st:Sto):j8 false (.str z) (.tup [.str "let", .str "call"]) st=.ok (.bl c) st:=by
 rw [zoG,zH ⟨rfl,rfl,by simp [deps,dep]⟩]
 simp [eqP,h]
def zjR {st:Sto}{D:Nat}{x:Tr}{w:PV}(h:LV st D x w) (s:Sto):zca [w] s=.ok (.bl (isSt w)) s:=by
 have key:∀(z:Str) (r:List PV) (c:Bool),((("let" : Str)==z)||(("call" : Str)==z))=c->zca [.tup (.str z::r)] s=.ok (.bl c) s:=fun z r c hc=>ya rfl (zW (zm (zm (ze rfl) rfl jF) (zK (zy rfl rfl) (by simp)) (in2 z c hc s)))
 cases h with
 | let_ z o as vs=>simp only [isSt,hdv,true_or,decide_true];exact key _ _ true (by decide +kernel)
 | call z f as vs=>simp only [isSt,hdv,or_true,decide_true];exact key _ _ true (by decide +kernel)
 | give a va=>simp only [isSt,hdv,n3,n10,yA,decide_false];exact key _ _ false (by decide +kernel)
 | fail z=>simp only [isSt,hdv,n5,n11,yA,decide_false];exact key _ _ false (by decide +kernel)
 | go f as vs=>simp only [isSt,hdv,n7,n12,yA,decide_false];exact key _ _ false (by decide +kernel)
 | if_ a b1 b2 va v1 v2=>simp only [isSt,hdv,n8,n13,yA,decide_false];exact key _ _ false (by decide +kernel)
def zr6 {st:Sto}{D:Nat}{x:Tr}{w:PV}(h:LV st D x w) (s:Sto):zcW [w] s=.ok (.tup (atsV w)) s:=by
 have ss:=zjR h s
 cases h with
 | let_ z o as vs=>simp only [isSt,hdv,true_or,decide_true] at ss;simp only [atsV,hdv,true_or,yw];exact ya rfl (yK (yx (zE (zt (zB (ze rfl)) ss)) (zW (zm (ze rfl) rfl ix3))))
 | call z f as vs=>simp only [isSt,hdv,or_true,decide_true] at ss;simp only [atsV,hdv,or_true,yw];exact ya rfl (yK (yx (zE (zt (zB (ze rfl)) ss)) (zW (zm (ze rfl) rfl ix3))))
 | give a va=>simp only [isSt,hdv,n3,n10,yA,decide_false] at ss;simp only [atsV,hdv,n3,n10,n4,n14,yA,ym];exact ya rfl (zq (zQ (zE (zt (zB (ze rfl)) ss))) (zq (zQ (q0 rfl (eqF n4 _))) (zq (zQ (q0 rfl (eqF n14 _))) (zW (zK (zB (zm (ze rfl) rfl ja)) (by simp))))))
 | fail z=>simp only [isSt,hdv,n5,n11,yA,decide_false] at ss;simp only [atsV,hdv,n5,n11,n6,yA,ym,yw];exact ya rfl (zq (zQ (zE (zt (zB (ze rfl)) ss))) (zq (zQ (q0 rfl (eqF n6 _))) (yK (yx (q0 rfl (eqY _)) (zW (zK jD (by simp)))))))
 | go f as vs=>simp only [isSt,hdv,n7,n12,yA,decide_false] at ss;simp only [atsV,hdv,n7,n12,yA,ym,yw];exact ya rfl (zq (zQ (zE (zt (zB (ze rfl)) ss))) (yK (yx (q0 rfl (eqY _)) (zW (zm (ze rfl) rfl jZ)))))
 | if_ a b1 b2 va v1 v2=>simp only [isSt,hdv,n8,n13,yA,decide_false] at ss;simp only [atsV,hdv,n8,n13,n9,n15,yA,ym];exact ya rfl (zq (zQ (zE (zt (zB (ze rfl)) ss))) (zq (zQ (q0 rfl (eqF n9 _))) (zq (zQ (q0 rfl (eqF n15 _))) (zW (zK (zB (zm (ze rfl) rfl ja)) (by simp))))))
def zr7 {st:Sto}{D:Nat}{x:Tr}{w:PV}(h:LV st D x w) (s:Sto):zcX [w] s=.ok (.tup (atsV w)) s:=by
 cases h with
 | let_ z o as vs=>simp only [atsV,hdv,true_or,yw];exact ya rfl (zq (zQ (jO (q0 rfl (eqF n21 _)) (q0 rfl (eqF n22 _)))) (zq (zQ (q0 rfl (eqF n2 _))) (zq (zQ (q0 rfl (eqF n27 _))) (zW (zm (ze rfl) rfl ix3)))))
 | call z f as vs=>simp only [atsV,hdv,or_true,yw];exact ya rfl (zq (zQ (jO (q0 rfl (eqF n19 _)) (q0 rfl (eqF n20 _)))) (zq (zQ (q0 rfl (eqF n18 _))) (zq (zQ (q0 rfl (eqF n28 _))) (zW (zm (ze rfl) rfl ix3)))))
 | give a va=>simp only [atsV,hdv,n3,n10,n4,n14,yA,ym];exact ya rfl (yK (yx (zcN (q0 rfl (eqY _))) (zW (zK (zB (zm (ze rfl) rfl ja)) (by simp)))))
 | fail z=>simp only [atsV,hdv,n5,n11,n6,yA,ym,yw];exact ya rfl (zq (zQ (jO (q0 rfl (eqF n25 _)) (q0 rfl (eqF n26 _)))) (zq (zQ (q0 rfl (eqF n6 _))) (yK (yx (q0 rfl (eqY _)) (zW (zK jD (by simp)))))))
 | go f as vs=>simp only [atsV,hdv,n7,n12,yA,ym,yw];exact ya rfl (zq (zQ (jO (q0 rfl (eqF n23 _)) (q0 rfl (eqF n24 _)))) (yK (yx (q0 rfl (eqY _)) (zW (zm (ze rfl) rfl jZ)))))
 | if_ a b1 b2 va v1 v2=>simp only [atsV,hdv,n8,n13,n9,n15,yA,ym];exact ya rfl (yK (yx (jO (q0 rfl (eqF n29 _)) (q0 rfl (eqY _))) (zW (zK (zB (zm (ze rfl) rfl ja)) (by simp)))))
def zfL {ft:zk->Mo Bool}{fe:zk->Mo PV}{env:zk}{st:Sto}{p:PV->Bool}{f:PV->PV}:∀(xs:List PV),(∀x∈xs,ft (some x::env) st=.ok (p x) st)->(∀x∈xs,p x=true->fe (some x::env) st=.ok (f x) st)->∀ys,compLI ft fe env xs ys st=.ok (.ref st.length) (st++[.lst (ys++xs.flatMap fun x=>if p x=true then [f x] else [])])
 | [],_,_,ys=>by simp [compLI]
 | x::xs,h,h',ys=>by
  have ih:=zfL xs (fun y hy=>h y (jc _ hy)) (fun y hy=>h' y (jc _ hy))
  unfold compLI
  rw [h x (yY ..)]
  simp only [zao,zP]
  cases hp:p x with
  | true =>
   simp only [yw]
   rw [h' x (yY ..) hp]
   simp only [zao,zP]
   rw [ih]
   simp [hp]
  | false =>
   rw [zX (by simp),ih]
   simp [hp]
def zfM {ft:zk->Mo Bool}{fe:zk->Mo PV}{env:zk}{st:Sto}{n:Nat}{p:PV->Bool}{f:PV->PV}(xs:List PV) (hn:st[n]?=some (.lst xs)) (h:∀x∈xs,ft (some x::env) st=.ok (p x) st) (h':∀x∈xs,p x=true->fe (some x::env) st=.ok (f x) st):∀(k i m:Nat) (ys:List PV),i+k=xs.length->k<m->compRI ft fe env n m i ys st=.ok (.ref st.length) (st++[.lst (ys++(xs.drop i).flatMap fun x=>if p x=true then [f x] else [])])
 | 0,i,m,ys,hk,hm=>by
  obtain ⟨m,rfl⟩:∃j,m=j+1:=⟨m-1,by omega⟩
  unfold compRI
  rw [yb hn,zd8 (by omega),zaX (by omega)]
  simp
 | k+1,i,m,ys,hk,hm=>by
  obtain ⟨m,rfl⟩:∃j,m=j+1:=⟨m-1,by omega⟩
  have hi:i<xs.length:=by omega
  have hx:xs[i]?=some (xs[i]'hi):=zU hi
  have mem:=jy hi
  have ih:=zfM (ft:=ft) (fe:=fe) (env:=env) xs hn h h' k (i+1) m
  unfold compRI
  rw [yb hn,hx]
  simp only
  rw [h _ mem]
  simp only [zao,zP]
  rw [wc hi,wY]
  cases hp:p (xs[i]'hi) with
  | true =>
   simp only [yw]
   rw [h' _ mem hp]
   simp only [zao,zP]
   rw [ih _ (by omega) (by omega)]
   simp
  | false =>
   rw [zX (by simp),ih _ (by omega) (by omega)]
   simp
def for_tup {g:PV->zk->Option zk}{body:zk->Mo Fl}(xs:List PV) (I:Nat->zk->Sto->Prop) (step:∀i x e st,xs[i]?=some x->I i e st->∃e1 e2 st2,g x e=some e1/\body e1 st=.ok (.nx e2) st2/\I (i+1) e2 st2) :
  ∀(k i:Nat) (env:zk) (st:Sto),i+k=xs.length->I i env st->∃env' st',forL g body (xs.drop i) env st=.ok (.nx env') st'/\I xs.length env' st'
 | 0,i,env,st,hk,h=>⟨env,st,by rw [zaX (by omega)];rfl,by rw [<-hk];exact h⟩
 | k+1,i,env,st,hk,h=>by
  have hx:xs[i]?=some (xs[i]'(by omega)):=zU (by omega)
  obtain ⟨e1,e2,st2,q1,q2,q3⟩:=step i _ env st hx h
  obtain ⟨env',st',r,h2⟩:=for_tup xs I step k (i+1) e2 st2 (by omega) q3
  refine ⟨env',st',?_,h2⟩
  rw [wc (by omega)]
  unfold forL
  rw [q1]
  simp only
  rw [q2]
  simp only [zP]
  exact r
def zce {st:Sto}{D:Nat}{b:Tr}{ls:List Tr}{dd:Nat}(B:Blk D b ls dd) {ws:List PV}(tr:TRs st ls ws):∀w∈ws,∃x∈ls,LV st D x w:=fun w hw=>by
 obtain ⟨i,hi,e⟩:=wX hw
 obtain ⟨x,hx,t⟩:=tr.get (i:=i) (x:=w) (by rw [zU hi,e])
 exact ⟨x,j3 hx,wV B x (j3 hx) w t⟩
def zr8 (ws:List PV):((ws.map aimV).flatMap fun x=>if (!isNon x)=true then [x] else [])=ws.flatMap aimB:=by
 induction ws with
 | nil=>rfl
 | cons w ws ih =>
  rw [jH,wY,wY,ih]
  congr 1
  unfold aimB
  cases isNon (aimV w)<;>rfl
def zr9 (x:PV) (s:Sto):zb1 x .non s=.ok (.bl (!isNon x)) s:=by cases x<;>rfl
def zjS {D:Nat}{b:Tr}{ls:List Tr}{dd:Nat}{v:PV}{st:Sto}(B:Blk D b ls dd) (hd:dd<12) (hl:ls.length<=1000) (tv:TR st b v):∃ys s1,zdT [v] st=.ok (.tup ys) s1/\TRs st (ls.flatMap aimT) ys/\Old st s1:=by
 obtain ⟨ws,E,tr⟩:=zd0 12 B hd (by omega) tv
 have wl:=tr.len
 have al:=zce B tr
 let s1:=st++[SO.lst (ws.map aimV)]
 have C:(jh (yO (zp (wS 12) (zc (zd 0) zh))) (zp zdS (zc (zd 0) zh))) [some v,none] st=.ok (.ref st.length) s1:=by
  rw [zdA,j7,zt (zB (ze rfl)) E]
  simp only [zP,seqOf]
  rw [zeA,zH (by simp [lim];omega)]
  exact zeC _ (fun w hw=>by obtain ⟨x,_,h⟩:=al w hw;exact zt (zB (ze rfl)) (zr4 h st)) []
 let s2:=s1++[SO.lst (ws.flatMap aimB)]
 have C2:(wR (yO (zd 1)) (mB (zj zb1 (zd 0) (mC .non))) (zd 0)) [some v,sR st.length] s1=.ok (.ref s1.length) s2:=by
  rw [zdE,j7,ze rfl]
  simp only [zP,seqOf]
  rw [yb (yi _ _)]
  have:=zfM (ft:=(mB (zj zb1 (zd 0) (mC .non)))) (fe:=zd 0) (env:=[some v,sR st.length]) (st:=s1) (n:=st.length) (p:=fun x=>!isNon x) (f:=fun x=>x) (ws.map aimV) (yi _ _) (fun x hx=>zE (zm (ze rfl) rfl (zr9 x _))) (fun x hx _=>ze rfl) (ws.map aimV).length 0 (lim+1) [] (by omega) (by simp [lim];omega)
  rw [List.drop_zero,zr8] at this
  exact this
 exact ⟨ws.flatMap aimB,s2,ya rfl (zq (zG C) (zW (zt (zB C2) (by rw [jo,yb (yi _ _)])))),tr.flat (fun x w hx t=>zjO (wV B x hx w t)),(yc _ _).trans (yc _ _)⟩
def zsa {D:Nat}{b:Tr}{ls:List Tr}{dd:Nat}{v:PV}{st:Sto}(B:Blk D b ls dd) (hd:dd<12) (hl:ls.length<=1000) (tv:TR st b v):∃ys s1,zfm [v] st=.ok (.tup ys) s1/\TRs st (ls.flatMap stpT) ys/\Old st s1:=by
 obtain ⟨ws,E,tr⟩:=zd0 12 B hd (by omega) tv
 have wl:=tr.len
 have al:=zce B tr
 have C:(wR (yO (zp (wS 12) (zc (zd 0) zh))) (mB (zp zca (zc (zd 0) zh))) (zj zw (zd 0) (mC (.int 1)))) [some v] st=.ok (.ref st.length) (st++[SO.lst (ws.flatMap stB)]):=by
  rw [zdE,j7,zt (zB (ze rfl)) E]
  simp only [zP,seqOf]
  show (if ws.length<=lim then compLI _ _ _ ws [] st else .stuck)=_
  rw [zH (by simp [lim];omega)]
  exact zfL (p:=isSt) (f:=argv 1) ws (fun w hw=>by obtain ⟨x,_,h⟩:=al w hw;exact zE (zt (zB (ze rfl)) (zjR h st))) (fun w hw hp=>by
   obtain ⟨x,_,h⟩:=al w hw
   cases h with
   | let_ z o as vs=>exact zm (ze rfl) rfl ja
   | call z f as vs=>exact zm (ze rfl) rfl ja
   | give a va=>exact zm (ze rfl) rfl ja
   | fail z=>exact zm (ze rfl) rfl ja
   | go f as vs=>exact zm (ze rfl) rfl ja
   | if_ a b1 b2 va v1 v2=>exact zm (ze rfl) rfl ja) []
 exact ⟨ws.flatMap stB,st++[SO.lst (ws.flatMap stB)],ya rfl (zW (zt (zB C) (by rw [jo,yb (yi _ _)]))),tr.flat (fun x w hx t=>zjP (wV B x hx w t)),yc _ _⟩
def zfN {s:Sto}{n:Nat}{xs:List PV}{y:PV}(h:s[n]?=some (.lst xs)) (hl:xs.length<1000000):yM (.ref n) y s=.ok .non (s.set n (.lst (xs++[y]))):=by rw [zeB,yb h,zH (by simpa [lim] using hl)]
def zbK {A:Tr->List Tr}:∀{ls:List Tr},(∀x∈ls,szs (A x)<=sz x)->szs (ls.flatMap A)<=szs ls
 | [],_=>by simp [szs]
 | x::ls,h=>by
  have h1:=h x (yY ..)
  have h2:=zbK (ls:=ls) fun y hy=>h y (jc _ hy)
  rw [wY,zax]
  simp only [szs];omega
def zc7 {m:Nat}{a b:List Tr}(h1:dps a<=m) (h2:dps b<=m):dps (a++b)<=m:=wL fun t ht=>by
 rcases wE.mp ht with q|q
 ·exact yS (wT q) h1
 ·exact yS (wT q) h2
def zbL {A:Tr->List Tr}{m:Nat}:∀{ls:List Tr},(∀x∈ls,dps (A x)<=m)->dps (ls.flatMap A)<=m
 | [],_=>by simp [dps]
 | x::ls,h=>by
  rw [wY]
  exact zc7 (h x (yY ..)) (zbL fun y hy=>h y (jc _ hy))
def zd2 {st:Sto}{D:Nat}{x:Tr}{w:PV}(h:LV st D x w):szs (aimT x)<=sz x/\dps (aimT x)<=dp x:=by
 cases h with
 | let_ z o as vs=>simp only [aimT,hdw,n1,n2,ym];exact ⟨yR _,yR _⟩
 | call z f as vs=>simp only [aimT,hdw,yw];exact ⟨by simp only [arg,zaj,wW,zak,sz,szs];omega,by simp only [arg,zaj,wW,zak,dp,dps];omega⟩
 | give a va=>simp only [aimT,hdw,n3,n4,ym];exact ⟨yR _,yR _⟩
 | fail z=>simp only [aimT,hdw,n5,n6,ym];exact ⟨yR _,yR _⟩
 | go f as vs=>simp only [aimT,hdw,n7,ym,yw];exact ⟨by simp only [arg,zaj,wW,zak,sz,szs];omega,by simp only [arg,zaj,wW,zak,dp,dps];omega⟩
 | if_ a b1 b2 va v1 v2=>simp only [aimT,hdw,n8,n9,ym];exact ⟨yR _,yR _⟩
def zjT {st:Sto}{D:Nat}{x:Tr}{w:PV}(h:LV st D x w):szs (stpT x)<=sz x/\dps (stpT x)<=dp x:=by
 cases h with
 | let_ z o as vs=>simp only [stpT,hdw,true_or,yw];exact ⟨by simp only [arg,zaj,wW,zak,sz,szs];omega,by simp only [arg,zaj,wW,zak,dp,dps];omega⟩
 | call z f as vs=>simp only [stpT,hdw,or_true,yw];exact ⟨by simp only [arg,zaj,wW,zak,sz,szs];omega,by simp only [arg,zaj,wW,zak,dp,dps];omega⟩
 | give a va=>simp only [stpT,hdw,n3,n10,yA,ym];exact ⟨yR _,yR _⟩
 | fail z=>simp only [stpT,hdw,n5,n11,yA,ym];exact ⟨yR _,yR _⟩
 | go f as vs=>simp only [stpT,hdw,n7,n12,yA,ym];exact ⟨yR _,yR _⟩
 | if_ a b1 b2 va v1 v2=>simp only [stpT,hdw,n8,n13,yA,ym];exact ⟨yR _,yR _⟩
abbrev bA:zk->Mo Fl:=(zu (yd (mB (zj ye (zj zw (zd 2) (mC (.int 0))) (mC (.str "call"))))
  (yH (yC yM (zd 1) (zA (zc (zj zw (zd 2) (mC (.int 2))) (zc (zj zw (zd 2) (mC (.int 3))) zh)))))
  yg)
  (yd (mB (zj ye (zj zw (zd 2) (mC (.int 0))) (mC (.str "go"))))
  (yH (yC yM (zd 1) (zA (zc (zj zw (zd 2) (mC (.int 1))) (zc (zj zw (zd 2) (mC (.int 2))) zh)))))
  yg))
def zd3 {w:PV}(h:aimV w=.non):aimB w=[]:=by unfold aimB;rw [h];rfl
def zsb {st:Sto}{D:Nat}{x:Tr}{w:PV}(h:LV st D x w) {s:Sto}{n:Nat}{A:List PV}{x0:Option PV}(hA:s[n]?=some (.lst A)) (hl:A.length<1000000):∃s',bA [x0,sR n,some w] s=.ok (.nx [x0,sR n,some w]) s'/\s'[n]?=some (.lst (A++aimB w))/\∀(m:Nat) so,m≠n->s[m]?=some so->s'[m]?=some so:=by
 have none_:∀{z:Str} {r:List PV},z ≠ "call" -> z ≠ "go" -> bA [x0,sR n,some (.tup (.str z::r))] s=.ok (.nx [x0,sR n,some (.tup (.str z::r))]) s:=fun h1 h2=>zq (zQ (q0 rfl (eqF h1 _))) (zQ (q0 rfl (eqF h2 _)))
 have put:∀y:PV,(s.set n (.lst (A++[y])))[n]?=some (.lst (A++[y]))/\∀(m:Nat) so,m≠n->s[m]?=some so->(s.set n (.lst (A++[y])))[m]?=some so:=fun y=>⟨yZ (zM hA),fun m so q e=>by rw [yh (yJ q)];exact e⟩
 cases h with
 | let_ z o as vs=>exact ⟨s,none_ n1 n2,by rw [zd3 (by simp only [aimV,hdv,n1,n2,ym]),List.append_nil];exact hA,fun _ _ _ e=>e⟩
 | call z f as vs =>
  refine ⟨_,zq (yx (q0 rfl (eqY _)) (jU (jV (ze rfl) hA (zK (zy (zm (ze rfl) rfl jZ) (zm (ze rfl) rfl ix3)) (by simp)) (zfN hA hl)))) (zQ (q0 rfl (eqF n18 _))),?_,(put _).2⟩
  simp only [aimB,aimV,hdv,yw]
  exact (put _).1
 | give a va=>exact ⟨s,none_ n3 n4,by rw [zd3 (by simp only [aimV,hdv,n3,n4,ym]),List.append_nil];exact hA,fun _ _ _ e=>e⟩
 | fail z=>exact ⟨s,none_ n5 n6,by rw [zd3 (by simp only [aimV,hdv,n5,n6,ym]),List.append_nil];exact hA,fun _ _ _ e=>e⟩
 | go f as vs =>
  refine ⟨_,zq (zQ (q0 rfl (eqF n7 _))) (yx (q0 rfl (eqY _)) (jU (jV (ze rfl) hA (zK (zy (zm (ze rfl) rfl ja) (zm (ze rfl) rfl jZ)) (by simp)) (zfN hA hl)))),?_,(put _).2⟩
  simp only [aimB,aimV,hdv,n7,ym,yw]
  exact (put _).1
 | if_ a b1 b2 va v1 v2=>exact ⟨s,none_ n8 n9,by rw [zd3 (by simp only [aimV,hdv,n8,n9,ym]),List.append_nil];exact hA,fun _ _ _ e=>e⟩
def zsc (w:PV):(aimB w).length<=1:=by unfold aimB;split<;>simp
def zfO {A:PV->List PV}{m:Nat}(h:∀w,(A w).length<=m):∀ws:List PV,(ws.flatMap A).length<=ws.length*m
 | []=>by simp
 | w::ws=>by
  have:=h w
  have:=zfO h ws
  rw [wY,jG,wq,Nat.add_mul];omega
def zjU {A:PV->List PV}{ws:List PV}{i:Nat}{w:PV}(h:ws[i]?=some w):(ws.take (i+1)).flatMap A=(ws.take i).flatMap A++A w:=by
 rw [zi4 h,List.flatMap_append];simp
def zjV {D:Nat}{b:Tr}{ls:List Tr}{dd:Nat}{a st:Sto}{r:Nat}{ws:List PV}(B:Blk D b ls dd) (hl:ls.length<=1000) (tr:TRs a ls ws) (hr:st[r]?=some (.lst ws)):∃ys s1,zdU [.ref r] st=.ok (.tup ys) s1/\TRs a (ls.flatMap aimT) ys/\Old st s1:=by
 have wl:=tr.len
 have al:=zce B tr
 have rl:=zM hr
 obtain ⟨e',s',F,⟨z2,he⟩,h1,h2,h3⟩:=zdX (g:=gN 2) (body:=bA) (n:=r) ws (fun i e s=>(∃z2,e=[sR r,sR st.length,z2])/\s[r]?=some (.lst ws)/\s[st.length]?=some (.lst ((ws.take i).flatMap aimB))/\∀(m:Nat) so,m≠st.length->st[m]?=some so->s[m]?=some so) (fun i e s h=>h.2.1) (fun i w e s hw ⟨⟨z2,he⟩,h1,h2,h3⟩=>by
  subst he
  obtain ⟨x,_,lv⟩:=al w (j3 hw)
  have tl:((ws.take i).flatMap aimB).length<1000000:=by
   have:=zfO zsc (ws.take i)
   have:(ws.take i).length<=ws.length:=by simp;omega
   omega
  obtain ⟨s',E,g1,g2⟩:=zsb lv (x0:=sR r) h2 tl
  exact ⟨[sR r,sR st.length,some w],_,s',rfl,E,⟨_,rfl⟩,g2 _ _ (by omega) h1,by rw [zjU hw];exact g1,fun m so q e=>g2 m so q (h3 m so q e)⟩) ws.length 0 (lim+1) [sR r,sR st.length,none] (st++[.lst []]) (by omega) (by simp [lim];omega) ⟨⟨none,rfl⟩,yc _ _ _ _ hr,yi _ _,fun m so _ e=>yc _ _ _ _ e⟩
 subst he
 rw [List.take_length] at h2
 have FO:(yU (yO (zd 0)) (gN 2) bA) [sR r,sR st.length,none] (st++[.lst []])=.ok (.nx [sR r,sR st.length,z2]) s':=by
  rw [zan,j7,ze rfl]
  simp only [zP,seqOf]
  rw [yb (yc _ _ _ _ hr)]
  exact F
 exact ⟨ws.flatMap aimB,s',ya rfl (zq (zG (jp jD (by simp))) (zq FO (zW (zt (zB (ze rfl)) (by rw [jo,yb h2]))))),tr.flat (fun x w hx t=>zjO (wV B x hx w t)),fun m so e=>h3 m so (by have:=zM e;omega) e⟩
def zcf {st:Sto}{f b:Tr}{z:Str}{ls:List Tr}{dd:Nat}{v:PV}(h:Fn f z b ls dd) (t:TR st f v):∃pv bv,v=.tup [.str z,pv,bv]/\TR st b bv:=by
 obtain ⟨⟨ps,rfl,_⟩,_,_,_⟩:=h
 obtain ⟨_,rfl,_,_,rfl,⟨rfl,_⟩,pv,_,rfl,_,bv,_,rfl,tb,rfl⟩:=t
 exact ⟨pv,bv,rfl,tb⟩
def TRs.row {st:Sto}{ts:List Tr}{xs:List PV}(h:TRs st ts xs):TR st (.row ts) (.tup xs):=⟨xs,rfl,h⟩
def zsd {f b:Tr}{z:Str}{ls:List Tr}{dd:Nat}{v:PV}{st:Sto}(h:Fn f z b ls dd) (tv:TR st f v):∃s1,zcV [v] st=.ok (.bl true) s1/\Old st s1:=by
 obtain ⟨pv,bv,rfl,tb⟩:=zcf h tv
 obtain ⟨_,⟨D,B,hD⟩,hd,hn⟩:=h
 have bz:=zfD B
 have bs:=zjr B
 have bd:=zfE B
 have bds:=zjs B
 have bs2:szs ls<=360000:=yS bs (yS (Nat.mul_le_mul (show dd+1<=9 by omega) (show sz b<=40000 by omega)) (by decide))
 obtain ⟨ws,r,s1,E1,hr,tr1,o1,_⟩:=zfK B (by omega) (by omega) tb
 have wl:=tr1.len
 have al:=zce B tr1
 let s2:=s1++[SO.lst (ws.flatMap stB)]
 have o2:Old s1 s2:=yc _ _
 have C:(wR (yO (zd 1)) (j1 (mB (zj ye (zj zw (zd 0) (mC (.int 0))) (mC (.str "let")))) (mB (zj ye (zj zw (zd 0) (mC (.int 0))) (mC (.str "call"))))) (zj zw (zd 0) (mC (.int 1)))) [some (.tup [.str z,pv,bv]),sR r,sI dd,none] s1=.ok (.ref s1.length) s2:=by
  rw [zdE,j7,ze rfl]
  simp only [zP,seqOf]
  rw [yb hr]
  have:=zfM (ft:=(j1 (mB (zj ye (zj zw (zd 0) (mC (.int 0))) (mC (.str "let")))) (mB (zj ye (zj zw (zd 0) (mC (.int 0))) (mC (.str "call")))))) (fe:=(zj zw (zd 0) (mC (.int 1)))) (env:=[some (.tup [.str z,pv,bv]),sR r,sI dd,none]) (st:=s1) (n:=r) (p:=isSt) (f:=argv 1) ws hr (fun w hw=>by
   obtain ⟨x,_,lv⟩:=al w hw
   cases lv with
   | let_ z o as vs=>simp only [isSt,hdv,true_or,decide_true];exact zcN (q0 rfl (eqY _))
   | call z f as vs=>simp only [isSt,hdv,or_true,decide_true];exact jO (q0 rfl (eqF n17 _)) (q0 rfl (eqY _))
   | give a va=>simp only [isSt,hdv,n3,n10,yA,decide_false];exact jO (q0 rfl (eqF n10 _)) (q0 rfl (eqF n3 _))
   | fail z=>simp only [isSt,hdv,n5,n11,yA,decide_false];exact jO (q0 rfl (eqF n11 _)) (q0 rfl (eqF n5 _))
   | go f as vs=>simp only [isSt,hdv,n7,n12,yA,decide_false];exact jO (q0 rfl (eqF n12 _)) (q0 rfl (eqF n7 _))
   | if_ a b1 b2 va v1 v2=>simp only [isSt,hdv,n8,n13,yA,decide_false];exact jO (q0 rfl (eqF n13 _)) (q0 rfl (eqF n8 _))) (fun w hw hp=>by
   obtain ⟨x,_,lv⟩:=al w hw
   cases lv with
   | let_ z o as vs=>exact zm (ze rfl) rfl ja
   | call z f as vs=>exact zm (ze rfl) rfl ja
   | give a va=>exact zm (ze rfl) rfl ja
   | fail z=>exact zm (ze rfl) rfl ja
   | go f as vs=>exact zm (ze rfl) rfl ja
   | if_ a b1 b2 va v1 v2=>exact zm (ze rfl) rfl ja) ws.length 0 (lim+1) [] (by omega) (by simp [lim];omega)
  rw [List.drop_zero] at this
  exact this
 have o12:=o1.trans o2
 have tb2:=tb.old o12
 obtain ⟨ws2,E3,tr2⟩:=zd0 12 B (by omega) (by omega) tb2
 have tr1':TRs s2 ls ws:=TRs.mono o12.dk _ tr1
 have tu:yL [.ref r] s2=.ok (.tup ws) s2:=by rw [jo,yb (o2 _ _ hr)]
 obtain ⟨s3,A3,o3⟩:=zbj (t:=.row ls) (by simp only [dp];omega) (by simp only [sz];omega) tr2.row tr1'.row
 have E4:=zrq 12 B (by omega) (tb2.old o3)
 obtain ⟨s4,A4,o4⟩:=zbj (st:=s3) (t:=.num (dd:Int)) (v:=.int (dd:Int)) (w:=.int (dd:Int)) (by simp [dp]) (by simp [sz]) rfl rfl
 have o24:=o3.trans o4
 obtain ⟨ys5,s5,E5,tr5,o5⟩:=zjS B (by omega) (by omega) (tb2.old o24)
 have o25:=o24.trans o5
 obtain ⟨ys6,s6,E6,tr6,o6⟩:=zjV (a:=s2) B (by omega) tr1' (o25 _ _ (o2 _ _ hr))
 have o26:=o25.trans o6
 have szA:szs (ls.flatMap aimT)<=360000:=yS (zbK fun x hx=>by
  obtain ⟨i,hi,e⟩:=wX hx
  have hw:i<ws.length:=by omega
  obtain ⟨x',hx',tx⟩:=tr1.get (zU hw)
  rw [zU hi] at hx'
  cases hx'
  rw [<-e]
  exact (zd2 (wV B _ (jy hi) _ tx)).1) bs2
 have dpA:dps (ls.flatMap aimT)<=64:=zbL fun x hx=>by
  obtain ⟨i,hi,e⟩:=wX hx
  have hw:i<ws.length:=by omega
  obtain ⟨x',hx',tx⟩:=tr1.get (zU hw)
  rw [zU hi] at hx'
  cases hx'
  have h1:=(zd2 (wV B _ (jy hi) _ tx)).2
  have h2:=wT (jy hi)
  rw [<-e]
  omega
 obtain ⟨s7,A7,o7⟩:=zbj (st:=s6) (t:=.row (ls.flatMap aimT)) (by simp only [dp];omega) (by simp only [sz];omega) (TRs.row (TRs.mono (o5.trans o6).dk _ tr5)) (TRs.row (TRs.mono o26.dk _ tr6))
 have o27:=o26.trans o7
 obtain ⟨ys8,s8,E8,tr8,o8⟩:=zsa B (by omega) (by omega) (tb2.old o27)
 have szS:szs (ls.flatMap stpT)<=360000:=yS (zbK fun x hx=>by
  obtain ⟨i,hi,e⟩:=wX hx
  have hw:i<ws.length:=by omega
  obtain ⟨x',hx',tx⟩:=tr1.get (zU hw)
  rw [zU hi] at hx'
  cases hx'
  rw [<-e]
  exact (zjT (wV B _ (jy hi) _ tx)).1) bs2
 have dpS:dps (ls.flatMap stpT)<=64:=zbL fun x hx=>by
  obtain ⟨i,hi,e⟩:=wX hx
  have hw:i<ws.length:=by omega
  obtain ⟨x',hx',tx⟩:=tr1.get (zU hw)
  rw [zU hi] at hx'
  cases hx'
  have h1:=(zjT (wV B _ (jy hi) _ tx)).2
  have h2:=wT (jy hi)
  rw [<-e]
  omega
 have nmT:TRs st (ls.flatMap stpT) (ws.flatMap stB):=tr1.flat (fun x w hx t=>zjP (wV B x hx w t))
 obtain ⟨s9,A9,o9⟩:=zbj (st:=s8) (t:=.row (ls.flatMap stpT)) (by simp only [dp];omega) (by simp only [sz];omega) (TRs.row (TRs.mono o8.dk _ tr8)) (TRs.row (TRs.mono (o12.trans (o27.trans o8)).dk _ nmT))
 refine ⟨s9,ya rfl (zq (zc1 (zt (zB (zm (ze rfl) rfl jZ)) E1)) (zq (zG (zt (zB C) (by rw [jo,yb (yi _ _)]))) (zq (zQ (jO (zbb (b:=true) (zE (zt (zy (zt (zB (zm (ze rfl) rfl jZ)) E3) (zt (zB (ze rfl)) tu)) A3))) (zbb (b:=true) (zE (zt (zy (zt (zB (zm (ze rfl) rfl jZ)) E4) (ze rfl)) A4))))) (zW (zeJ (zt (zy (zt (zB (zm (ze rfl) rfl jZ)) E5) (zt (zB (ze rfl)) E6)) A7) (zt (zy (zt (zB (zm (ze rfl) rfl jZ)) E8) (ze rfl)) A9)))))),o12.trans (o27.trans (o8.trans o9))⟩
def vlT (x:Tr):List Tr:=(atsT x).flatMap valT
def vlB (w:PV):List PV:=(atsV w).flatMap valB
def zbm {st:Sto}{D:Nat}{x:Tr}{w:PV}(h:LV st D x w):TRs st (vlT x) (vlB w)/\(vlB w).length<=6/\∀a∈atsV w,∃z y,a=.tup [.str z,y]:=by
 obtain ⟨h1,h2,h3⟩:=zc6 h
 have hl:=h1.len
 refine ⟨h1.flat fun a w ha t=>(zjQ (h2 a ha) t).1,?_,fun a ha=>?_⟩
 ·have:=zfO (A:=valB) (m:=1) (fun w=>by unfold valB;split<;>simp) (atsV w)
  unfold vlB;omega
 ·obtain ⟨i,hi,e⟩:=wX ha
  obtain ⟨x',hx',t⟩:=h1.get (i:=i) (x:=a) (by rw [zU hi,e])
  exact (zjQ (h2 x' (j3 hx')) t).2
def zjW {D:Nat}{a:Tr}(h:Atm D a):szs (valT a)<=sz a/\dps (valT a)<=D:=by
 cases h with
 | of z=>simp only [valT,hdw,n16,ym];exact ⟨yR _,yR _⟩
 | is t _ hd _=>simp only [valT,hdw,yw];exact ⟨by simp only [arg,zaj,wW,zak,sz,szs];omega,by simp only [arg,zaj,wW,zak,dp,dps];omega⟩
def zd4 {D:Nat}{as:List Tr}(h:∀a∈as,Atm D a):szs (as.flatMap valT)<=szs as/\dps (as.flatMap valT)<=D:=⟨zbK fun a ha=>(zjW (h a ha)).1,zbL fun a ha=>(zjW (h a ha)).2⟩
def zd5 {D:Nat}{x:Tr}(h:Stp D x):szs (vlT x)<=sz x/\dps (vlT x)<=D:=by
 cases h with
 | let_ z o as h hl=>have:=zd4 h;simp only [vlT,atsT,hdw,true_or,yw];exact ⟨by have:=this.1;show szs (as.flatMap valT)<=_;simp only [sz,szs];omega,this.2⟩
 | call z f as h hl=>have:=zd4 h;simp only [vlT,atsT,hdw,or_true,yw];exact ⟨by have:=this.1;show szs (as.flatMap valT)<=_;simp only [sz,szs];omega,this.2⟩
def zjX {D:Nat}{a:Tr}(h:Atm D a):szs ([a].flatMap valT)<=sz a/\dps ([a].flatMap valT)<=D:=by
 have:=zd4 (as:=[a]) fun b hb=>by rw [jw.mp hb];exact h
 exact ⟨by have:=this.1;simp only [szs] at this;omega,this.2⟩
def zjY {D:Nat}{x:Tr}(h:End0 D x):szs (vlT x)<=sz x/\dps (vlT x)<=D:=by
 cases h with
 | give a h=>have:=zjX h;simp only [vlT,atsT,hdw,n3,n10,n4,n14,yA,ym];exact ⟨by have:=this.1;show szs ([a].flatMap valT)<=_;simp only [sz,szs];omega,this.2⟩
 | fail z h=>simp only [vlT,atsT,hdw,n5,n11,n6,yA,ym,yw];exact ⟨yR _,yR _⟩
 | go f as h hl=>have:=zd4 h;simp only [vlT,atsT,hdw,n7,n12,yA,ym,yw];exact ⟨by have:=this.1;show szs (as.flatMap valT)<=_;simp only [sz,szs];omega,this.2⟩
def zse {D:Nat}{t:Tr}{ls:List Tr}{dd:Nat}(B:Blk D t ls dd):szs (ls.flatMap vlT)<=sz t/\dps (ls.flatMap vlT)<=D:=by
 induction B with
 | leaf ss e hS hE =>
  have a:=zbK (A:=vlT) (ls:=ss) fun x hx=>(zd5 (hS x hx)).1
  have b:=(zjY hE).1
  refine ⟨?_,zbL fun x hx=>?_⟩
  ·rw [List.flatMap_append,zax,List.flatMap_singleton]
   simp only [sz,szs];omega
  ·rcases wE.mp hx with q|q
   ·exact (zd5 (hS x q)).2
   ·rw [jw.mp q];exact (zjY hE).2
 | node ss a b1 b2 l1 l2 d1 d2 hS hA _ _ h1 h2 =>
  have ha:=zbK (A:=vlT) (ls:=ss) fun x hx=>(zd5 (hS x hx)).1
  have ifv:vlT (.row [.word "if", a,b1,b2])=[a].flatMap valT:=by simp only [vlT,atsT,hdw,n8,n13,n9,n15,yA,ym];rfl
  have hb:=zjX hA
  refine ⟨?_,?_⟩
  ·rw [List.flatMap_append,List.flatMap_append,List.flatMap_append,zax,zax,zax,List.flatMap_singleton,ifv]
   have:=hb.1
   have:=h1.1
   have:=h2.1
   simp only [sz,szs];omega
  ·rw [List.flatMap_append,List.flatMap_append,List.flatMap_append,List.flatMap_singleton,ifv]
   exact zc7 (zc7 (zc7 (zbL fun x hx=>(zd5 (hS x hx)).2) hb.2) h1.2) h2.2
abbrev bV1:zk->Mo Fl:=(yH (yC zdu (zd 1) (wR (yO (zp zcW (zc (zd 3) zh))) (mB (zj ye (zj zw (zd 0) (mC (.int 0))) (mC (.str "is")))) (zj zw (zd 0) (mC (.int 1))))))
def zsf {s:Sto}{n k:Nat}{xs ys:List PV}(h:s[n]?=some (.lst xs)) (h':s[k]?=some (.lst ys)) (hl:xs.length+ys.length<=1000000):zdu (.ref n) (.ref k) s=.ok .non (s.set n (.lst (xs++ys))):=by
 show yo s n _=_
 rw [yb h,yb h']
 exact zH (by simpa [lim] using hl)
def zsg {z:Str} {y:PV} {e:zk} {s:Sto}:(mB (zj ye (zj zw (zd 0) (mC (.int 0))) (mC (.str "is")))) (some (.tup [.str z,y])::e) s=.ok (isIs (.tup [.str z,y])) s:=q0 rfl (by rw [zhW];rfl)
def zsh {a:Sto}{D:Nat}{x:Tr}{w:PV}(h:LV a D x w) {s:Sto}{n:Nat}{A:List PV}{x0 x2:Option PV}(hA:s[n]?=some (.lst A)) (hl:A.length+6<=1000000):∃s',bV1 [x0,sR n,x2,some w] s=.ok (.nx [x0,sR n,x2,some w]) s'/\s'[n]?=some (.lst (A++vlB w))/\∀(m:Nat) so,m≠n->s[m]?=some so->s'[m]?=some so:=by
 obtain ⟨_,vl,at_⟩:=zbm h
 obtain ⟨_,_,al⟩:=zc6 h
 have hal:=(zc6 h).1.len
 have C:(wR (yO (zp zcW (zc (zd 3) zh))) (mB (zj ye (zj zw (zd 0) (mC (.int 0))) (mC (.str "is")))) (zj zw (zd 0) (mC (.int 1)))) [x0,sR n,x2,some w] s=.ok (.ref s.length) (s++[.lst (vlB w)]):=by
  rw [zdE,j7,zt (zB (ze rfl)) (zr6 h s)]
  simp only [zP,seqOf]
  show (if (atsV w).length<=lim then compLI _ _ _ (atsV w) [] s else .stuck)=_
  rw [zH (by simp [lim];omega)]
  exact zfL (p:=isIs) (f:=argv 1) (atsV w) (fun b hb=>by obtain ⟨z,y,rfl⟩:=at_ b hb;exact zsg) (fun b hb _=>by obtain ⟨z,y,rfl⟩:=at_ b hb;exact zm (ze rfl) rfl ja) []
 have hA':(s++[SO.lst (vlB w)])[n]?=some (.lst A):=yc _ _ _ _ hA
 refine ⟨(s++[SO.lst (vlB w)]).set n (.lst (A++vlB w)),jU (jV (ze rfl) hA C (zsf hA' (yi _ _) (by omega))),yZ (zM hA'),fun m so q e=>?_⟩
 rw [yh (yJ q)]
 exact yc _ _ _ _ e
def zjZ {a:Sto}{D:Nat}{n:Nat}{x0 x2:Option PV}:∀(ws:List PV),(∀w∈ws,∃x,LV a D x w)->∀(s:Sto) (A:List PV) (x3:Option PV),s[n]?=some (.lst A)->A.length+6*ws.length<=1000000->∃s' y3,forL (gN 3) bV1 ws [x0,sR n,x2,x3] s=.ok (.nx [x0,sR n,x2,y3]) s'/\s'[n]?=some (.lst (A++ws.flatMap vlB))/\∀(m:Nat) so,m≠n->s[m]?=some so->s'[m]?=some so
 | [],_,s,A,x3,hA,_=>⟨s,x3,rfl,by simpa using hA,fun _ _ _ e=>e⟩
 | w::ws,al,s,A,x3,hA,hl=>by
  obtain ⟨x,h⟩:=al w (yY ..)
  rw [wq] at hl
  obtain ⟨s1,E,g1,g2⟩:=zsh h (x0:=x0) (x2:=x2) hA (by omega)
  have vl:=(zbm h).2.1
  obtain ⟨s2,y3,E2,k1,k2⟩:=zjZ ws (fun y hy=>al y (jc _ hy)) s1 (A++vlB w) (some w) g1 (by rw [jG];omega)
  refine ⟨s2,y3,?_,by rw [k1,wY,zcg],fun m so q e=>k2 m so q (g2 m so q e)⟩
  unfold forL
  show (bV1 [x0,sR n,x2,some w] s).bind _=_
  rw [E,zP]
  exact E2
def zsj {fs:List Tr}{zs:List Str}(P:Prg fs zs):∃L:Nat->List Tr,∀(i:Nat) f,fs[i]?=some f->∃z b dd,zs[i]?=some z/\Fn f z b (L i) dd:=by
 have h:∀i:Nat,∃ls:List Tr,∀f,fs[i]?=some f->∃z b dd,zs[i]?=some z/\Fn f z b ls dd:=fun i=>by
  by_cases hi:i<fs.length
  ·have hz:i<zs.length:=by rw [P.len];exact hi
   obtain ⟨b,ls,dd,F⟩:=P.fn i _ _ (zU hi) (zU hz)
   refine ⟨ls,fun f hf=>?_⟩
   rw [zU hi] at hf
   cases hf
   exact ⟨_,b,dd,zU hz,F⟩
  ·exact ⟨[],fun f hf=>absurd (yI.mp hf).1 hi⟩
 exact ⟨fun i=>(h i).choose,fun i=>(h i).choose_spec⟩
def VT (L:Nat->List Tr) (n:Nat):List Tr:=(List.range n).flatMap fun j=>(L j).flatMap vlT
def zfP {L:Nat->List Tr}{n:Nat}:VT L (n+1)=VT L n++(L n).flatMap vlT:=by
 unfold VT
 rw [jI,List.flatMap_append,List.flatMap_singleton]
def zj0 {fs:List Tr}{zs:List Str}{L:Nat->List Tr}(hL:∀(i:Nat) f,fs[i]?=some f->∃z b dd,zs[i]?=some z/\Fn f z b (L i) dd):∀i,i<=fs.length->szs (VT L i)<=szs (fs.take i)/\dps (VT L i)<=59
 | 0,_=>by simp [VT,szs,dps]
 | i+1,hi=>by
  obtain ⟨h1,h2⟩:=zj0 hL i (by omega)
  have hf:fs[i]?=some (fs[i]'(by omega)):=zU (by omega)
  obtain ⟨z,b,dd,_,⟨ps,e,_⟩,⟨D,B,hD⟩,_,_⟩:=hL i _ hf
  have v:=zse B
  rw [zfP,zi4 hf,zax,zax]
  refine ⟨?_,zc7 h2 (by have:=v.2;omega)⟩
  have:=v.1
  rw [e]
  simp only [sz,szs]
  omega
def zd6 {A:PV->List PV}{m:Nat}:∀(ws:List PV),(∀w∈ws,(A w).length<=m)->(ws.flatMap A).length<=ws.length*m
 | [],_=>by simp
 | w::ws,h=>by
  have:=h w (yY ..)
  have:=zd6 ws fun y hy=>h y (jc _ hy)
  rw [wY,jG,wq,Nat.add_mul];omega
def zj1 {s s':Sto}{n:Nat}{A:List PV}(hA:s[n]?=some (.lst A)) (h:∀(m:Nat) so,m≠n->s[m]?=some so->s'[m]?=some so):Dk s s':=fun m ks xs e=>h m _ (fun q=>by rw [q,hA] at e;cases e) e
def zsk {fs:List Tr}{zs:List Str}{L:Nat->List Tr}{st:Sto}{fv:List PV}(P:Prg fs zs) (hL:∀(i:Nat) f,fs[i]?=some f->∃z b dd,zs[i]?=some z/\Fn f z b (L i) dd) (tr:TRs st fs fv):∃ys s1,zfo [.tup fv] st=.ok (.tup ys) s1/\TRs s1 (VT L fs.length) ys/\Old st s1:=by
 have fl:=tr.len
 have few:=P.few
 obtain ⟨e',s',F,⟨z2,z3,he⟩,ob,vs,hv,tv,vl⟩:=for_tup (g:=gN 2) (body:=(yU (yO (zp (wS 12) (zc (zj zw (zd 2) (mC (.int 2))) zh))) (gN 3) bV1)) fv (fun i e s=>(∃z2 z3,e=[some (.tup fv),sR st.length,z2,z3])/\(∀(m:Nat) so,m≠st.length->st[m]?=some so->s[m]?=some so)/\∃vs,s[st.length]?=some (.lst vs)/\TRs s (VT L i) vs/\vs.length<=600*i) (fun i w e s hw ⟨⟨z2,z3,he⟩,ob,vs,hv,tv,vl⟩=>by
  subst he
  obtain ⟨f,hf,tf⟩:=tr.get hw
  obtain ⟨z,b,dd,_,Fn_⟩:=hL i f hf
  have il:=(yI.mp hf).1
  obtain ⟨pv,bv,rfl,tb⟩:=zcf Fn_ tf
  obtain ⟨_,⟨D,B,hD⟩,hd,hn⟩:=Fn_
  have os:Old st s:=fun m so e=>ob m so (by have:=zM e;omega) e
  obtain ⟨ws,E,trw⟩:=zd0 12 B (by omega) (by omega) (tb.old os)
  have wl:=trw.len
  have al:∀w∈ws,∃x,LV s D x w:=fun w hw=>by obtain ⟨x,_,h⟩:=zce B trw w hw;exact ⟨x,h⟩
  obtain ⟨s2,y3,E2,k1,k2⟩:=zjZ (a:=s) (D:=D) (n:=st.length) (x0:=some (.tup fv)) (x2:=some (.tup [.str z,pv,bv])) ws al s vs z3 hv (by omega)
  have V:TRs s ((L i).flatMap vlT) (ws.flatMap vlB):=trw.flat fun x w hx t=>(zbm (wV B x hx w t)).1
  have dk:=zj1 hv k2
  refine ⟨[some (.tup fv),sR st.length,some (.tup [.str z,pv,bv]),z3],[some (.tup fv),sR st.length,some (.tup [.str z,pv,bv]),y3],s2,rfl,?_,⟨_,_,rfl⟩,fun m so q e=>k2 m so q (ob m so q e),vs++ws.flatMap vlB,k1,?_,?_⟩
  ·rw [zan,j7,zt (zB (zm (ze rfl) rfl jZ)) E]
   simp only [zP,seqOf]
   exact E2
  ·rw [zfP];exact (TRs.mono dk _ tv).append (TRs.mono dk _ V)
  ·have:=zd6 (A:=vlB) (m:=6) ws fun w hw=>by obtain ⟨x,h⟩:=al w hw;exact (zbm h).2.1
   rw [jG];omega) fv.length 0 [some (.tup fv),sR st.length,none,none] (st++[.lst []]) (by omega) ⟨⟨none,none,rfl⟩,fun m so _ e=>yc _ _ _ _ e,[],yi _ _,rfl,by simp⟩
 subst he
 have FO:(yU (yO (zd 0)) (gN 2) (yU (yO (zp (wS 12) (zc (zj zw (zd 2) (mC (.int 2))) zh))) (gN 3) bV1)) [some (.tup fv),sR st.length,none,none] (st++[.lst []])=.ok (.nx [some (.tup fv),sR st.length,z2,z3]) s':=by
  rw [zan,j7,ze rfl]
  simp only [zP,seqOf]
  exact F
 rw [<-fl] at tv
 exact ⟨vs,s',ya rfl (zq (zG (jp jD (by simp))) (zq FO (zW (zt (zB (ze rfl)) (by rw [jo,yb hv]))))),tv,fun m so e=>ob m so (by have:=zM e;omega) e⟩
abbrev bV3:zk->Mo Fl:=(yd (mB (zj ye (zj zw (zd 4) (mC (.int 0))) (mC (.str "is"))))
  (yH (yC yM (zd 1) (zj zw (zd 4) (mC (.int 1)))))
  yg)
def zj2 {n:Nat}{x0 x2 x3:Option PV}:∀(as:List PV),(∀a∈as,∃z y,a=.tup [.str z,y])->∀(s:Sto) (A:List PV) (x4:Option PV),s[n]?=some (.lst A)->A.length+as.length<=1000000->∃s' y4,forL (gN 4) bV3 as [x0,sR n,x2,x3,x4] s=.ok (.nx [x0,sR n,x2,x3,y4]) s'/\s'[n]?=some (.lst (A++as.flatMap valB))/\∀(m:Nat) so,m≠n->s[m]?=some so->s'[m]?=some so
 | [],_,s,A,x4,hA,_=>⟨s,x4,rfl,by simpa using hA,fun _ _ _ e=>e⟩
 | a::as,al,s,A,x4,hA,hl=>by
  obtain ⟨z,y,rfl⟩:=al a (yY ..)
  rw [wq] at hl
  have one:∃s1,bV3 [x0,sR n,x2,x3,some (.tup [.str z,y])] s=.ok (.nx [x0,sR n,x2,x3,some (.tup [.str z,y])]) s1/\s1[n]?=some (.lst (A++valB (.tup [.str z,y])))/\∀(m:Nat) so,m≠n->s[m]?=some so->s1[m]?=some so:=by
   by_cases hz:z = "is"
   ·subst hz
    refine ⟨_,yx (q0 rfl (eqY _)) (jU (jV (ze rfl) hA (zm (ze rfl) rfl ja) (zfN hA (by omega)))),?_,fun m so q e=>by rw [yh (yJ q)];exact e⟩
    simp only [valB,isIs,hdv,decide_true,yw]
    exact yZ (zM hA)
   ·refine ⟨s,zQ (q0 rfl (eqF hz _)),?_,fun _ _ _ e=>e⟩
    simp only [valB,isIs,hdv,hz,decide_false]
    simpa using hA
  obtain ⟨s1,E,g1,g2⟩:=one
  have vl:(valB (.tup [.str z,y])).length<=1:=by unfold valB;split<;>simp
  obtain ⟨s2,y4,E2,k1,k2⟩:=zj2 as (fun b hb=>al b (jc _ hb)) s1 (A++valB (.tup [.str z,y])) (some (.tup [.str z,y])) g1 (by rw [jG];omega)
  refine ⟨s2,y4,?_,by rw [k1,wY,zcg],fun m so q e=>k2 m so q (g2 m so q e)⟩
  unfold forL
  show (bV3 [x0,sR n,x2,x3,some (.tup [.str z,y])] s).bind _=_
  rw [E,zP]
  exact E2
abbrev bV2:zk->Mo Fl:=(yU (yO (zp zcX (zc (zd 3) zh))) (gN 4) bV3)
def zsl {a:Sto}{D:Nat}{n r:Nat}{x0 x2 x3:Option PV}{ws:List PV}(al:∀w∈ws,∃x,LV a D x w) {s:Sto}{A:List PV}{x4:Option PV}(hA:s[n]?=some (.lst A)) (hr:s[r]?=some (.lst ws)) (ne:r≠n) (hl:A.length+6*ws.length<=900000):∃s' y3 y4,forR (gN 3) bV2 r (lim+1) 0 [x0,sR n,x2,x3,x4] s=.ok (.nx [x0,sR n,x2,y3,y4]) s'/\s'[n]?=some (.lst (A++ws.flatMap vlB))/\∀(m:Nat) so,m≠n->s[m]?=some so->s'[m]?=some so:=by
 obtain ⟨e',s',F,⟨y3,y4,he⟩,h1,h2,h3⟩:=zdX (g:=gN 3) (body:=bV2) (n:=r) ws (fun i e s1=>(∃y3 y4,e=[x0,sR n,x2,y3,y4])/\s1[r]?=some (.lst ws)/\s1[n]?=some (.lst (A++(ws.take i).flatMap vlB))/\∀(m:Nat) so,m≠n->s[m]?=some so->s1[m]?=some so) (fun i e s h=>h.2.1) (fun i w e s1 hw ⟨⟨y3,y4,he⟩,h1,h2,h3⟩=>by
  subst he
  obtain ⟨x,lv⟩:=al w (j3 hw)
  obtain ⟨_,v6,at_⟩:=zbm lv
  have al6:=(zc6 lv).2.2
  have hal:=(zc6 lv).1.len
  have tl:((ws.take i).flatMap vlB).length<=6*ws.length:=by
   have:=zd6 (A:=vlB) (m:=6) (ws.take i) fun w hw=>by obtain ⟨x,h⟩:=al w (List.mem_of_mem_take hw);exact (zbm h).2.1
   have:(ws.take i).length<=ws.length:=by simp;omega
   omega
  obtain ⟨s2,z4,E,g1,g2⟩:=zj2 (n:=n) (x0:=x0) (x2:=x2) (x3:=some w) (atsV w) at_ s1 (A++(ws.take i).flatMap vlB) y4 h2 (by rw [jG];omega)
  refine ⟨[x0,sR n,x2,some w,y4],[x0,sR n,x2,some w,z4],s2,rfl,?_,⟨_,_,rfl⟩,g2 _ _ ne h1,by rw [zjU hw,<-zcg];exact g1,fun m so q e=>g2 m so q (h3 m so q e)⟩
  show (yU (yO (zp zcX (zc (zd 3) zh))) (gN 4) bV3) _ _=_
  rw [zan,j7,zt (zB (ze rfl)) (zr7 lv s1)]
  simp only [zP,seqOf]
  exact E) ws.length 0 (lim+1) [x0,sR n,x2,x3,x4] s (by omega) (by simp [lim];omega) ⟨⟨_,_,rfl⟩,hr,by simpa using hA,fun _ _ _ e=>e⟩
 subst he
 rw [List.take_length] at h2
 exact ⟨s',y3,y4,F,h2,h3⟩
def zsm {fs:List Tr}{zs:List Str}{L:Nat->List Tr}{st:Sto}{fv:List PV}(P:Prg fs zs) (hL:∀(i:Nat) f,fs[i]?=some f->∃z b dd,zs[i]?=some z/\Fn f z b (L i) dd) (tr:TRs st fs fv):∃ys s1,zfp [.tup fv] st=.ok (.tup ys) s1/\TRs s1 (VT L fs.length) ys/\Old st s1:=by
 have fl:=tr.len
 have few:=P.few
 obtain ⟨e',s',F,⟨z2,z3,z4,he⟩,ob,vs,hv,tv,vl⟩:=for_tup (g:=gN 2) (body:=(yU (yO (zj zw (zp zbE (zc (zj zw (zd 2) (mC (.int 2))) zh)) (mC (.int 0)))) (gN 3) bV2)) fv (fun i e s=>(∃z2 z3 z4,e=[some (.tup fv),sR st.length,z2,z3,z4])/\(∀(m:Nat) so,m≠st.length->st[m]?=some so->s[m]?=some so)/\∃vs,s[st.length]?=some (.lst vs)/\TRs s (VT L i) vs/\vs.length<=600*i) (fun i w e s hw ⟨⟨z2,z3,z4,he⟩,ob,vs,hv,tv,vl⟩=>by
  subst he
  obtain ⟨f,hf,tf⟩:=tr.get hw
  obtain ⟨z,b,dd,_,Fn_⟩:=hL i f hf
  have il:=(yI.mp hf).1
  obtain ⟨pv,bv,rfl,tb⟩:=zcf Fn_ tf
  obtain ⟨_,⟨D,B,hD⟩,hd,hn⟩:=Fn_
  have os:Old st s:=fun m so e=>ob m so (by have:=zM e;omega) e
  obtain ⟨ws,r,s1,E,hr,trw,o1,rl⟩:=zfK B (by omega) (by omega) (tb.old os)
  have wl:=trw.len
  have al:∀w∈ws,∃x,LV s D x w:=fun w hw=>by obtain ⟨x,_,h⟩:=zce B trw w hw;exact ⟨x,h⟩
  have hv1:=o1 _ _ hv
  have ne:r≠st.length:=by have:=zM hv;omega
  obtain ⟨s2,y3,y4,E2,k1,k2⟩:=zsl (a:=s) (D:=D) (n:=st.length) (r:=r) (x0:=some (.tup fv)) (x2:=some (.tup [.str z,pv,bv])) (x3:=z3) (x4:=z4) al hv1 hr ne (by omega)
  have V:TRs s ((L i).flatMap vlT) (ws.flatMap vlB):=trw.flat fun x w hx t=>(zbm (wV B x hx w t)).1
  have dk:=zj1 hv1 k2
  refine ⟨[some (.tup fv),sR st.length,some (.tup [.str z,pv,bv]),z3,z4],[some (.tup fv),sR st.length,some (.tup [.str z,pv,bv]),y3,y4],s2,rfl,?_,⟨_,_,_,rfl⟩,fun m so q e=>k2 m so q (o1 m so (ob m so q e)),vs++ws.flatMap vlB,k1,?_,?_⟩
  ·rw [zan,j7,zm (zt (zB (zm (ze rfl) rfl jZ)) E) rfl jF]
   simp only [zP,seqOf]
   rw [yb hr]
   exact E2
  ·rw [zfP];exact (TRs.mono dk _ (TRs.mono o1.dk _ tv)).append (TRs.mono dk _ (TRs.mono o1.dk _ V))
  ·have:=zd6 (A:=vlB) (m:=6) ws fun w hw=>by obtain ⟨x,h⟩:=al w hw;exact (zbm h).2.1
   rw [jG];omega) fv.length 0 [some (.tup fv),sR st.length,none,none,none] (st++[.lst []]) (by omega) ⟨⟨none,none,none,rfl⟩,fun m so _ e=>yc _ _ _ _ e,[],yi _ _,rfl,by simp⟩
 subst he
 have FO:(yU (yO (zd 0)) (gN 2) (yU (yO (zj zw (zp zbE (zc (zj zw (zd 2) (mC (.int 2))) zh)) (mC (.int 0)))) (gN 3) bV2)) [some (.tup fv),sR st.length,none,none,none] (st++[.lst []])=.ok (.nx [some (.tup fv),sR st.length,z2,z3,z4]) s':=by
  rw [zan,j7,ze rfl]
  simp only [zP,seqOf]
  exact F
 rw [<-fl] at tv
 exact ⟨vs,s',ya rfl (zq (zG (jp jD (by simp))) (zq FO (zW (zt (zB (ze rfl)) (by rw [jo,yb hv]))))),tv,fun m so e=>ob m so (by have:=zM e;omega) e⟩
def zsn:∀n,n<201->HT.stepN ((1+n/6:Nat):Int) n<=1000:=by decide +kernel
def zso {k:Int}{xs:List PV}(h:HT.stepN k xs.length<=1000):(HT.stepP k xs).length<=1000:=by
 unfold HT.stepP
 refine yS (List.length_filterMap_le _ _) ?_
 simpa [HT.stepAt] using h
def zsp {k:Int}{xs:List PV}{w:PV}(h:w∈HT.stepP k xs):∃i:Nat,xs[i]?=some w:=by
 unfold HT.stepP at h
 obtain ⟨i,_,e⟩:=List.mem_filterMap.mp h
 exact ⟨i,e⟩
def zfQ {fs:List Tr}{zs:List Str}{st:Sto}{ws:List PV}{i:Nat}{w:PV}(P:Prg fs zs) (tr:TRs st fs ws) (hw:ws[i]?=some w):∃f z b ls dd,fs[i]?=some f/\zs[i]?=some z/\Fn f z b ls dd/\TR st f w:=by
 obtain ⟨f,hf,t⟩:=tr.get hw
 have hi:=(yI.mp hf).1
 have hz:i<zs.length:=by rw [P.len];exact hi
 obtain ⟨b,ls,dd,F⟩:=P.fn i f _ hf (zU hz)
 exact ⟨f,_,b,ls,dd,hf,zU hz,F,t⟩
def zsq {fs:List Tr}{zs:List Str}(P:Prg fs zs):dps fs<=65:=wL fun f hf=>by
 obtain ⟨i,hi,e⟩:=wX hf
 have hz:i<zs.length:=by rw [P.len];exact hi
 obtain ⟨b,ls,dd,F⟩:=P.fn i f _ (by rw [zU hi,e]) (zU hz)
 exact zjv F
def zj3 {st:Sto}{f b:Tr}{z:Str}{ls:List Tr}{dd:Nat}{v w:PV}(F:Fn f z b ls dd) (tv:TR st f v) (tw:TR st f w):∃s1,jW 75 [v,w] st=.ok (.bl true) s1/\Old st s1:=zbj (by have:=zjv F;omega) (by have:=zfF F;have:=F.nl;omega) tv tw
def zsr (ns:List Int):∃st,ziT [.frl (ns.map .int)] []=.ok (.bl true) st:=by
 obtain ⟨d,l,s1,E1,dc1⟩:=zrv ns []
 obtain ⟨fs,zs,l',P,DD⟩:=zrM l
 have dl1:=zM dc1
 let s2:=s1++[SO.lst (l.map PV.int)]
 have L1:jY [.ref d] s1=.ok (.ref s1.length) s2:=zc3 dc1
 obtain ⟨v1,s3,E3,tv1,x3⟩:=DD s1.length s2 [] (yi _ _) (fun _ h=>nomatch h)
 have dc3:Dc d l s3:=x3.ob _ _ (by omega) (yc _ _ _ _ dc1)
 have dl3:=zM dc3
 let s4:=s3++[SO.lst (l.map PV.int)]
 have L2:jY [.ref d] s3=.ok (.ref s3.length) s4:=zc3 dc3
 have dc4:Dc s3.length l s4:=yi _ _
 obtain ⟨v2,s5,E5,tv2,x5⟩:=DD s3.length s4 [] dc4 (fun _ h=>nomatch h)
 have t1:TR s5 (.row fs) v1:=TR.mono zi5 _ (TR.mono (x5.vw dc4) _ (TR.mono (jX (yc _ _)) _ tv1))
 have t2:TR s5 (.row fs) v2:=TR.mono zi5 _ tv2
 obtain ⟨f1,rfl,r1⟩:=t1
 obtain ⟨f2,rfl,r2⟩:=t2
 have few:=P.few
 have pos:=P.pos
 have l1:=r1.len
 have l2:=r2.len
 generalize ek:1+fs.length/6=k
 have sl:(HT.stepP (k:Int) f1).length<=1000:=zso (by rw [<-l1,<-ek];exact zsn _ (by omega))
 obtain ⟨e6,s6,F6,⟨z5,he⟩,o6⟩:=for_tup (g:=gN 5) (body:=(yd (j1 (wg (mB (zp zcV (zc (zd 5) zh)))) (wg (mB (zp (jW 75) (zc (zp zcb (zc (zd 2) (zc (zj zw (zd 5) (mC (.int 0))) zh))) (zc (zd 5) zh))))))
  (zS (mC (.bl false)))
  yg)) (HT.stepP (k:Int) f1) (fun i e s=>(∃z5,e=[some (.frl (ns.map PV.int)),sR d,some (.tup f1),some (.tup f2),sI k,z5,none])/\Old s5 s) (fun i w e s hw ⟨⟨z5,he⟩,o⟩=>by
  subst he
  obtain ⟨j,hj⟩:=zsp (j3 hw)
  obtain ⟨f,z,b,ls,dd,hf,hz,F,t⟩:=zfQ P r1 hj
  obtain ⟨s',A,o'⟩:=zsd F (t.old o)
  have oo:=o.trans o'
  have BY:=zjA (TRs.mono oo.dk _ r1) P hz hj
  obtain ⟨s'',A',o''⟩:=zj3 F (t.old oo) (t.old oo)
  obtain ⟨pv,bv,rfl,tb⟩:=zcf F t
  exact ⟨[some (.frl (ns.map PV.int)),sR d,some (.tup f1),some (.tup f2),sI k,some (.tup [.str z,pv,bv]),none],_,s'',rfl,zQ (jO (zbb (b:=true) (zE (zt (zB (ze rfl)) A))) (zbb (b:=true) (zE (zt (zy (zt (zy (ze rfl) (zm (ze rfl) rfl jF)) BY) (ze rfl)) A')))),⟨_,rfl⟩,oo.trans o''⟩) (HT.stepP (k:Int) f1).length 0 [some (.frl (ns.map PV.int)),sR d,some (.tup f1),some (.tup f2),sI k,none,none] s5 (by omega) ⟨⟨none,rfl⟩,Old.refl _⟩
 subst he
 have ST:(zbz (zd 2) (pSome (zd 4))) [some (.frl (ns.map PV.int)),sR d,some (.tup f1),some (.tup f2),sI k,none,none] s5=.ok (.tup (HT.stepP (k:Int) f1)) s5:=by
  have pn:pSome (zd 4) [some (.frl (ns.map PV.int)),sR d,some (.tup f1),some (.tup f2),sI k,none,none] s5=.ok (some (k:Int)) s5:=zbc (ze rfl)
  show (zd 2 _ s5).bind _=_
  rw [ze (v:=.tup f1) rfl,zP]
  show (pSome (zd 4) _ s5).bind _=_
  rw [pn,zP]
  exact zH ⟨by omega,by omega⟩
 have FO:(yU (yO (zbz (zd 2) (pSome (zd 4)))) (gN 5) (yd (j1 (wg (mB (zp zcV (zc (zd 5) zh)))) (wg (mB (zp (jW 75) (zc (zp zcb (zc (zd 2) (zc (zj zw (zd 5) (mC (.int 0))) zh))) (zc (zd 5) zh))))))
  (zS (mC (.bl false)))
  yg)) [some (.frl (ns.map PV.int)),sR d,some (.tup f1),some (.tup f2),sI k,none,none] s5=.ok (.nx [some (.frl (ns.map PV.int)),sR d,some (.tup f1),some (.tup f2),sI k,z5,none]) s6:=by
  rw [zan,j7,ST]
  simp only [zP,seqOf]
  exact F6
 obtain ⟨L,hL⟩:=zsj P
 obtain ⟨ys7,s7,E7,tr7,o7⟩:=zsk P hL (TRs.mono o6.dk _ r1)
 obtain ⟨ys8,s8,E8,tr8,o8⟩:=zsm P hL (TRs.mono (o6.trans o7).dk _ r2)
 obtain ⟨vz,vd⟩:=zj0 hL fs.length (yf _)
 rw [List.take_length] at vz
 have tot:=P.tot
 obtain ⟨s9,A9,o9⟩:=zbj (st:=s8) (t:=.row (VT L fs.length)) (by simp only [dp];omega) (by simp only [sz];omega) (TRs.row (TRs.mono o8.dk _ tr7)) (TRs.row tr8)
 have o59:Old s5 s9:=o6.trans (o7.trans (o8.trans o9))
 obtain ⟨w0,f1',e0⟩:∃w0 f1',f1=w0::f1':=by
  cases f1 with
  | nil=>have:fs.length=0:=l1;omega
  | cons w r=>exact ⟨w,r,rfl⟩
 obtain ⟨fa,za,ba,la,da,hfa,hza,Fa,ta⟩:=zfQ (i:=0) (w:=w0) P r1 (by rw [e0];rfl)
 obtain ⟨pva,bva,ea,tba⟩:=zcf Fa ta
 have Fa':=Fa
 obtain ⟨_,⟨Da,Ba,hDa⟩,hda,hna⟩:=Fa
 obtain ⟨ys10,s10,E10,tr10,o10⟩:=zjS Ba (by omega) (by omega) (tba.old o59)
 obtain ⟨ws11,ra,s11,E11,hra,tr11,o11,_⟩:=zfK Ba (by omega) (by omega) ((tba.old o59).old o10)
 obtain ⟨ys12,s12,E12,tr12,o12⟩:=zjV (a:=s10) Ba (by omega) tr11 hra
 have bz:=zfD Ba
 have bs:=zjr Ba
 have bd:=zfE Ba
 have bds:=zjs Ba
 have bs2:szs la<=360000:=yS bs (yS (Nat.mul_le_mul (show da+1<=9 by omega) (show sz ba<=40000 by omega)) (by decide))
 have lvs:∀x∈la,∃w,LV s10 Da x w:=fun x hx=>by
  obtain ⟨i,hi,e⟩:=wX hx
  have hw:i<ws11.length:=by rw [<-tr11.len];exact hi
  obtain ⟨x',hx',tx⟩:=tr11.get (zU hw)
  rw [zU hi] at hx'
  cases hx'
  rw [<-e]
  exact ⟨_,wV Ba _ (jy hi) _ tx⟩
 have szA:szs (la.flatMap aimT)<=360000:=yS (zbK fun x hx=>by obtain ⟨w,h⟩:=lvs x hx;exact (zd2 h).1) bs2
 have dpA:dps (la.flatMap aimT)<=64:=zbL fun x hx=>by
  obtain ⟨w,h⟩:=lvs x hx
  have h1:=(zd2 h).2
  have h2:=wT hx
  omega
 obtain ⟨s13,A13,o13⟩:=zbj (st:=s12) (t:=.row (la.flatMap aimT)) (by simp only [dp];omega) (by simp only [sz];omega) (TRs.row (TRs.mono (o10.trans (o11.trans o12)).dk _ tr10)) (TRs.row (TRs.mono (o11.trans o12).dk _ tr12))
 have o5D:Old s5 s13:=o59.trans (o10.trans (o11.trans (o12.trans o13)))
 have pd:=zsq P
 obtain ⟨s14,A14,o14⟩:=zbj (st:=s13) (t:=.row fs) (by simp only [dp];omega) (by simp only [sz];omega) (TRs.row (TRs.mono o5D.dk _ r1)) (TRs.row (TRs.mono o5D.dk _ r2))
 have o5E:=o5D.trans o14
 have hl1:f1[f1.length-1]?=some (f1[f1.length-1]'(by omega)):=zU (by omega)
 have hl2:f2[f2.length-1]?=some (f2[f2.length-1]'(by omega)):=zU (by omega)
 obtain ⟨fz,zz,bz',lz',dz,hfz,hzz,Fz,tz⟩:=zfQ P r1 hl1
 obtain ⟨pvz,bvz,ez,_⟩:=zcf Fz tz
 have tz2:TR s5 fz (f2[f2.length-1]'(by omega)):=by
  obtain ⟨f',hf',t'⟩:=r2.get hl2
  have:f2.length-1=f1.length-1:=by omega
  rw [this,hfz] at hf'
  cases hf'
  exact t'
 have BYz:=zjA (TRs.mono o5E.dk _ r1) P hzz hl1
 obtain ⟨s15,A15,o15⟩:=zj3 Fz (tz.old o5E) (tz2.old o5E)
 have xl1:∀s:Sto,zw (.tup f1) (.int (-1)) s=.ok (f1[f1.length-1]'(by omega)) s:=fun s=>by
  rw [zhq,atI_last hl1];rfl
 have xl2:∀s:Sto,zw (.tup f2) (.int (-1)) s=.ok (f2[f2.length-1]'(by omega)) s:=fun s=>by
  rw [zhq,atI_last hl2];rfl
 have xz:∀s:Sto,zw (f1[f1.length-1]'(by omega)) (.int 0) s=.ok (.str zz) s:=fun s=>by rw [ez];exact jF
 have x0:∀s:Sto,zw (.tup f1) (.int 0) s=.ok (.tup [.str za,pva,bva]) s:=fun s=>by rw [e0,ea];exact jF
 have LN:yE [.tup f1] s5=.ok (.int (fs.length:Int)) s5:=by rw [zeI,l1]
 exact ⟨s15,ya rfl (zq (zG (zt (zB (ze rfl)) E1)) (zq (zG (zt (zB (zt (zB (ze rfl)) L1)) E3)) (zq (zG (zt (zB (zt (zB (ze rfl)) L2)) E5)) (zq (zG (zm rfl (zm (zt (zB (ze rfl)) LN) rfl (wM _ 6 (by decide) (by decide))) ((jP 1 _).trans (by rw [ek])))) (zq FO (zq (zQ (zbb (b:=true) (zE (zt (zy (zt (zB (ze rfl)) E7) (zt (zB (ze rfl)) E8)) A9)))) (zq (zG (zm (ze rfl) rfl (x0 _))) (zq (zQ (zbb (b:=true) (zE (zt (zy (zt (zB (zm (ze rfl) rfl jZ)) E10) (zt (zB (zm (zt (zB (zm (ze rfl) rfl jZ)) E11) rfl jF)) E12)) A13)))) (zW (zeJ (zt (zy (ze rfl) (ze rfl)) A14) (zt (zy (zt (zy (ze rfl) (zm (zm (ze rfl) (zaa rfl rfl) (xl1 _)) rfl (xz _))) BYz) (zm (ze rfl) (zaa rfl rfl) (xl2 _))) A15)))))))))))⟩
end FK25
open PySem PySem.W PyProof.Rows
set_option maxHeartbeats 0
namespace PySem.W.Fast
def tw10738531086247505793:=()
def tw10755459767760302534:=()
def tw13938950368111580485:=()
def tw14176830577492393336:=()
def tw14989257701754506899:=()
def tw15371446254751075288:=()
def tw1939532504119185429:=()
def tw1993860560073276443:=()
def tw2497158778231768424:=()
def tw3600518337074512567:=()
def tw3818131666802657358:=()
def tw383955897858954305:=()
def tw476413513955614492:=()
def tw5038693476858664466:=()
def tw5290393707035148455:=()
def tw6025072289511773404:=()
def tw6490091699469319951:=()
def tw7782281806036060728:=()
def tw815151707465999834:=()
def tw8646336048024331359:=()
def tw6090367890817826016:=()
def tw3434444806382439648:=()
def tw11580330514469120320:=()
def tw3979812842892386656:=()
def tw18343924297542965632:=()
def tw7156950394831539616:=()
def tw1031957679374639520:=()
def tw7449875054043605440:=()
def tw12893780005389805120:=()
def tw15443810872348336225:=()
def tw2059070008920900737:=()
def tw7450078728642109825:=()
def tw5363099244638618081:=()
def tw74663948371277633:=()
def tw16886350617538965506:=()
def tw3163217807179857922:=()
def tw3755915419497628706:=()
def tw4155370403949194338:=()
def tw17609847453510679042:=()
def tw7891871970215977698:=()
def tw9449106256036401986:=()
def tw8281039398285180770:=()
def tw8835452333821780259:=()
def tw5432874834905171395:=()
def tw16093186439581592035:=()
def tw9274933556345298723:=()
def tw11640217937080530819:=()
def tw890660297901460548:=()
def tw1432058875082836356:=()
def tw16460977569284743556:=()
def tw12278179424242486916:=()
def tw9037024423309567684:=()
def tw2473860055375291140:=()
def tw2964491474191921285:=()
def tw1711716937562295493:=()
def tw5029665332173436357:=()
def tw7072719223745375717:=()
def tw7983007090494275301:=()
def tw13050159067113572293:=()
def tw17061141170447380518:=()
def tw1896567366858444966:=()
def tw2223482398833415558:=()
def tw6862730295532410278:=()
def tw1589775094827678118:=()
def tw6476914457254133222:=()
def tw13520642288541536966:=()
def tw17355523458351426278:=()
def tw2486203689027660871:=()
def tw14218720794276908135:=()
def tw12244908846169985351:=()
def tw8631119922075221703:=()
def tw17523357860535001959:=()
def tw8623702553552382919:=()
def tw18396002191304646664:=()
def tw16217775412105195560:=()
def tw2810259913452938344:=()
def tw7148842861097315432:=()
def tw13166208584252299432:=()
def tw8495702330051731656:=()
def tw17745157685613742280:=()
def tw15857697019820801288:=()
def tw8991623874905412904:=()
def tw13997651772945361224:=()
def tw5419097350403292488:=()
def tw2625461754278809032:=()
def tw15858704347928230504:=()
def tw13435102599857380008:=()
def tw2791057311062819624:=()
def tw16885267941978153768:=()
def tw796050816773925864:=()
def tw12874141840109704233:=()
def tw4573085165934192841:=()
def tw11337939571669174537:=()
def tw11425248627073359113:=()
def tw12492198019759442377:=()
def tw11245886629863368169:=()
def tw6275630068390996585:=()
def tw1053313995919358601:=()
def tw4007469846208657097:=()
def tw11338288334836614889:=()
def tw5457915222827854633:=()
def tw15063816746116984713:=()
def tw10511018123266534345:=()
def tw4100007938799771754:=()
def tw11912099469482512586:=()
def tw2618685949271333354:=()
def tw4478654787941486154:=()
def tw14085569025281659562:=()
def tw9733568294967660362:=()
def tw3280069390304979946:=()
def tw9485320362202397867:=()
def tw4039190097506466283:=()
def tw10889120481242820107:=()
def tw2276436883638389323:=()
def tw14479423038600503115:=()
def tw16471387159689902444:=()
def tw2685113377615147372:=()
def tw14648320065911457388:=()
def tw8363115841319806668:=()
def tw12206921882397058988:=()
def tw11041927614218069037:=()
def tw2370766593442583821:=()
def tw15207807936149387565:=()
def tw7229622334968471949:=()
def tw4063573881387404685:=()
def tw7326280575537574285:=()
def tw16461020862680864173:=()
def tw14747563710385062381:=()
def tw10359059405588292173:=()
def tw15745447435639870349:=()
def tw1612442727989361613:=()
def tw16118948147000315150:=()
def tw6555143838719401422:=()
def tw4367557229581232622:=()
def tw664244091082734062:=()
def tw7736739695222416078:=()
def tw9085145740428716910:=()
def tw8189578056743136238:=()
def tw3505861326113034351:=()
def tw3098963735914918031:=()
def tw12644464911596689743:=()
def tw8786036253874965903:=()
def tw12804198508965487023:=()
def tw10542286040425421647:=()
def tw8194776649183911759:=()
def tw9491931449441620879:=()
def tw9072106039034801168:=()
def tw18400874811627184240:=()
def tw1174662520086510992:=()
def tw1647475980172131728:=()
def tw6987496393814749648:=()
def tw6497083409103311440:=()
def tw12393423190094860080:=()
def tw5090833687433808752:=()
def tw8524310512081336240:=()
def tw2332265283783468081:=()
def tw11212509683747803217:=()
def tw5775053703004775537:=()
def tw1586814386432065681:=()
def tw18236455360591461585:=()
def tw12345417779103459665:=()
def tw4682253471321590193:=()
def tw2729418844554048977:=()
def tw3706857856364341905:=()
def tw15883186764753521585:=()
def tw17410962018744633650:=()
def tw13373161644567389554:=()
def tw18024478144130456210:=()
def tw4062197796661472914:=()
def tw303780793035643634:=()
def tw6482193909863024755:=()
def tw16127422392203786355:=()
def tw18122738669389878579:=()
def tw9858351641597600115:=()
def tw9833806813208670003:=()
def tw1046776669731703635:=()
def tw1482537961589120947:=()
def tw14297555905818320851:=()
def tw6866134895078950899:=()
def tw17097221767594397236:=()
def tw5595023905871058548:=()
def tw8126179348126028532:=()
def tw12929583613859821332:=()
def tw3168826794931204117:=()
def tw14844483314538570869:=()
def tw11586190912332078325:=()
def tw7359215475661287829:=()
def tw4155099513290616341:=()
def tw3842907970548989525:=()
def tw16844131366654406389:=()
def tw11845590207754610613:=()
def tw15498735793009607702:=()
def tw6002720326304715830:=()
def tw8323788935242343510:=()
def tw13729187797224944822:=()
def tw16335004234242623702:=()
def tw13353623244268563862:=()
def tw1188462880945110454:=()
def tw9822631622851560918:=()
def tw491917063019019766:=()
def tw17774530577512671830:=()
def tw17755900715435532950:=()
def tw2200864910392805142:=()
def tw6311198349885532982:=()
def tw18266746422620228566:=()
def tw6872063562458217751:=()
def tw3744700516938124599:=()
def tw14035094420071547223:=()
def tw9164709727982079479:=()
def tw16846627375198012055:=()
def tw12934517471257370359:=()
def tw2310013915579584439:=()
def tw14966273054233675735:=()
def tw10766494856093624600:=()
def tw1260851757661849912:=()
def tw4220084461746356600:=()
def tw4534350275389467673:=()
def tw13157757656163652761:=()
def tw16608098765697861785:=()
def tw2648503310515553593:=()
def tw12502115837268226649:=()
def tw2366771041768892121:=()
def tw15833410221013807929:=()
def tw10336640447109019449:=()
def tw13464014425104947129:=()
def tw3439567745537036346:=()
def tw13662782185602816346:=()
def tw14351266319327769946:=()
def tw12048911583005658490:=()
def tw10240357735205696986:=()
def tw1649326413888131642:=()
def tw13666684493385676378:=()
def tw7210567731604423290:=()
def tw15440303728742991482:=()
def tw5374830236731897498:=()
def tw8141332160352876218:=()
def tw2451913211297765146:=()
def tw8858116691924049019:=()
def tw1540761926435623131:=()
def tw18241824539721584923:=()
def tw15254765562333803867:=()
def tw10838779689171019163:=()
def tw16690752584973055483:=()
def tw3894448669117795867:=()
def tw12665394836699327099:=()
def tw3098147654240066235:=()
def tw14626913935583864731:=()
def tw11789503555512922011:=()
def tw15688247228519531451:=()
def tw5616628329872801852:=()
def tw10239629368724356220:=()
def tw10610672038923842876:=()
def tw3306597359199590812:=()
def tw12258269884315889052:=()
def tw14522752057006698076:=()
def tw18064529117680106076:=()
def tw6132727442864311932:=()
def tw14340997948366530332:=()
def tw5463811282917731132:=()
def tw2918804995271233500:=()
def tw4487500502896002109:=()
def tw17124305161995863261:=()
def tw1698996889396696349:=()
def tw14557500333765429597:=()
def tw1629932311045580157:=()
def tw18048046326338755005:=()
def tw5153202991106814653:=()
def tw17583373998401766237:=()
def tw68523917658410973:=()
def tw9039671421636205790:=()
def tw2560073534162569822:=()
def tw9347195769723488926:=()
def tw13502058043044913086:=()
def tw4196626138541659102:=()
def tw3191905234253208607:=()
def tw16918139668057049343:=()
def tw11004091521110442527:=()
def tw4199058660335682175:=()
def tw12769660984311136895:=()
def tw10765222448683262847:=()
def tw10045777841305614594:=()
def tw8752004972521420764:=()
end PySem.W.Fast
open_top hdT for PySem.Challenge.rw_foreknown_k25_shapes
theorem PySem.Challenge.cw_foreknown_k25_shapes_holds : PySem.Challenge.rw_foreknown_k25_shapes.Holds :=
 hdT (by
 k_fill
 refine Mi.walkM (l:=PySem.Challenge.rw_foreknown_k25_shapes) (k:=79) (x := "_law_script") rfl rfl ⟨rfl,by decide,by decide⟩ (fun w h Y=>PySem.W.kIn_of Y) ?F
 case F =>
  intro w mg fa h KX G hmg
  have is:Mi.IsF (L2.KOf KX) mg FK25.isT:=by
   exact Mi.zoI rfl rfl rfl
  have T:FK25.Txt w (L2.KOf KX) mg:=by
   constructor
   case is=>exact is
   all_goals first
    | (show Mi.FnF _ _ _ _ [_];dsimp only [L2.KOf];refine' Mi.zcB KX G ?a ?l ?c ?k ?b;(case a|l|c|k=>k_is);(case b=>exact fun _ _ _ _ _ _ us hl=>match us,hl with|[_],_=>rfl))
    | (show Mi.FnF _ _ _ _ [_,_];dsimp only [L2.KOf];refine' Mi.zcB KX G ?a ?l ?c ?k ?b;(case a|l|c|k=>k_is);(case b=>exact fun _ _ _ _ _ _ us hl=>match us,hl with|[_,_],_=>rfl))
    | (show Mi.FnF _ _ _ _ [_,_,_];dsimp only [L2.KOf];refine' Mi.zcB KX G ?a ?l ?c ?k ?b;(case a|l|c|k=>k_is);(case b=>exact fun _ _ _ _ _ _ us hl=>match us,hl with|[_,_,_],_=>rfl))
    | (show Mi.FnF _ _ _ _ [_,_,_,_];dsimp only [L2.KOf];refine' Mi.zcB KX G ?a ?l ?c ?k ?b;(case a|l|c|k=>k_is);(case b=>exact fun _ _ _ _ _ _ us hl=>match us,hl with|[_,_,_,_],_=>rfl))
    | (show Mi.FnF _ _ _ _ [_,_,_,_,_,_];dsimp only [L2.KOf];refine' Mi.zcB KX G ?a ?l ?c ?k ?b;(case a|l|c|k=>k_is);(case b=>exact fun _ _ _ _ _ _ us hl=>match us,hl with|[_,_,_,_,_,_],_=>rfl))
    | (refine' Mi.zor KX G ?a;case a=>k_is)
  exact Mi.zoq T.f_law hmg (fun _ _ _ _ _ _ _=>rfl) (fun f fd F base=>FK25.zqN T F) (fun ns _=>FK25.zsr ns))
