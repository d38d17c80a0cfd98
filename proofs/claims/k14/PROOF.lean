import PyProof.Rows.All
import Wide.All
import OpenK.AllK
import Wide.FinOn
import Lean
import PyProof.EqAt
import PyProof.EqKinds
import PyProof.TupleCall
import PySem.Challenge.RW_foreknown_k14_rows_and_records
set_option Elab.async false
set_option linter.all false
set_option maxRecDepth 100000
namespace L2
open PySem PySem.Spec PyProof.Rows
abbrev Key:=Sum Int Str
def keyIs:Key->Value->Bool
 | .inl k,v=>Value.isInt k v
 | .inr x,v=>Value.isStrOf x v
def keyH (w:World):Key->Int
 | .inl k=>hashInt k
 | .inr x=>hashStr w x
theorem jL:∀{k:Key}{v:Value},keyIs k v=true->(∃i t,k=Sum.inl i/\v=Value.int i t)\/(∃x t,k=Sum.inr x/\v=Value.str x t)
 | .inl i,v,h=>by
  obtain ⟨t,e⟩:=Value.isInt_shape (k:=i) (v:=v) h
  exact .inl ⟨i,t,rfl,e⟩
 | .inr x,v,h=>by
  obtain ⟨t,e⟩:=Value.isStrOf_shape (x:=x) (v:=v) h
  exact .inr ⟨x,t,rfl,e⟩
theorem zjE (i:Int) (t:Tok):keyIs (.inl i) (.int i t)=true:=by simp [keyIs,Value.isInt]
theorem zjF (x:Str) (t:Tok):keyIs (.inr x) (.str x t)=true:=by simp [keyIs,Value.isStrOf]
theorem zjG (a b:Int):decide ((Sum.inl a:Key)=Sum.inl b)=(a==b):=by
 by_cases e:a=b
 ·subst e;simp
 ·have h:¬(Sum.inl a:Key)=Sum.inl b:=fun q=>e (Sum.inl.inj q)
  rw [decide_eq_false h]
  exact (beq_eq_false_iff_ne.mpr e).symm
theorem zjH (a b:Str):decide ((Sum.inr a:Key)=Sum.inr b)=decide (a=b):=by
 by_cases e:a=b
 ·subst e;simp
 ·have h:¬(Sum.inr a:Key)=Sum.inr b:=fun q=>e (Sum.inr.inj q)
  rw [decide_eq_false h,decide_eq_false e]
theorem zjI (a:Int) (b:Str):decide ((Sum.inl a:Key)=Sum.inr b)=false:=decide_eq_false (fun q=>nomatch q)
theorem zjJ (a:Str) (b:Int):decide ((Sum.inr a:Key)=Sum.inl b)=false:=decide_eq_false (fun q=>nomatch q)
def mixKind (prog:Program) (w:World):PySem.KeyKind prog w Key where
 is:=keyIs
 hash:=keyH w
 inj:=fun v a b ha hb=>by
  rcases jL ha with ⟨i,t,rfl,rfl⟩|⟨x,t,rfl,rfl⟩
  ·rcases jL hb with ⟨j,u,rfl,e⟩|⟨y,u,rfl,e⟩
   ·injection e with e1 _;rw [e1]
   ·exact nomatch e
  ·rcases jL hb with ⟨j,u,rfl,e⟩|⟨y,u,rfl,e⟩
   ·exact nomatch e
   ·injection e with e1 _;rw [e1]
 byValue:=fun k v h=>by
  rcases jL h with ⟨i,t,rfl,rfl⟩|⟨x,t,rfl,rfl⟩<;>rfl
 pyHash:=fun hv h=>by
  rcases jL hv with ⟨i,t,rfl,rfl⟩|⟨x,t,rfl,rfl⟩
  ·exact wpAny_pyHash_int h
  ·exact wpAny_pyHash_str h
 eqBool:=fun hu hv h=>by
  rcases jL hu with ⟨i,t,rfl,rfl⟩|⟨x,t,rfl,rfl⟩
  ·rcases jL hv with ⟨j,u,rfl,rfl⟩|⟨y,u,rfl,rfl⟩
   ·rw [zjG] at h;exact wpAny_eqBool_int h
   ·rw [zjI] at h;exact SeqAt.EqAt.int_str i t y u _ _ _ _ h
  ·rcases jL hv with ⟨j,u,rfl,rfl⟩|⟨y,u,rfl,rfl⟩
   ·rw [zjJ] at h;exact SeqAt.EqAt.str_int x t j u _ _ _ _ h
   ·rw [zjH] at h;exact wpAny_eqBool_str h
 «strs» := fun k x t v h=>by
  rcases jL h with ⟨i,u,rfl,e⟩|⟨y,u,rfl,e⟩
  ·exact nomatch e
  ·injection e with e1 _
   subst e1
   cases v<;>rfl
theorem zjK (prog:Program) (w:World) (i:Int) (t:Tok):(mixKind prog w).is (.inl i) (.int i t)=true:=zjE i t
theorem zjL (prog:Program) (w:World) (x:Str) (t:Tok):(mixKind prog w).is (.inr x) (.str x t)=true:=zjF x t
inductive V where
 | non|bl (b:Bool)|int (i:Int)|str (x:Str)|byt (b:Array UInt8)|flt (b:UInt64)|ref (a:Addr)|ty (n:String)
 deriving DecidableEq
def RelV:V->Value->Prop
 | .non,u=>u=Value.none
 | .bl b,u=>u=Value.bool b
 | .int i,u=>∃t,u=Value.int i t
 | .str x,u=>∃t,u=Value.str x t
 | .byt b,u=>∃t,u=Value.bytes b t
 | .flt b,u=>∃t,u=Value.float b t
 | .ref a,u=>u=Value.ref a
 | .ty n,u=>u=Value.type n
abbrev Vals:List V->List Value->Prop:=Paired RelV
theorem Vals.length {xs:List V}{us:List Value}(r:Vals xs us):xs.length=us.length:=Paired.length r
theorem Vals.get:∀{xs:List V}{us:List Value}{i:Nat}{x:V},Vals xs us->xs[i]?=some x->∃u,us[i]?=some u/\RelV x u
 | _,_,_,_,.nil,e=>by simp at e
 | _,_,0,_,.cons r _,e=>by simp at e;subst e;exact ⟨_,rfl,r⟩
 | _,_,i+1,x,.cons _ t,e=>by
  obtain ⟨u,h1,h2⟩:=Vals.get (i:=i) (x:=x) t (by simpa using e)
  exact ⟨u,by simpa using h1,h2⟩
theorem Vals.set {x:V}{u:Value}(r:RelV x u):∀{xs:List V}{us:List Value}(i:Nat),Vals xs us->Vals (xs.set i x) (us.set i u)
 | _,_,_,.nil=>.nil
 | _,_,0,.cons _ t=>.cons r t
 | _,_,i+1,.cons q t=>.cons q (Vals.set r i t)
theorem Vals.append:∀{xs ys:List V}{us ws:List Value},Vals xs us->Vals ys ws->Vals (xs++ys) (us++ws)
 | _,_,_,_,.nil,s=>s
 | _,_,_,_,.cons r t,s=>.cons r (Vals.append t s)
theorem Vals.take:∀{xs:List V}{us:List Value}(n:Nat),Vals xs us->Vals (xs.take n) (us.take n)
 | _,_,0,_=>.nil
 | _,_,_+1,.nil=>.nil
 | _,_,n+1,.cons r t=>.cons r (Vals.take n t)
theorem Vals.drop:∀{xs:List V}{us:List Value}(n:Nat),Vals xs us->Vals (xs.drop n) (us.drop n)
 | _,_,0,r=>r
 | _,_,_+1,.nil=>.nil
 | _,_,n+1,.cons _ t=>Vals.drop n t
def RelO:Option V->Option Value->Prop
 | some v,some u=>RelV v u
 | none,none=>True
 | _,_=>False
def KV {κ:Type}:List (κ×V)->List (κ×Value)->Prop:=Paired fun (p:κ×V) (q:κ×Value)=>p.1=q.1/\RelV p.2 q.2
def kV:Key->V
 | .inl i=>.int i
 | .inr x=>.str x
inductive HO where
 | lst (xs:List V)
 | tup (xs:List V)
 | dK (kvs:List (Key×V))|dT (kvs:List (List Key×V))
 | set (S:Int->Bool) (n:Nat)
 | ins (C dx:Addr) (fs:List (Str×V))
 | own (x:Addr)
 | xd (fs:List (Str×V))
 | met (f x:Addr)
 | rng (lo hi:Int)
 | frz (o:Obj) (u:HO)
 | tbl (ps:Array Value)
 | ext (φ:Heap->Prop)
abbrev Hp:=Addr->Option HO
def upd (H:Hp) (a:Addr) (o:HO):Hp:=fun b=>if b=a then some o else H b
theorem yp {H:Hp}{a:Addr}{o:HO}:upd H a o a=some o:=by unfold upd;rw [if_pos rfl]
theorem zG {H:Hp}{a b:Addr}{o:HO}(h:b≠a):upd H a o b=H b:=by unfold upd;rw [if_neg h]
theorem zjM {H:Hp}{a:Addr}{o u:HO}:upd (upd H a o) a u=upd H a u:=by
 funext b;unfold upd;split<;>rfl
theorem zjN {H:Hp}{a b:Addr}{o u:HO}(h:H a=some o) (h':H b=some u) (d:o≠u):a≠b:=by
 intro e;subst e;rw [h] at h';exact d (Option.some.inj h')
theorem jV {H:Hp}{a b:Addr}{o:HO}(h:H a=some o) (h':H b=none):a≠b:=by
 intro e;subst e;rw [h] at h';cases h'
section
variable (P:Program) (w:World)
def ObjOk (H:Hp) (h:Heap) (a:Addr):HO->Prop
 | .lst xs=>xs.length<=sizeLine/\∃(its:List Value) (n:Nat),Vals xs its/\h.get? a=some { cls:=.type "list", data:=.seq its.toArray n }
 | .tup xs=>xs.length<=sizeLine/\∃its:List Value,Vals xs its/\IsTup h a its.toArray
 | .dK kvs=>kvs.length<=sizeLine/\(a==sysModules)=false/\∃vs,KV kvs vs/\h.DictOf (mixKind P w) a vs
 | .dT kvs=>kvs.length<=sizeLine/\(a==sysModules)=false/\∃xs:List (List Key×Addr×Value),
   Paired (fun (p:List Key×V) (q:List Key×Addr×Value)=>p.1=q.1/\H q.2.1=some (.tup (p.1.map kV))/\RelV p.2 q.2.2) kvs xs /\
   ∃o es ep,h.get? a=some o/\o.ExactDict/\o.data=.dict es ep/\es.toList=xs.map (entryOfKey (tupleKind (mixKind P w)))/\(xs.map (·.1)).Nodup
 | .set S n=>h.SetOf (intKind P w) a S n
 | .ins C dx fs=>H dx=some (.own a)/\fs.length<=1000/\dx≠a/\h.get? a=some (PySem.W.instObj C dx) /\
   ∃mA,h.Ns1 dx mA/\(∀f,RelO (fs.lookup f) (mA f))/\PySem.Within mA (fs.map (·.1))
 | .own _=>∃o,h.get? a=some o
 | .xd fs=>∃mA,h.Ns1 a mA/\∀f,RelO (fs.lookup f) (mA f)
 | .rng lo hi=>∃t u v,h.get? a=some { cls:=.type "range", data:=.fields #[.int lo t,.int hi u,.int 1 v] }
 | .frz o u=>h.get? a=some o/\ObjOk H h a u
 | .tbl ps=>h.get? a=some { cls:=.none,data:=.fields ps }
 | .met f x=>h.get? a=some (PySem.W.methodObj (.ref f) (.ref x))
 | .ext φ=>φ h/\(∃o,h.get? a=some o)/\∀h1 h2:Heap,φ h1->(∀o,h1.get? a=some o->h2.get? a=some o)->φ h2
def HOk (H:Hp) (h:Heap):Prop:=∀a o,H a=some o->ObjOk P w H h a o
end
section
variable {P:Program}{w:World}{H H':Hp}{h h':Heap}{a:Addr}{o:HO}
theorem ObjOk.lt (x:ObjOk P w H h a o):a<h.objs.size:=by
 cases o with
 | lst xs=>obtain ⟨_,_,_,_,e⟩:=x;exact Heap.lt_size e
 | tup xs=>obtain ⟨_,_,_,p⟩:=x;exact p.lt
 | dK kvs=>obtain ⟨_,_,_,_,o,_,_,e,_⟩:=x;exact Heap.lt_size e
 | dT kvs=>obtain ⟨_,_,_,_,o,_,_,e,_⟩:=x;exact Heap.lt_size e
 | set S n=>obtain ⟨o,_,_,_,e,_⟩:=x;exact Heap.lt_size e
 | ins C dx fs=>obtain ⟨_,_,_,e,_⟩:=x;exact Heap.lt_size e
 | own y=>obtain ⟨_,e⟩:=x;exact Heap.lt_size e
 | xd fs=>obtain ⟨_,⟨_,_,_,e,_⟩,_⟩:=x;exact Heap.lt_size e
 | rng lo hi=>obtain ⟨_,_,_,e⟩:=x;exact Heap.lt_size e
 | frz ob u=>obtain ⟨e,_⟩:=x;exact Heap.lt_size e
 | tbl ps=>exact Heap.lt_size (show h.get? a=some _ from x)
 | met f y=>exact Heap.lt_size (show h.get? a=some _ from x)
 | ext φ=>obtain ⟨_,⟨_,e⟩,_⟩:=x;exact Heap.lt_size e
theorem Paired.mapP {α β:Type}{F G:α->β->Prop}:∀{aL:List α}{aJ:List β},Paired F aL aJ->(∀a b,F a b->G a b)->Paired G aL aJ
 | _,_,.nil,_=>.nil
 | _,_,.cons r t,f=>.cons (f _ _ r) (Paired.mapP t f)
theorem ObjOk.stay (x:ObjOk P w H h a o) (k:∀b u,(b=a\/H b=some (.own a))->h.get? b=some u->h'.get? b=some u)
  (ho:∀b,H b=some (.own a)->H' b=some (.own a)) (ht:∀b xs,H b=some (.tup xs)->H' b=some (.tup xs)):ObjOk P w H' h' a o:=by
 induction o with
 | lst xs=>obtain ⟨z,its,n,r,e⟩:=x;exact ⟨z,its,n,r,k _ _ (.inl rfl) e⟩
 | tup xs=>obtain ⟨z,its,r,ob,e,c⟩:=x;exact ⟨z,its,r,ob,k _ _ (.inl rfl) e,c⟩
 | dK kvs=>obtain ⟨z,y,vs,r,ob,es,ep,e,c⟩:=x;exact ⟨z,y,vs,r,ob,es,ep,k _ _ (.inl rfl) e,c⟩
 | dT kvs =>
  obtain ⟨z,y,xs,r,ob,es,ep,e,c⟩:=x
  exact ⟨z,y,xs,Paired.mapP r fun p q z=>⟨z.1,ht _ _ z.2.1,z.2.2⟩,ob,es,ep,k _ _ (.inl rfl) e,c⟩
 | set S n=>obtain ⟨ob,es,ep,t,e,c⟩:=x;exact ⟨ob,es,ep,t,k _ _ (.inl rfl) e,c⟩
 | ins C dx fs =>
  obtain ⟨d,z,ne,e,mA,⟨od,es,ep,e2,c⟩,r⟩:=x
  exact ⟨ho _ d,z,ne,k _ _ (.inl rfl) e,mA,⟨od,es,ep,k _ _ (.inr d) e2,c⟩,r⟩
 | own y=>obtain ⟨ob,e⟩:=x;exact ⟨ob,k _ _ (.inl rfl) e⟩
 | xd fs=>obtain ⟨mA,⟨od,es,ep,e,c⟩,r⟩:=x;exact ⟨mA,⟨od,es,ep,k _ _ (.inl rfl) e,c⟩,r⟩
 | rng lo hi=>obtain ⟨t,u,v,e⟩:=x;exact ⟨t,u,v,k _ _ (.inl rfl) e⟩
 | frz ob u ih=>obtain ⟨e,q⟩:=x;exact ⟨k _ _ (.inl rfl) e,ih q⟩
 | tbl ps =>
  have e:h.get? a=some { cls:=.none,data:=.fields ps }:=x
  show h'.get? a=some { cls:=.none,data:=.fields ps }
  exact k a _ (.inl rfl) e
 | met f y =>
  have e:h.get? a=some (PySem.W.methodObj (.ref f) (.ref y)):=x
  show h'.get? a=some (PySem.W.methodObj (.ref f) (.ref y))
  exact k a _ (.inl rfl) e
 | ext φ=>obtain ⟨p,⟨o,e⟩,st⟩:=x;exact ⟨st _ _ p fun o q=>k _ _ (.inl rfl) q,⟨o,k _ _ (.inl rfl) e⟩,st⟩
theorem HOk.lt (x:HOk P w H h) (e:H a=some o):a<h.objs.size:=(x a o e).lt
theorem HOk.fresh (x:HOk P w H h) (e:h.objs.size<=a):H a=none:=by
 cases q:H a with
 | none=>rfl
 | some u=>exact absurd (Nat.lt_of_lt_of_le (x.lt q) e) (Nat.lt_irrefl _)
theorem HOk.kept (x:HOk P w H h) (k:∀b u,h.get? b=some u->h'.get? b=some u):HOk P w H h':=fun a o e =>
 (x a o e).stay (fun b u _ q=>k b u q) (fun _ q=>q) fun _ _ q=>q
theorem HOk.laid (x:HOk P w H h) (k:∀b u,h.get? b=some u->h'.get? b=some u) (hp:h.objs.size<=a) (new:ObjOk P w (upd H a o) h' a o):HOk P w (upd H a o) h':=fun b u e=>by
 have hn:=x.fresh hp
 by_cases hb:b=a
 ·subst hb;rw [yp] at e;cases e;exact new
 ·rw [zG hb] at e
  exact (x b u e).stay (fun c v _ q=>k c v q) (fun c q=>by rw [zG (jV q hn)];exact q) fun c xs q=>by rw [zG (jV q hn)];exact q
end
def Rd (H:Hp) (a:Addr) (u:HO):Prop:=H a=some u\/∃o,H a=some (.frz o u)
theorem Rd.ok {P:Program}{w:World}{H:Hp}{h:Heap}{a:Addr}{u:HO}(r:Rd H a u) (x:HOk P w H h):ObjOk P w H h a u:=by
 rcases r with r|⟨o,r⟩
 ·exact x a u r
 ·obtain ⟨_,q⟩:=x a _ r
  exact q
def Mut:Option HO->Prop
 | some (.lst _)=>True
 | some (.dK _)=>True
 | some (.dT _)=>True
 | some (.set _ _)=>True
 | some (.ins _ _ _)=>True
 | some (.ext _)=>True
 | _=>False
section
variable {P:Program}{w:World}{H:Hp}{h h':Heap}{x e:Addr}{o':HO}
theorem HOk.write (ok:HOk P w H h) (mu:Mut (H x)) (he:e=x\/H e=some (.own x)) (k:∀b u,b≠e->h.get? b=some u->h'.get? b=some u) (heo:∃u,h'.get? e=some u)
  (new:ObjOk P w (upd H x o') h' x o'):HOk P w (upd H x o') h':=fun b u q=>by
 have nown:∀c y,H c=some (.own y)->c≠x:=fun c y r z=>by subst z;rw [r] at mu;exact mu
 have ntup:∀c xs,H c=some (.tup xs)->c≠x:=fun c xs r z=>by subst z;rw [r] at mu;exact mu
 by_cases hb:b=x
 ·subst hb;rw [yp] at q;cases q;exact new
 ·rw [zG hb] at q
  by_cases hbe:b=e
  ·have q':H b=some (.own x):=by
    rcases he with z|z
    ·exact absurd (hbe.trans z) hb
    ·rw [hbe];exact z
   rw [q] at q';cases q'
   obtain ⟨v,hv⟩:=heo
   exact ⟨v,by rw [hbe];exact hv⟩
  ·refine (ok b u q).stay (fun c v hc r=>k c v ?_ r) (fun c r=>by rw [zG (nown c b r)];exact r) fun c xs r=>by rw [zG (ntup c xs r)];exact r
   rcases hc with rfl|hc
   ·exact hbe
   ·rintro rfl
    rcases he with z|z
    ·exact nown c b hc z
    ·rw [hc] at z;cases z;exact hb rfl
end
structure Un (fs ex:List Addr) (H H':Hp) (h h':Heap):Prop where
 keep:∀b o,h.get? b=some o->H b=none->b∉fs->b∉ex->h'.get? b=some o
 slot:∀b o,h.get? b=some o->H b=none->b∈fs->b∉ex->∃sl,h'.get? b=some { o with slots:=sl }
 free:∀b o,h.get? b=some o->H b=none->b∉ex->H' b=none
 there:∀b o,h.get? b=some o->b∉ex->∃o',h'.get? b=some o'
 tups:∀b xs,H b=some (.tup xs)->H' b=some (.tup xs)
 frzs:∀b o u,H b=some (.frz o u)->H' b=some (.frz o u)
 tbls:∀b ps,H b=some (.tbl ps)->∃more,H' b=some (.tbl (ps++more))
section
variable {fs fs' ex ex':List Addr}{H H1 H2:Hp}{h h1 h2 h':Heap}{a x e:Addr}{o:HO}
theorem Un.any (u:Un fs ex H H1 h h1) {b:Addr}{ob:Obj}(q:h.get? b=some ob) (n:H b=none) (hx:b∉ex):∃sl,h1.get? b=some { ob with slots:=sl }:=by
 by_cases hb:b∈fs
 ·exact u.slot b ob q n hb hx
 ·exact ⟨ob.slots,u.keep b ob q n hb hx⟩
theorem Un.kept (k:∀b u,h.get? b=some u->h'.get? b=some u):Un fs ex H H h h' :=
 ⟨fun b ob q _ _ _=>k b ob q,fun b ob q _ _ _=>⟨ob.slots,k b ob q⟩,fun _ _ _ n _=>n,fun b ob q _=>⟨ob,k b ob q⟩,fun _ _ q=>q,fun _ _ _ q=>q,fun _ ps q=>⟨#[],by rw [q];simp⟩⟩
theorem Un.refl:Un fs ex H H h h:=Un.kept fun _ _ q=>q
theorem Un.laid (k:∀b u,h.get? b=some u->h'.get? b=some u) (hp:h.objs.size<=a) (hn:H a=none):Un fs ex H (upd H a o) h h' where
 keep:=fun b u q _ _ _=>k b u q
 slot:=fun b u q _ _ _=>⟨u.slots,k b u q⟩
 free:=fun b u q n _=>by rw [zG (Nat.ne_of_lt (Nat.lt_of_lt_of_le (Heap.lt_size q) hp))];exact n
 there:=fun b u q _=>⟨u,k b u q⟩
 tups:=fun b xs q=>by rw [zG (jV q hn)];exact q
 frzs:=fun b u xs q=>by rw [zG (jV q hn)];exact q
 tbls:=fun b ps q=>⟨#[],by rw [zG (jV q hn),q];simp⟩
theorem Un.write (mu:Mut (H x)) (he:e=x\/H e=some (.own x)) (k:∀b u,b≠e->h.get? b=some u->h'.get? b=some u) (heo:∃u,h'.get? e=some u):Un fs ex H (upd H x o) h h':=by
 have hx:∀b,H b=none->b≠x:=fun b n z=>by subst z;rw [n] at mu;exact mu
 have hb:∀b,H b=none->b≠e:=fun b n z=>by
  subst z
  rcases he with r|r
  ·exact hx b n r
  ·rw [n] at r;cases r
 have hm:∀b u,H b=some u->¬Mut (some u)->b≠x:=fun b u q nm z=>by subst z;rw [q] at mu;exact nm mu
 refine ⟨fun b u q n _ _=>k b u (hb b n) q,fun b u q n _ _=>⟨u.slots,k b u (hb b n) q⟩,fun b u q n _=>by rw [zG (hx b n)];exact n,fun b u q _=>?_,
  fun b xs q=>by rw [zG (hm b _ q fun z=>z)];exact q,fun b u xs q=>by rw [zG (hm b _ q fun z=>z)];exact q,fun b ps q=>⟨#[],by rw [zG (hm b _ q fun z=>z),q];simp⟩⟩
 by_cases hbe:b=e
 ·subst hbe;exact heo
 ·exact ⟨u,k b u hbe q⟩
theorem Un.mono (u:Un fs ex H H1 h h1) (hs:∀b∈fs,b∈fs') (hx:∀b∈ex,b∈ex'):Un fs' ex' H H1 h h1 :=
 ⟨fun b ob q n hb he=>u.keep b ob q n (fun z=>hb (hs b z)) fun z=>he (hx b z),fun _ _ q n _ he=>u.any q n fun z=>he (hx _ z),fun b ob q n he=>u.free b ob q n fun z=>he (hx b z),fun b ob q he=>u.there b ob q fun z=>he (hx b z),u.tups,u.frzs,u.tbls⟩
end
def trk (h:Heap) (H:Hp):List Addr:=(List.range h.objs.size).filter fun a=>(H a).isSome
def hidT (h:Heap) (H:Hp):Heap:=PySem.W.hideAll h (trk h H)
theorem zjO (h:Heap) (H:Hp):(hidT h H).objs.size=h.objs.size:=PySem.W.hideAll_size _ _
theorem zjP {h:Heap}{H:Hp}{b:Addr}{o:Obj}(e:h.get? b=some o) (n:H b=none):(hidT h H).get? b=some o :=
 PySem.W.hideAll_get _ e fun hm=>by
  have q:(H b).isSome=true:=(List.mem_filter.mp hm).2
  rw [n] at q;simp at q
theorem zjQ {h:Heap}{H:Hp}{b:Addr}{o:Obj}(e:(hidT h H).get? b=some o):h.get? b=some o/\H b=none:=by
 have e':h.get? b=some o:=PySem.W.of_hideAll (trk h H) e
 refine ⟨e',?_⟩
 cases q:H b with
 | none=>rfl
 | some x =>
  have hm:b∈trk h H:=List.mem_filter.mpr ⟨List.mem_range.mpr (Heap.lt_size e'),by simp [q]⟩
  have z:(hidT h H).get? b=none:=PySem.W.hideAll_none (trk h H) hm
  rw [z] at e;cases e
def allNews (g h:Heap) (L:Addr):List (Addr×Obj):=(List.range h.objs.size).filterMap fun a=>if a=L\/(g.get? a).isSome=true then none else (h.get? a).map fun o=>(a,o)
def rest (g h:Heap) (L d:Addr):List (Addr×Obj):=(allNews g h L).filter fun p=>decide (p.1≠d)
structure Mod (K:PySem.W.Frag) (mg:Str->Option Value) (base:Heap):Prop where
 kin:K.In base
 glob:base.Ns mainGlobals mg
 blt:∃mb,base.Ns builtinsNs mb/\∀x:Str,x ≠ "__name__" -> mb x=bootBuiltins x
 nolimit:base.NoLimit
structure Cx where
 prog:Program
 w:World
 K:PySem.W.Frag
 mg:Str->Option Value
 base:Heap
 A:Around
 N:List Str
 s₀:Shared
 H₀:Hp
 env:Env
 outer:List Env
 stack:List Env
 ex:List Addr
 fn:Str->Bool
 calm:Bool
 pn:List (Addr×Obj)
 xe:Value->Shared->Prop
def frs (l:List Env):List Addr:=l.filterMap (·.frame)
abbrev Cx.fs (X:Cx):List Addr:=frs X.outer
def Vis (sc:Scope) (x:Str):Prop:=sc.names.lookup x=some .local\/sc.names.lookup x=some .cell\/sc.names.lookup x=some .free
def Loc (sc:Scope) (x:Str):Prop:=sc.names.lookup x=some .local\/sc.names.lookup x=some .cell
def Look (env:Env) (h:Heap) (m:Str->Option Value) (x:Str) (u:Value):Prop :=
 (env.kindOf x=some .local/\m x=some u)\/((env.kindOf x=some .cell\/env.kindOf x=some .free)/\∃c,env.cells.lookup x=some c/\h.IsCell c (some u))
structure Cx.Ok (X:Cx):Prop where
 mod:Mod X.K X.mg X.base
 kind:X.env.scope.kind=.function
 glob:X.env.globals=mainGlobals
 blt:X.env.builtins=builtinsNs
 above:X.s₀.heap.objs.size<=X.env.locals
 inj:∀x y c,X.env.cells.lookup x=some c->X.env.cells.lookup y=some c->x=y
 has:∀x,(X.env.kindOf x=some .cell\/X.env.kindOf x=some .free)->∃c,X.env.cells.lookup x=some c
 cab:∀x c,X.fn x=true->X.env.cells.lookup x=some c->X.s₀.heap.objs.size<=c
 hd:X.calm=true->X.A.handled=none
 frames:X.A.frames=some X.stack
 stk:X.stack=X.outer\/(X.stack=X.env::X.outer/\X.env.frame=some X.env.locals)
 exf:∀b∈X.ex,b≠X.env.locals/\∀x c,X.env.cells.lookup x=some c->c≠b
 bs:∀b o,X.base.get? b=some o->X.s₀.heap.get? b=some o/\X.H₀ b=none
 bsz:X.base.objs.size<=X.s₀.heap.objs.size
 noex:∀b o,X.base.get? b=some o->b∉X.ex
 exfs:∀b∈X.ex,b∉X.fs
 funs:X.s₀.heap.FunFrames X.base X.outer
 frf:∀b∈X.fs,X.H₀ b=none
structure Inv (X:Cx) (pins:List (Addr×Obj)) (U:List (Option V)) (H:Hp) (s:Shared):Prop where
 ok:X.Ok
 os:s.os=X.s₀.os
 bare:AllBare s.gens
 base:Un X.fs X.ex X.H₀ H X.s₀.heap s.heap
 loc:∃m,s.heap.Ns X.env.locals m/\∀(i:Nat) (x:Str) (v:V),X.N[i]?=some x->U[i]?=some (some v)->Vis X.env.scope x->∃u,RelV v u/\Look X.env s.heap m x u
 cell:∀x c,X.env.cells.lookup x=some c->∃v,s.heap.IsCell c v
 free:H X.env.locals=none
 freeC:∀x c,X.env.cells.lookup x=some c->H c=none
 pin:∀p∈X.pn++pins,s.heap.get? p.1=some p.2/\H p.1=none/\p.1≠X.env.locals/\p.1∉X.fs/\∀v,p.2.data ≠ .cell v
 hok:HOk X.prog X.w H s.heap
 len:U.length=X.N.length
section
variable {X:Cx}{pins:List (Addr×Obj)}{U:List (Option V)}{H H':Hp}{s:Shared}{h':Heap}
theorem Cx.Ok.nofr (ok:X.Ok) {b:Addr}{o:Obj}(e:X.base.get? b=some o):b∉X.fs:=fun hb=>by
 have:=(ok.funs.mem hb).1
 rw [e] at this;cases this
theorem Inv.bs (I:Inv X pins U H s):∀b o,X.base.get? b=some o->s.heap.get? b=some o/\H b=none:=fun b o e =>
 ⟨I.base.keep b o (I.ok.bs b o e).1 (I.ok.bs b o e).2 (I.ok.nofr e) (I.ok.noex b o e),I.base.free b o (I.ok.bs b o e).1 (I.ok.bs b o e).2 (I.ok.noex b o e)⟩
theorem Inv.bk (I:Inv X pins U H s):∀b o,X.base.get? b=some o->s.heap.get? b=some o:=fun b o e=>(I.bs b o e).1
theorem Inv.mod (I:Inv X pins U H s):Mod X.K X.mg X.base:=I.ok.mod
theorem Inv.kIn (I:Inv X pins U H s):X.K.In s.heap:=I.ok.mod.kin.keeps I.bk
theorem Inv.fr (I:Inv X pins U H s):∃m,Fr X.base X.env.locals s.heap m :=
 let ⟨m,hn,_⟩:=I.loc
 ⟨m,hn,I.bk,Nat.le_trans I.ok.bsz I.ok.above⟩
theorem Inv.lt (I:Inv X pins U H s):X.env.locals<s.heap.objs.size:=let ⟨_,hn,_⟩:=I.loc;hn.lt
theorem Inv.sz (I:Inv X pins U H s):X.s₀.heap.objs.size<=s.heap.objs.size:=Nat.le_trans I.ok.above (Nat.le_of_lt I.lt)
theorem Inv.nofs (I:Inv X pins U H s) {a:Addr}(h:s.heap.objs.size<=a):a∉X.fs:=fun hb=>by
 obtain ⟨_,o,ho,_⟩:=I.ok.funs.mem hb
 exact absurd (Nat.lt_of_lt_of_le (Heap.lt_size ho) (Nat.le_trans I.sz h)) (Nat.lt_irrefl _)
theorem Inv.cne (I:Inv X pins U H s):∀x c,X.env.cells.lookup x=some c->c≠X.env.locals:=fun x c e z=>by
 obtain ⟨v,o,ho,hd⟩:=I.cell x c e
 obtain ⟨m,⟨o',es,ep,ho',hd',_⟩,_⟩:=I.loc
 rw [z,ho'] at ho;cases ho;rw [hd'] at hd;cases hd
theorem Inv.funs (I:Inv X pins U H s):s.heap.FunFrames X.base X.outer:=by
 have all:∀(l:List Env),(∀b∈frs l,b∈X.fs)->X.s₀.heap.FunFrames X.base l->s.heap.FunFrames X.base l:=by
  intro l
  induction l with
  | nil=>intro _ _;trivial
  | cons env r ih =>
   intro hs hl
   obtain ⟨hk,⟨L,o,hf,hn,ho,hd⟩,hr⟩:=hl
   have hL:L∈X.fs:=hs L (by unfold frs;rw [List.filterMap_cons,hf];exact List.mem_cons_self)
   obtain ⟨sl,e⟩:=I.base.slot L o ho (I.ok.frf L hL) hL fun z=>I.ok.exfs L z hL
   exact ⟨hk,⟨L,_,hf,hn,e,hd⟩,ih (fun b hb=>hs b (by unfold frs;rw [List.filterMap_cons,hf];exact List.mem_cons_of_mem _ hb)) hr⟩
 exact all X.outer (fun _ hb=>hb) I.ok.funs
theorem Inv.stack (I:Inv X pins U H s):s.heap.FunFrames X.base X.stack:=by
 rcases I.ok.stk with e|⟨e,hf⟩
 ·rw [e];exact I.funs
 ·rw [e]
  obtain ⟨m,hn,_⟩:=I.loc
  refine .cons (by rw [I.ok.kind];decide) hf hn ?_ I.funs
  exact Heap.get?_none_of_le (Nat.le_trans I.ok.bsz I.ok.above)
theorem Inv.stkSub (I:Inv X pins U H s):∀b∈frs X.stack,b∈X.env.locals::X.fs:=fun b hb=>by
 rcases I.ok.stk with e|⟨e,hf⟩
 ·rw [e] at hb;exact List.mem_cons_of_mem _ hb
 ·rw [e] at hb
  unfold frs at hb
  rw [List.filterMap_cons,hf] at hb
  exact hb
theorem Inv.stkFree (I:Inv X pins U H s):∀b∈frs X.stack,H b=none:=fun b hb=>by
 rcases List.mem_cons.mp (I.stkSub b hb) with e|hb
 ·rw [e];exact I.free
 ·obtain ⟨_,o,ho,_⟩:=I.ok.funs.mem hb
  exact I.base.free b o ho (I.ok.frf b hb) fun z=>I.ok.exfs b z hb
theorem Inv.step {g':Array GenState}{t':Nat}{d':Drawn}{ch:List Addr}(I:Inv X pins U H s)
  (hch:∀b∈ch,(b∈X.ex\/X.s₀.heap.objs.size<=b)/\b≠X.env.locals/\(∀x c,X.env.cells.lookup x=some c->c≠b)/\∀p∈X.pn++pins,p.1≠b)
  (keep:∀b o,b≠X.env.locals->b∉X.fs->b∉ch->s.heap.get? b=some o->H b=none->h'.get? b=some o)
  (slot:∀b o,b≠X.env.locals->b∈X.fs->b∉ch->s.heap.get? b=some o->H b=none->∃sl,h'.get? b=some { o with slots:=sl }) (free:∀b o,b∉ch->s.heap.get? b=some o->H b=none->H' b=none)
  (there:∀b o,b∉ch->s.heap.get? b=some o->∃o',h'.get? b=some o')
  (tups:∀b xs,H b=some (.tup xs)->H' b=some (.tup xs)) (frzs:∀b o u,H b=some (.frz o u)->H' b=some (.frz o u)) (tbls:∀b ps,H b=some (.tbl ps)->∃more,H' b=some (.tbl (ps++more)))
  (ns:∀m,s.heap.Ns X.env.locals m->h'.Ns X.env.locals m) (hok:HOk X.prog X.w H' h') (hg:AllBare g') :
  Inv X pins U H' { s with heap:=h',gens:=g',drawn:=d',toks:=t' }:=by
 have neL:∀b o,X.s₀.heap.get? b=some o->b≠X.env.locals:=fun b o e=>Nat.ne_of_lt (Nat.lt_of_lt_of_le (Heap.lt_size e) I.ok.above)
 have neC:∀b o,X.s₀.heap.get? b=some o->b∉X.ex->b∉ch:=fun b o e hx hb=>by
  rcases (hch b hb).1 with z|z
  ·exact hx z
  ·exact absurd (Nat.lt_of_lt_of_le (Heap.lt_size e) z) (Nat.lt_irrefl _)
 have cellK:∀x c,X.env.cells.lookup x=some c->∀v,s.heap.IsCell c v->h'.IsCell c v:=fun x c e v ⟨o,ho,hd⟩=>by
  have nch:c∉ch:=fun z=>(hch c z).2.2.1 x c e rfl
  by_cases hc:c∈X.fs
  ·obtain ⟨sl,q⟩:=slot c o (I.cne x c e) hc nch ho (I.freeC x c e)
   exact ⟨_,q,hd⟩
  ·exact ⟨o,keep c o (I.cne x c e) hc nch ho (I.freeC x c e),hd⟩
 refine ⟨I.ok,I.os,hg,⟨fun b o e n hb hx=>?_,fun b o e n hb hx=>?_,fun b o e n hx=>?_,fun b o e hx=>?_,fun b xs e=>tups b xs (I.base.tups b xs e),fun b o xs e=>frzs b o xs (I.base.frzs b o xs e),fun b ps e=>?_⟩,?_,fun x c e=>?_,?_,fun x c e=>?_,fun p hp=>?_,hok,I.len⟩
 ·exact keep b o (neL b o e) hb (neC b o e hx) (I.base.keep b o e n hb hx) (I.base.free b o e n hx)
 ·obtain ⟨sl,e1⟩:=I.base.slot b o e n hb hx
  obtain ⟨sl',e2⟩:=slot b _ (neL b o e) hb (neC b o e hx) e1 (I.base.free b o e n hx)
  exact ⟨sl',e2⟩
 ·obtain ⟨o',e1⟩:=I.base.there b o e hx
  exact free b o' (neC b o e hx) e1 (I.base.free b o e n hx)
 ·obtain ⟨o',e1⟩:=I.base.there b o e hx
  exact there b o' (neC b o e hx) e1
 ·obtain ⟨m1,e1⟩:=I.base.tbls b ps e
  obtain ⟨m2,e2⟩:=tbls b _ e1
  exact ⟨m1++m2,by rw [e2,Array.append_assoc]⟩
 ·obtain ⟨m,hn,hl⟩:=I.loc
  refine ⟨m,ns m hn,fun i x v e1 e2 e3=>?_⟩
  obtain ⟨u,r,l⟩:=hl i x v e1 e2 e3
  refine ⟨u,r,?_⟩
  rcases l with l|⟨k,c,e,z⟩
  ·exact .inl l
  ·exact .inr ⟨k,c,e,cellK x c e _ z⟩
 ·obtain ⟨v,z⟩:=I.cell x c e
  exact ⟨v,cellK x c e v z⟩
 ·obtain ⟨m,⟨o,_,_,ho,_⟩,_⟩:=I.loc
  exact free _ o (fun z=>(hch _ z).2.1 rfl) ho I.free
 ·obtain ⟨v,o,ho,hd⟩:=I.cell x c e
  exact free c o (fun z=>(hch c z).2.2.1 x c e rfl) ho (I.freeC x c e)
 ·obtain ⟨e,n,ne,nf,d⟩:=I.pin p hp
  have nch:p.1∉ch:=fun z=>(hch p.1 z).2.2.2 p hp rfl
  exact ⟨keep p.1 p.2 ne nf nch e n,free p.1 p.2 nch e n,ne,nf,d⟩
theorem Inv.un {t':Nat}(I:Inv X pins U H s) (u:Un X.fs [] H H' s.heap h') (hok:HOk X.prog X.w H' h'):Inv X pins U H' { s with heap:=h',toks:=t' }:=by
 obtain ⟨m,⟨o,es,ep,ho,r⟩,_⟩:=id I.loc
 obtain ⟨sl,hL⟩:=u.any ho I.free (by simp)
 exact I.step (g':=s.gens) (d':=s.drawn) (ch:=[]) (fun _ z=>nomatch z) (fun b o _ hb _ e n=>u.keep b o e n hb (by simp)) (fun b o _ hb _ e n=>u.slot b o e n hb (by simp)) (fun b o _ e n=>u.free b o e n (by simp)) (fun b o _ e=>u.there b o e (by simp)) u.tups u.frzs u.tbls (fun m' hm=>by
  obtain ⟨o',es',ep',ho',r'⟩:=hm
  rw [ho] at ho';cases ho'
  exact ⟨_,es',ep',hL,r'⟩) hok I.bare
theorem Inv.call {g':Array GenState}{t':Nat}{d':Drawn}{ch:List Addr}(I:Inv X pins U H s) (u:Un (frs X.stack) ch H H' s.heap h') (hok:HOk X.prog X.w H' h') (hg:AllBare g')
  (hch:∀b∈ch,(b∈X.ex\/X.s₀.heap.objs.size<=b)/\b≠X.env.locals/\(∀x c,X.env.cells.lookup x=some c->c≠b)/\∀p∈X.pn++pins,p.1≠b) :
  Inv X pins U H' { s with heap:=h',gens:=g',drawn:=d',toks:=t' }:=by
 obtain ⟨m,⟨o,es,ep,ho,r⟩,_⟩:=id I.loc
 obtain ⟨sl,hL⟩:=u.any ho I.free fun z=>(hch _ z).2.1 rfl
 exact I.step (ch:=ch) hch (fun b o hL hb hc e n=>u.keep b o e n (fun z=>(List.mem_cons.mp (I.stkSub b z)).elim hL hb) hc) (fun b o _ _ hc e n=>u.any e n hc) (fun b o hc e n=>u.free b o e n hc) (fun b o hc e=>u.there b o e hc) u.tups u.frzs u.tbls (fun m' hm=>by
  obtain ⟨o',es',ep',ho',r'⟩:=hm
  rw [ho] at ho';cases ho'
  exact ⟨_,es',ep',hL,r'⟩) hok hg
theorem Inv.turned {t':Nat}{it:Addr}(I:Inv X pins U H s) (k:∀b o,b≠it->s.heap.get? b=some o->h'.get? b=some o) (hn:H it=none) (hL:it≠X.env.locals)
  (h1:it∈X.ex\/X.s₀.heap.objs.size<=it) (h2:∀x c,X.env.cells.lookup x=some c->c≠it) (h3:∀p∈X.pn++pins,p.1≠it):Inv X pins U H { s with heap:=h',toks:=t' }:=by
 have nit:∀b u,H b=some u->b≠it:=fun b u e z=>by rw [z,hn] at e;cases e
 refine I.step (g':=s.gens) (d':=s.drawn) (ch:=[it]) (fun b hb=>?_) (fun b o _ _ hc e _=>k b o (fun z=>hc (by simp [z])) e) (fun b o _ _ hc e _=>⟨o.slots,k b o (fun z=>hc (by simp [z])) e⟩) (fun _ _ _ _ n=>n)
  (fun b o hc e=>⟨o,k b o (fun z=>hc (by simp [z])) e⟩) (fun _ _ e=>e) (fun _ _ _ e=>e) (fun b ps e=>⟨#[],by rw [e];simp⟩) (fun m hm=>?_) (fun b u e=>?_) I.bare
 ·have e:b=it:=by simpa using hb
  subst e
  exact ⟨h1,hL,h2,h3⟩
 ·obtain ⟨o,es,ep,ho,r⟩:=hm
  exact ⟨o,es,ep,k _ o (Ne.symm hL) ho,r⟩
 ·refine (I.hok b u e).stay (fun c v hc q=>k c v ?_ q) (fun _ q=>q) fun _ _ q=>q
  rcases hc with z|z
  ·rw [z];exact nit b u e
  ·exact nit c _ z
theorem Inv.tok (I:Inv X pins U H s) (t:Nat):Inv X pins U H { s with toks:=t }:=I.un (h':=s.heap) (t':=t) Un.refl I.hok
theorem Inv.kept {t':Nat}(I:Inv X pins U H s) (k:∀b u,s.heap.get? b=some u->h'.get? b=some u):Inv X pins U H { s with heap:=h',toks:=t' }:=I.un (Un.kept k) (I.hok.kept k)
theorem Inv.laid {a:Addr}{o:HO}{t':Nat}(I:Inv X pins U H s) (k:∀b u,s.heap.get? b=some u->h'.get? b=some u) (hp:s.heap.objs.size<=a) (new:ObjOk X.prog X.w (upd H a o) h' a o) :
  Inv X pins U (upd H a o) { s with heap:=h',toks:=t' }:=I.un (Un.laid k hp (I.hok.fresh hp)) (I.hok.laid k hp new)
theorem Inv.write {x e:Addr}{o:HO}{t':Nat}(I:Inv X pins U H s) (mu:Mut (H x)) (he:e=x\/H e=some (.own x)) (k:∀b u,b≠e->s.heap.get? b=some u->h'.get? b=some u) (heo:∃u,h'.get? e=some u)
  (new:ObjOk X.prog X.w (upd H x o) h' x o):Inv X pins U (upd H x o) { s with heap:=h',toks:=t' }:=I.un (Un.write mu he k heo) (I.hok.write mu he k heo new)
theorem Inv.weak {ai:List (Option V)}(I:Inv X pins U H s) (hl:ai.length=U.length) (w:∀(i:Nat) v,ai[i]?=some (some v)->U[i]?=some (some v)):Inv X pins ai H s :=
 ⟨I.ok,I.os,I.bare,I.base,let ⟨m,hn,hl'⟩:=I.loc;⟨m,hn,fun i x v e1 e2 e3=>hl' i x v e1 (w i v e2) e3⟩,I.cell,I.free,I.freeC,I.pin,I.hok,hl.trans I.len⟩
theorem Inv.pins_of {pins':List (Addr×Obj)}(I:Inv X pins U H s) (h:∀p∈pins',s.heap.get? p.1=some p.2/\H p.1=none/\p.1≠X.env.locals/\p.1∉X.fs/\∀v,p.2.data ≠ .cell v):Inv X pins' U H s :=
 ⟨I.ok,I.os,I.bare,I.base,I.loc,I.cell,I.free,I.freeC,fun p hp=>(List.mem_append.mp hp).elim (fun z=>I.pin p (List.mem_append_left _ z)) (h p),I.hok,I.len⟩
theorem zdm {N:List Str}(hN:N.Nodup) {i j:Nat}{x:Str}(a:N[i]?=some x) (b:N[j]?=some x):i=j:=by
 obtain ⟨h1,e1⟩:=List.getElem?_eq_some_iff.mp a
 obtain ⟨h2,e2⟩:=List.getElem?_eq_some_iff.mp b
 exact (List.getElem_inj hN).mp (e1.trans e2.symm)
theorem zjR {M:Model}{A:Around}{E:Value->Shared->Prop}{i:Nat}{x:Str}{v:V}{u:Value}{Q:Unit->Shared->Prop}(I:Inv X pins U H s) (hN:X.N.Nodup) (hi:X.N[i]?=some x) (hx:Loc X.env.scope x) (r:RelV v u)
  (h:∀s',Inv X pins (U.set i (some v)) H s'->(∃a,Heap.SameBut a s.heap s'.heap/\(a=X.env.locals\/X.env.cells.lookup x=some a))->Q () s') (hf:X.fn x=true\/X.env.scope.names.lookup x=some .local:=by first|exact .inl rfl|exact .inr rfl|assumption):wpAny M A (storeName X.env x u) Q E s:=by
 obtain ⟨m,hn,hl⟩:=id I.loc
 have hcls:(X.env.scope.kind == .class||(X.env.scope.kind == .module&&X.env.locals != X.env.globals))=false:=by rw [I.ok.kind];rfl
 have aH:i<U.length:=by rw [I.len];exact (List.getElem?_eq_some_iff.mp hi).1
 have cne:=I.cne
 have tracked:∀{a:Addr} {h':Heap},(∃o,s.heap.get? a=some o/\H a=none)->Heap.SameBut a s.heap h'->HOk X.prog X.w H h':=fun {a h'} ha hs b ob e=>by
  obtain ⟨_,_,hfree⟩:=ha
  refine (I.hok b ob e).stay (fun c w' hc q=>(hs.2 c ?_).trans q) (fun _ q=>q) fun _ _ q=>q
  rintro rfl
  rcases hc with rfl|hc
  ·rw [hfree] at e;cases e
  ·rw [hfree] at hc;cases hc
 rcases hx with hk|hk
 ·refine wpAny_storeName_local hk hn (fun h' hn' hs=>?_) hcls
  obtain ⟨oL,_,_,hoL,_⟩:=id hn
  refine h _ ⟨I.ok,I.os,I.bare,⟨fun b o e n hb hx=>?_,fun b o e n hb hx=>?_,I.base.free,fun b o e hx=>?_,I.base.tups,I.base.frzs,I.base.tbls⟩,⟨_,hn',fun j y v' e1 e2 e3=>?_⟩,fun y c e=>?_,I.free,I.freeC,fun p hp=>?_,tracked ⟨oL,hoL,I.free⟩ hs,by simpa using I.len⟩ ⟨_,hs,.inl rfl⟩
  ·exact (hs.2 b (Nat.ne_of_lt (Nat.lt_of_lt_of_le (Heap.lt_size e) I.ok.above))).trans (I.base.keep b o e n hb hx)
  ·obtain ⟨sl,e1⟩:=I.base.slot b o e n hb hx
   exact ⟨sl,(hs.2 b (Nat.ne_of_lt (Nat.lt_of_lt_of_le (Heap.lt_size e) I.ok.above))).trans e1⟩
  ·obtain ⟨o',e1⟩:=I.base.there b o e hx
   exact ⟨o',(hs.2 b (Nat.ne_of_lt (Nat.lt_of_lt_of_le (Heap.lt_size e) I.ok.above))).trans e1⟩
  ·by_cases hj:j=i
   ·subst hj
    rw [hi] at e1;cases e1
    rw [List.getElem?_set_self aH] at e2
    cases e2
    exact ⟨u,r,.inl ⟨hk,by simp⟩⟩
   ·rw [List.getElem?_set_ne (Ne.symm hj)] at e2
    obtain ⟨u',r',q⟩:=hl j y v' e1 e2 e3
    refine ⟨u',r',?_⟩
    rcases q with ⟨k,e⟩|⟨k,c,e,z⟩
    ·refine .inl ⟨k,?_⟩
     have:y≠x:=fun e=>hj (zdm hN e1 (e▸hi))
     simp [this,e]
    ·exact .inr ⟨k,c,e,z.sameBut hs (cne y c e)⟩
  ·obtain ⟨w',z⟩:=I.cell y c e
   exact ⟨w',z.sameBut hs (cne y c e)⟩
  ·obtain ⟨e,n,ne,nf,d⟩:=I.pin p hp
   exact ⟨(hs.2 p.1 ne).trans e,n,ne,nf,d⟩
 ·have hfn:X.fn x=true:=by
   rcases hf with z|z
   ·exact z
   ·rw [z] at hk;cases hk
  obtain ⟨c,hc⟩:=I.ok.has x (.inl hk)
  obtain ⟨w',z⟩:=I.cell x c hc
  refine wpAny_storeName_cell I.ok.kind hk hc z (fun h' hc' hs=>?_)
  obtain ⟨oc,hoc,hocd⟩:=id z
  refine h { s with heap:=h' } ⟨I.ok,I.os,I.bare,⟨fun b o e n hb hx=>?_,fun b o e n hb hx=>?_,I.base.free,fun b o e hx=>?_,I.base.tups,I.base.frzs,I.base.tbls⟩,⟨m,hn.sameBut hs (Ne.symm (cne x c hc)),fun j y v' e1 e2 e3=>?_⟩,fun y c' e=>?_,I.free,I.freeC,fun p hp=>?_,tracked ⟨oc,hoc,I.freeC x c hc⟩ hs,by simpa using I.len⟩ ⟨c,hs,.inr hc⟩
  ·exact (hs.2 b (Nat.ne_of_lt (Nat.lt_of_lt_of_le (Heap.lt_size e) (I.ok.cab x c hfn hc)))).trans (I.base.keep b o e n hb hx)
  ·obtain ⟨sl,e1⟩:=I.base.slot b o e n hb hx
   exact ⟨sl,(hs.2 b (Nat.ne_of_lt (Nat.lt_of_lt_of_le (Heap.lt_size e) (I.ok.cab x c hfn hc)))).trans e1⟩
  ·obtain ⟨o',e1⟩:=I.base.there b o e hx
   exact ⟨o',(hs.2 b (Nat.ne_of_lt (Nat.lt_of_lt_of_le (Heap.lt_size e) (I.ok.cab x c hfn hc)))).trans e1⟩
  ·by_cases hj:j=i
   ·subst hj
    rw [hi] at e1;cases e1
    rw [List.getElem?_set_self aH] at e2
    cases e2
    exact ⟨u,r,.inr ⟨.inl hk,c,hc,hc'⟩⟩
   ·rw [List.getElem?_set_ne (Ne.symm hj)] at e2
    obtain ⟨u',r',q⟩:=hl j y v' e1 e2 e3
    refine ⟨u',r',?_⟩
    rcases q with q|⟨k,c',e,z'⟩
    ·exact .inl q
    ·refine .inr ⟨k,c',e,z'.sameBut hs ?_⟩
     rintro rfl
     exact hj (zdm hN e1 (I.ok.inj _ _ _ e hc▸hi))
  ·by_cases hcc:c'=c
   ·subst hcc;exact ⟨_,hc'⟩
   ·obtain ⟨w2,z2⟩:=I.cell y c' e
    exact ⟨w2,z2.sameBut hs hcc⟩
  ·obtain ⟨e,n,ne,nf,d⟩:=I.pin p hp
   refine ⟨(hs.2 p.1 ?_).trans e,n,ne,nf,d⟩
   intro q
   rw [q,hoc] at e
   have q':oc=p.2:=Option.some.inj e
   exact d w' (by rw [<-q'];exact hocd)
theorem zaj {M:Model}{A:Around}{E:Value->Shared->Prop}{i:Nat}{x:Str}{v:V}{u:Value}{Q:Unit->Shared->Prop}(I:Inv X pins U H s) (hN:X.N.Nodup) (hi:X.N[i]?=some x) (hx:Loc X.env.scope x) (r:RelV v u)
  (h:∀s',Inv X pins (U.set i (some v)) H s'->Q () s') (hf:X.fn x=true\/X.env.scope.names.lookup x=some .local:=by first|exact .inl rfl|exact .inr rfl|assumption):wpAny M A (storeName X.env x u) Q E s :=
 zjR I hN hi hx r (fun s' I' _=>h s' I') hf
theorem Inv.call' {s':Shared}{ch:List Addr}(I:Inv X pins U H s) (ho:s'.os=s.os) (u:Un (frs X.stack) ch H H' s.heap s'.heap) (hok:HOk X.prog X.w H' s'.heap) (hg:AllBare s'.gens)
  (hch:∀b∈ch,(b∈X.ex\/X.s₀.heap.objs.size<=b)/\b≠X.env.locals/\(∀x c,X.env.cells.lookup x=some c->c≠b)/\∀p∈X.pn++pins,p.1≠b):Inv X pins U H' s':=by
 obtain ⟨h',g',d',t',o'⟩:=s'
 have e:o'=s.os:=ho
 subst e
 exact I.call (g':=g') (t':=t') (d':=d') u hok hg hch
end
abbrev XK:=Value->Option Addr->Hp->Prop
abbrev St:=List (Option V)
abbrev VK:=V->Hp->Prop
abbrev TE:=St->Hp->VK->Prop
abbrev TT:=St->Hp->(Bool->Hp->Prop)->Prop
abbrev TA:=St->Hp->(List V->Hp->Prop)->Prop
structure Ends where
 nx:St->Hp->Prop
 rt:VK
 bk:St->Hp->Prop:=fun _ _=>False
 ct:St->Hp->Prop:=fun _ _=>False
abbrev TS:=Ends->St->Hp->Prop
def EP (X:Cx) (pins:List (Addr×Obj)) (U:St) (Q:VK) (u:Value) (s':Shared):Prop:=∃v H',Inv X pins U H' s'/\RelV v u/\Q v H'
def TP (X:Cx) (pins:List (Addr×Obj)) (U:St) (Q:Bool->Hp->Prop) (b:Bool) (s':Shared):Prop:=∃H',Inv X pins U H' s'/\Q b H'
def AP (X:Cx) (pins:List (Addr×Obj)) (U:St) (Q:List V->Hp->Prop) (us:List Value) (s':Shared):Prop:=∃vs H',Inv X pins U H' s'/\Vals vs us/\Q vs H'
def SP (X:Cx) (pins:List (Addr×Obj)) (D:Ends) (f:Flow) (s':Shared):Prop :=
 match f with
 | .next=>∃ai H',Inv X pins ai H' s'/\D.nx ai H'
 | .brk=>∃ai H',Inv X pins ai H' s'/\D.bk ai H'
 | .cont=>∃ai H',Inv X pins ai H' s'/\D.ct ai H'
 | .ret u=>∃v ai H',Inv X pins ai H' s'/\RelV v u/\D.rt v H'
def PE (X:Cx) (e:Expr) (t:TE):Prop :=
 ∀(pins:List (Addr×Obj)) (s:Shared) (U:St) (H:Hp) (Q:VK),Inv X pins U H s->t U H Q->wpAny (model X.prog X.w) X.A (eval e X.env) (EP X pins U Q) X.xe s
def PT (X:Cx) (e:Expr) (t:TT):Prop :=
 ∀(pins:List (Addr×Obj)) (s:Shared) (U:St) (H:Hp) (Q:Bool->Hp->Prop),Inv X pins U H s->t U H Q->wpAny (model X.prog X.w) X.A (isTrue e X.env (eval e X.env)) (TP X pins U Q) X.xe s
def PW (X:Cx) (e:Expr) (t:TT):Prop :=
 ∀(whole:Sem Value) (pins:List (Addr×Obj)) (s:Shared) (U:St) (H:Hp) (Q:Bool->Hp->Prop),Inv X pins U H s->t U H Q->wpAny (model X.prog X.w) X.A (isTrue e X.env whole) (TP X pins U Q) X.xe s
theorem PW.pt {X:Cx}{e:Expr}{t:TT}(h:PW X e t):PT X e t:=h _
def PA (X:Cx) (es:List Expr) (t:TA):Prop :=
 ∀(pos:Pos) (pins:List (Addr×Obj)) (s:Shared) (U:St) (H:Hp) (Q:List V->Hp->Prop),Inv X pins U H s->t U H Q->wpAny (model X.prog X.w) X.A (spliced (backTo pos (starEach es X.env))) (AP X pins U Q) X.xe s
def PS (X:Cx) (st:Stmt) (t:TS):Prop :=
 ∀(pins:List (Addr×Obj)) (s:Shared) (U:St) (H:Hp) (D:Ends),Inv X pins U H s->t D U H->wpAny (model X.prog X.w) X.A (exec st X.env) (SP X pins D) X.xe s
def PSs (X:Cx) (st:List Stmt) (t:TS):Prop :=
 ∀(pins:List (Addr×Obj)) (s:Shared) (U:St) (H:Hp) (D:Ends),Inv X pins U H s->t D U H->wpAny (model X.prog X.w) X.A (execs st X.env) (SP X pins D) X.xe s
theorem thn {α:Type}{t:Sem α}{Q Q':α->Shared->Prop}{M:Model}{A:Around}{E:Value->Shared->Prop}{s:Shared}(h:wpAny M A t Q E s) (hQ:∀a s,Q a s->Q' a s):wpAny M A t Q' E s:=wpAny_mono h hQ fun _ _ x=>x
section
variable {X:Cx}
def zbO (i:Nat):TE:=fun U H Q=>∃v,U[i]?=some (some v)/\Q v H
def tC (v:V):TE:=fun _ H Q=>Q v H
theorem zfC {i:Nat} {x:Str} {pos:Pos} (hN:X.N[i]?=some x) (hv:Vis X.env.scope x) (hd:(x==("__debug__" : Str))=false:=by decide) (hcd:(x==("__classdict__" : Str))=false:=by decide):PE X (.Name x pos) (zbO i):=by
 intro pins s U H Q I h
 obtain ⟨v,e,h⟩:=h
 obtain ⟨m,hn,hl⟩:=I.loc
 obtain ⟨u,r,l⟩:=hl i x v hN e hv
 have fin:EP X pins U Q u s:=⟨v,H,I,r,h⟩
 rcases l with ⟨hk,hm⟩|⟨hk,c,hc,hcell⟩
 ·exact wpAny_Name (wpAny_loadName_local I.ok.kind hk hn hm fin) hd
 ·rcases hk with hk|hk
  ·exact wpAny_Name (wpAny_loadName_cell I.ok.kind hk hc hcell fin) hd
  ·exact wpAny_Name (wpAny_loadName_free I.ok.kind hk hc hcell fin hcd) hd
theorem zjS {i j pos}:PE X (.Constant (.int i) j pos) (tC (.int i)):=fun _ _ _ H _ I h=>wpAny_Constant_int ⟨.int i,H,I.tok _,⟨_,rfl⟩,h⟩
theorem zjT {b j pos}:PE X (.Constant (.bool b) j pos) (tC (.bl b)):=fun _ _ _ H _ I h=>Constant_bool ⟨.bl b,H,I,rfl,h⟩
theorem zjU {j pos}:PE X (.Constant .none j pos) (tC .non):=fun _ _ _ H _ I h=>Constant_none ⟨.non,H,I,rfl,h⟩
theorem zjV {x j pos}:PE X (.Constant (.str x) j pos) (tC (.str x)):=fun _ _ _ H _ I h=>Calls.Constant_str ⟨.str x,H,I.tok _,⟨_,rfl⟩,h⟩
def Gl (X:Cx) (x:Str):Prop:=X.env.kindOf x=some .globalImplicit
theorem zaR {E:Value->Shared->Prop}{pins:List (Addr×Obj)}{s:Shared}{U:St}{H:Hp}{x:Str}{u:Value}{pos:Pos}{Q:Value->Shared->Prop}(I:Inv X pins U H s) (hg:Gl X x) (hm:X.mg x=some u) (h:Q u s)
  (hd:(x==("__debug__" : Str))=false:=by decide):wpAny (model X.prog X.w) X.A (eval (.Name x pos) X.env) Q E s :=
 Calls.Name_function_global I.ok.kind hg (Calls.loadGlobal_global (by rw [I.ok.glob];exact I.mod.glob.keeps I.bk) hm h) hd
theorem zak {E:Value->Shared->Prop}{pins:List (Addr×Obj)}{s:Shared}{U:St}{H:Hp}{x:Str}{u:Value}{pos:Pos}{Q:Value->Shared->Prop}(I:Inv X pins U H s) (hg:Gl X x) (hm:X.mg x=none) (hv:bootBuiltins x=some u) (h:Q u s)
  (hn:x ≠ "__name__" := by decide) (hd:(x==("__debug__" : Str))=false:=by decide):wpAny (model X.prog X.w) X.A (eval (.Name x pos) X.env) Q E s:=by
 obtain ⟨mb,h1,h2⟩:=I.mod.blt
 exact Calls.Name_function_global I.ok.kind hg (Calls.loadGlobal_builtin (by rw [I.ok.glob];exact I.mod.glob.keeps I.bk) hm (by rw [I.ok.blt];exact h1.keeps I.bk) ((h2 x hn).trans hv) h) hd
theorem zdn {x:Str} {v:V} {u:Value} {pos:Pos} (hg:Gl X x) (hm:X.mg x=some u) (r:RelV v u) (hd:(x==("__debug__" : Str))=false:=by decide):PE X (.Name x pos) (tC v) :=
 fun _ _ _ H _ I h=>zaR I hg hm ⟨v,H,I,r,h⟩ hd
theorem zjW {x:Str} {v:V} {u:Value} {pos:Pos} (hg:Gl X x) (hm:X.mg x=none) (hv:bootBuiltins x=some u) (r:RelV v u) (hn:x ≠ "__name__" := by decide) (hd:(x==("__debug__" : Str))=false:=by decide):PE X (.Name x pos) (tC v) :=
 fun _ _ _ H _ I h=>zak I hg hm hv ⟨v,H,I,r,h⟩ hn hd
variable {a b:Expr}{ta tb:TE}{pos:Pos}
def tB (t:TE):TT:=fun U H Q=>t U H fun x H1=>∃c,x=.bl c/\Q c H1
theorem zjX {e:Expr}{t:TE}(h:PE X e t) (he:∀whole,isTrue e X.env whole=(do let v <-whole;standAt e.pos;holding [v] (truthy v)):=by intro _;rfl):PT X e (tB t):=by
 intro pins s U H Q I hw
 refine isTrue_plain (thn (h pins s U H _ I hw) fun v s1 ⟨x,H1,I1,r1,q1⟩=>?_) (he _)
 obtain ⟨d,rfl,q⟩:=q1
 cases r1
 exact wpAny_truthy_bool ⟨H1,I1,q⟩
variable {tA tB':TT}{rest:List Expr}
def zjY (t u:TT):TT:=fun U H Q=>t U H fun c H1=>if c=true then u U H1 Q else Q false H1
def tOr (t u:TT):TT:=fun U H Q=>t U H fun c H1=>if c=true then Q true H1 else u U H1 Q
def zj0 (t:TT):TT:=fun U H Q=>t U H fun c H1=>Q (!c) H1
theorem zj1 (ha:PT X a tA):PW X (.BoolOp .And [a] pos) tA:=by
 intro wh pins s U H Q I h
 refine isTrue_and (thn (ha pins s U H Q I h) fun c s1 e=>?_)
 cases c with
 | true=>exact isTrue_and_nil e
 | false=>exact e
theorem zj2 (ha:PT X a tA):PW X (.BoolOp .Or [a] pos) tA:=by
 intro wh pins s U H Q I h
 refine isTrue_or (thn (ha pins s U H Q I h) fun c s1 e=>?_)
 cases c with
 | false=>exact isTrue_or_nil e
 | true=>exact e
theorem zj3 (ha:PT X a tA) (hb:PW X (.BoolOp .And (b::rest) pos) tB'):PW X (.BoolOp .And (a::b::rest) pos) (zjY tA tB'):=by
 intro wh pins s U H Q I h
 refine isTrue_and (thn (ha pins s U H _ I h) fun c s1 ⟨H1,I1,q1⟩=>?_)
 cases c with
 | true=>exact hb wh pins s1 U H1 Q I1 q1
 | false=>exact ⟨H1,I1,q1⟩
theorem zj4 (ha:PT X a tA) (hb:PW X (.BoolOp .Or (b::rest) pos) tB'):PW X (.BoolOp .Or (a::b::rest) pos) (tOr tA tB'):=by
 intro wh pins s U H Q I h
 refine isTrue_or (thn (ha pins s U H _ I h) fun c s1 ⟨H1,I1,q1⟩=>?_)
 cases c with
 | true=>exact ⟨H1,I1,q1⟩
 | false=>exact hb wh pins s1 U H1 Q I1 q1
theorem zj5 (ha:PT X a tA):PT X (.UnaryOp .Not a pos) (zj0 tA):=by
 intro pins s U H Q I h
 exact isTrue_not (ha pins s U H (fun c H1=>Q (!c) H1) I h)
def zj6 (ta tb:TE):TE:=fun U H Q=>ta U H fun x H1=>∃c,x=.bl c/\if c=true then tb U H1 Q else Q (.bl false) H1
def zj7 (ta:TE):TE:=fun U H Q=>ta U H fun x H1=>∃c,x=.bl c/\Q (.bl (!c)) H1
theorem zj8 {op}{t:TE}(h:PE X a t):PE X (.BoolOp op [a] pos) t:=fun pins s U H Q I hw=>BoolOp_one (h pins s U H Q I hw)
theorem zj9 (ha:PE X a ta) (hb:PE X (.BoolOp .And (b::rest) pos) tb):PE X (.BoolOp .And (a::b::rest) pos) (zj6 ta tb):=by
 intro pins s U H Q I h
 refine BoolOp_and (thn (ha pins s U H _ I h) fun v s1 ⟨x,H1,I1,r1,q1⟩=>?_)
 obtain ⟨c,rfl,q1⟩:=q1
 cases r1
 refine wpAny_truthy_bool ?_
 cases c with
 | true=>exact hb pins s1 U H1 Q I1 q1
 | false=>exact ⟨.bl false,H1,I1,rfl,q1⟩
theorem zka (ha:PE X a ta):PE X (.UnaryOp .Not a pos) (zj7 ta):=by
 intro pins s U H Q I h
 refine UnaryOp_ (thn (ha pins s U H _ I h) fun v s1 ⟨x,H1,I1,r1,q1⟩=>?_)
 obtain ⟨c,rfl,q1⟩:=q1
 cases r1
 exact not_of (wpAny_truthy_bool ⟨.bl (!c),H1,I1,rfl,q1⟩)
end
def SqL (K:PySem.W.Frag) (H:Hp) (a:Addr) (xs:List V):Prop :=
 Rd H a (.lst xs) \/
  ∃(o:Obj) (its:Array Value) (n:Nat),K.lookup a=some o/\o.cls=.type "list" /\ o.dict=none/\o.data=.seq its n/\its.size<=sizeLine/\Vals xs its.toList
def SqT (K:PySem.W.Frag) (H:Hp) (a:Addr) (xs:List V):Prop :=
 Rd H a (.tup xs) \/
  ∃(o:Obj) (its:Array Value) (n:Nat),K.lookup a=some o/\o.cls=.type "tuple" /\ o.data=.seq its n/\its.size<=sizeLine/\Vals xs its.toList
def absV:Value->Option V
 | .none=>some .non
 | .bool b=>some (.bl b)
 | .int i _=>some (.int i)
 | .str x _=>some (.str x)
 | .bytes b _=>some (.byt b)
 | .float b _=>some (.flt b)
 | .ref a=>some (.ref a)
 | .type n=>some (.ty n)
 | _=>none
theorem RelV.abs {x:V}{u:Value}(r:RelV x u):absV u=some x:=by
 cases x with
 | non=>cases r;rfl
 | bl _=>cases r;rfl
 | int _=>obtain ⟨t,rfl⟩:=r;rfl
 | str _=>obtain ⟨t,rfl⟩:=r;rfl
 | byt _=>obtain ⟨t,rfl⟩:=r;rfl
 | flt _=>obtain ⟨t,rfl⟩:=r;rfl
 | ref _=>cases r;rfl
 | ty _=>cases r;rfl
theorem RelV.inj {x y:V}{u:Value}(r:RelV x u) (q:RelV y u):x=y:=Option.some.inj (r.abs.symm.trans q.abs)
theorem Vals.inj:∀{xs ys:List V}{us:List Value},Vals xs us->Vals ys us->xs=ys
 | _,_,_,.nil,.nil=>rfl
 | _,_,_,.cons r t,.cons r' t'=>by rw [r.inj r',Vals.inj t t']
section
variable {X:Cx}{pins:List (Addr×Obj)}{U:St}{H:Hp}{s:Shared}{a:Addr}{xs ys:List V}
theorem SqL.of {K:PySem.W.Frag}(h:H a=some (.lst xs)):SqL K H a xs:=.inl (.inl h)
theorem SqT.of {K:PySem.W.Frag}(h:H a=some (.tup xs)):SqT K H a xs:=.inl (.inl h)
theorem Inv.list (I:Inv X pins U H s) (h:SqL X.K H a xs):∃its:List Value,Vals xs its/\PlainL s.heap a its.toArray/\xs.length<=sizeLine:=by
 rcases h with h|⟨o,its,n,hk,hc,hd,hs,hz,r⟩
 ·obtain ⟨z,its,n,r,e⟩:=h.ok I.hok
  exact ⟨its,r,⟨_,n,e,rfl,rfl,rfl⟩,z⟩
 ·refine ⟨its.toList,r,⟨o,n,I.kIn a o hk,hc,hd,by simpa using hs⟩,?_⟩
  have e:=r.length
  simp only [Array.length_toList] at e
  omega
theorem Inv.tuple (I:Inv X pins U H s) (h:SqT X.K H a xs):∃its:List Value,Vals xs its/\IsTup s.heap a its.toArray/\xs.length<=sizeLine:=by
 rcases h with h|⟨o,its,n,hk,hc,hs,hz,r⟩
 ·obtain ⟨z,its,r,p⟩:=h.ok I.hok
  exact ⟨its,r,p,z⟩
 ·refine ⟨its.toList,r,⟨o,I.kIn a o hk,hc,n,by simpa using hs⟩,?_⟩
  have e:=r.length
  simp only [Array.length_toList] at e
  omega
theorem Inv.list_inj (I:Inv X pins U H s) (h:SqL X.K H a xs) (h':SqL X.K H a ys):xs=ys:=by
 obtain ⟨its,r,⟨o,n,e,_,_,d⟩,_⟩:=I.list h
 obtain ⟨its',r',⟨o',n',e',_,_,d'⟩,_⟩:=I.list h'
 rw [e] at e';cases e'
 rw [d] at d'
 injection d' with d1 _
 have:its=its':=by simpa using congrArg Array.toList d1
 subst this
 exact r.inj r'
theorem Inv.tuple_inj (I:Inv X pins U H s) (h:SqT X.K H a xs) (h':SqT X.K H a ys):xs=ys:=by
 obtain ⟨its,r,⟨o,e,_,n,d⟩,_⟩:=I.tuple h
 obtain ⟨its',r',⟨o',e',_,n',d'⟩,_⟩:=I.tuple h'
 rw [e] at e';cases e'
 rw [d] at d'
 injection d' with d1 _
 have:its=its':=by simpa using congrArg Array.toList d1
 subst this
 exact r.inj r'
end
abbrev Cx.wish (X:Cx) (E:Value->Shared->Prop):Cx:={ X with xe:=E }
abbrev Cx.nox (X:Cx):Cx:=X.wish fun _ _=>False
theorem Cx.Ok.wish {X:Cx}(ok:X.Ok) (E:Value->Shared->Prop):(X.wish E).Ok :=
 ⟨ok.mod,ok.kind,ok.glob,ok.blt,ok.above,ok.inj,ok.has,ok.cab,ok.hd,ok.frames,ok.stk,ok.exf,ok.bs,ok.bsz,ok.noex,ok.exfs,ok.funs,ok.frf⟩
theorem Cx.Ok.unwish {X:Cx}{E:Value->Shared->Prop}(ok:(X.wish E).Ok):X.Ok :=
 ⟨ok.mod,ok.kind,ok.glob,ok.blt,ok.above,ok.inj,ok.has,ok.cab,ok.hd,ok.frames,ok.stk,ok.exf,ok.bs,ok.bsz,ok.noex,ok.exfs,ok.funs,ok.frf⟩
section
variable {X:Cx}{pins:List (Addr×Obj)}{U:St}{H:Hp}{s:Shared}{E:Value->Shared->Prop}
theorem Inv.wish (I:Inv X pins U H s) (E:Value->Shared->Prop):Inv (X.wish E) pins U H s:=⟨I.ok.wish E,I.os,I.bare,I.base,I.loc,I.cell,I.free,I.freeC,I.pin,I.hok,I.len⟩
theorem Inv.unwish (I:Inv (X.wish E) pins U H s):Inv X pins U H s:=⟨I.ok.unwish,I.os,I.bare,I.base,I.loc,I.cell,I.free,I.freeC,I.pin,I.hok,I.len⟩
theorem SP.unwish {D:Ends}{f:Flow}{s':Shared}(h:SP (X.wish E) pins D f s'):SP X pins D f s':=by
 cases f with
 | next=>obtain ⟨ai,H',I,q⟩:=h;exact ⟨ai,H',I.unwish,q⟩
 | brk=>obtain ⟨ai,H',I,q⟩:=h;exact ⟨ai,H',I.unwish,q⟩
 | cont=>obtain ⟨ai,H',I,q⟩:=h;exact ⟨ai,H',I.unwish,q⟩
 | ret u=>obtain ⟨v,ai,H',I,r,q⟩:=h;exact ⟨v,ai,H',I.unwish,r,q⟩
theorem PE.nox {e:Expr}{t:TE}(h:PE X.nox e t):PE X e t:=fun pins s U H Q I hw =>
 wpAny_mono (h pins s U H Q (I.wish _) hw) (fun _ _ ⟨v,H',I',r,q⟩=>⟨v,H',I'.unwish,r,q⟩) fun _ _ z=>False.elim z
theorem PT.nox {e:Expr}{t:TT}(h:PT X.nox e t):PT X e t:=fun pins s U H Q I hw =>
 wpAny_mono (h pins s U H Q (I.wish _) hw) (fun _ _ ⟨H',I',q⟩=>⟨H',I'.unwish,q⟩) fun _ _ z=>False.elim z
theorem PSs.nox {st:List Stmt}{t:TS}(h:PSs X.nox st t):PSs X st t:=fun pins s U H D I hw =>
 wpAny_mono (h pins s U H D (I.wish _) hw) (fun _ _ q=>q.unwish) fun _ _ z=>False.elim z
end
section
variable {X:Cx}{st:Stmt}{rest:List Stmt}{t u:TS}{e:Expr}{te:TE}{pos:Pos}
def zkb:TS:=fun D U H=>D.nx U H
def zkc (t u:TS):TS:=fun D U H=>t { D with nx:=u D } U H
theorem zkd:PSs X [] zkb:=fun _ _ U H _ I h=>wpAny_execs_nil ⟨U,H,I,h⟩
theorem zke (h1:PS X st t) (h2:PSs X rest u):PSs X (st::rest) (zkc t u):=by
 intro pins s U H D I h
 refine wpAny_execs_cons (thn (h1 pins s U H { D with nx:=u D } I h) fun f s1 q=>?_)
 cases f with
 | next =>
  obtain ⟨ai,H',I',q⟩:=q
  exact h2 pins s1 ai H' D I' q
 | ret v=>exact q
 | brk=>exact q
 | cont=>exact q
theorem zdo (h1:PS X st t):PSs X [st] t:=by
 intro pins s U H D I h
 refine wpAny_execs_cons (thn (h1 pins s U H D I h) fun f s1 q=>?_)
 cases f with
 | next=>exact wpAny_execs_nil q
 | ret v=>exact q
 | brk=>exact q
 | cont=>exact q
theorem Inv.quiet {pins:List (Addr×Obj)}{U:St}{H:Hp}{s:Shared}(I:Inv X pins U H s):interactive X.env=false:=by simp [interactive,I.ok.kind]
def zkf (te:TE):TS:=fun D U H=>te U H fun _ H1=>D.nx U H1
theorem zkg (he:PE X e te) (hs:swapsWith e none pos.line X.env=pure false:=by rfl):PS X (.Expr e pos) (zkf te):=by
 intro pins s U H D I h
 exact wpAny_Expr_any (thn (he pins s U H _ I h) fun v s1 ⟨x,H1,I1,r1,q1⟩=>⟨U,H1,I1,q1⟩) I.quiet hs
def zkh (te:TE):TS:=fun D U H=>te U H D.rt
theorem zki (he:PE X e te):PS X (.Return (some e) pos) (zkh te):=by
 intro pins s U H D I h
 exact wpAny_Return_some (thn (he pins s U H _ I h) fun v s1 ⟨x,H1,I1,r1,q1⟩=>⟨x,U,H1,I1,r1,q1⟩)
def zkj (c:TT) (t u:TS):TS:=fun D U H=>c U H fun b H1=>if b=true then t D U H1 else u D U H1
theorem zkk {c:Expr}{a b:List Stmt}{tc:TT}(hc:PT X c tc) (ha:PSs X a t) (hb:PSs X b u):PS X (.If c a b pos) (zkj tc t u):=by
 intro pins s U H D I h
 refine wpAny_If (thn (hc pins s U H _ I h) fun d s1 ⟨H1,I1,q1⟩=>?_)
 cases d with
 | true=>exact ha pins s1 U H1 D I1 q1
 | false=>exact hb pins s1 U H1 D I1 q1
def zkl:TS:=fun _ _ _=>False
theorem zkm {sts:List Stmt}:PSs X sts zkl:=fun _ _ _ _ _ _ h=>h.elim
end
abbrev TG:=V->St->Hp->(St->Hp->Prop)->Prop
abbrev TGs:=List V->St->Hp->(St->Hp->Prop)->Prop
def PG (X:Cx) (target:Expr) (t:TG):Prop :=
 ∀(pins:List (Addr×Obj)) (s:Shared) (U:St) (H:Hp) (v:V) (u:Value) (Q:St->Hp->Prop),Inv X pins U H s->RelV v u->t v U H Q ->
  wpAny (model X.prog X.w) X.A (assign target X.env u) (fun _ s'=>∃ai H',Inv X pins ai H' s'/\Q ai H') X.xe s
def PGs (X:Cx) (ts:List Expr) (t:TGs):Prop :=
 ∀(pins:List (Addr×Obj)) (s:Shared) (U:St) (H:Hp) (vs:List V) (us:List Value) (Q:St->Hp->Prop),Inv X pins U H s->Vals vs us->t vs U H Q ->
  wpAny (model X.prog X.w) X.A (assignInOrder ((assignEach ts X.env).map (·.2)) us) (fun _ s'=>∃ai H',Inv X pins ai H' s'/\Q ai H') X.xe s
abbrev TIp:=V->V->Hp->VK->Prop
def PIp (X:Cx) (op:Operator) (t:TIp):Prop :=
 ∀(pins:List (Addr×Obj)) (s:Shared) (U:St) (H:Hp) (x y:V) (v u:Value) (Q:VK),Inv X pins U H s->RelV x v->RelV y u->t x y H Q ->
  wpAny (model X.prog X.w) X.A (inplaceOp op v u) (EP X pins U Q) X.xe s
section
variable {X:Cx}{pos:Pos}
def wx (i:Nat):TG:=fun v U H Q=>Q (U.set i (some v)) H
theorem zal {i:Nat}{x:Str}(hN:X.N.Nodup) (hi:X.N[i]?=some x) (hx:Loc X.env.scope x) (hf:X.fn x=true\/X.env.scope.names.lookup x=some .local:=by first|exact .inl rfl|exact .inr rfl|assumption):PG X (.Name x pos) (wx i):=by
 intro pins s U H v u Q I r h
 exact wpAny_assign_Name (zaj I hN hi hx r (fun s' I'=>⟨_,H,I',h⟩) hf)
def zkn:TGs:=fun vs U H Q=>vs=[]/\Q U H
def zko (t:TG) (u:TGs):TGs:=fun vs U H Q=>∃v r,vs=v::r/\t v U H fun ai H'=>u r ai H' Q
theorem zkp:PGs X [] zkn:=by
 intro pins s U H vs us Q I r h
 obtain ⟨e,h⟩:=h
 subst e
 cases r
 exact assignInOrder_nil ⟨U,H,I,h⟩
theorem zfD {e:Expr}{es:List Expr}{t:TG}{u:TGs}(h1:PG X e t) (h2:PGs X es u)
  (hs:(assignEach (e::es) X.env).map (·.2)=assign e X.env::(assignEach es X.env).map (·.2):=by rfl):PGs X (e::es) (zko t u):=by
 intro pins s U H vs us Q I r h
 obtain ⟨v,vr,e1,h⟩:=h
 subst e1
 cases r with
 | cons r rr =>
  rw [hs]
  refine assignInOrder_cons (thn (h1 pins s U H _ _ _ I r h) fun _ s1 ⟨aw,H1,I1,q1⟩=>?_)
  exact h2 pins s1 aw H1 _ _ Q I1 rr q1
def zkq (K:PySem.W.Frag) (n:Nat) (t:TGs):TG:=fun v U H Q=>∃a xs,v=.ref a/\SqT K H a xs/\xs.length=n/\t xs U H Q
theorem zkr {es:List Expr}{k:Nat}{t:TGs}{n:Nat}(hc:X.calm=true) (h:PGs X es t)
  (hn:(assignEach es X.env).length=n:=by rfl) (hst:(assignEach es X.env).findIdx? (·.1)=none:=by rfl):PG X (.Tuple es k pos) (zkq X.K n t):=by
 intro pins s U H v u Q I r hw
 obtain ⟨a,xs,e1,hq,hl,hw⟩:=hw
 subst e1
 cases r
 obtain ⟨its,rv,ht,hz⟩:=I.tuple hq
 refine assign_Tuple_tuple (I.ok.hd hc) ht (by simp [hn,<-hl,rv.length]) hst fun h' hx=>?_
 have I1:Inv X pins U H { s with heap:=h' }:=I.kept (t':=s.toks) fun b o e=>hx b o (Nat.ne_of_lt (Heap.lt_size e)) e
 exact h pins _ U H xs _ Q I1 (by simpa using rv) hw
def zks (te:TE) (g:TG):TS:=fun D U H=>te U H fun x H1=>g x U H1 D.nx
theorem zkt {i:Nat}{x:Str}{e:Expr}{te:TE}{pos':Pos}(hN:X.N.Nodup) (hi:X.N[i]?=some x) (hx:Loc X.env.scope x) (he:PE X e te) (hs:swapsWith e (some (.Name x pos')) pos.line X.env=pure false:=by rfl) (hf:X.fn x=true\/X.env.scope.names.lookup x=some .local:=by first|exact .inl rfl|exact .inr rfl|assumption) :
  PS X (.Assign [.Name x pos'] e pos) (zks te (wx i)):=by
 intro pins s U H D I h
 refine wpAny_Assign_Name (thn (he pins s U H _ I h) fun v s1 ⟨y,H1,I1,r1,q1⟩=>?_) hs
 exact zaj I1 hN hi hx r1 (fun s2 I2=>⟨_,H1,I2,q1⟩) hf
def zku (i:Nat) (te:TE) (ti:TIp):TS:=fun D U H=>∃x,U[i]?=some (some x)/\te U H fun y H1=>ti x y H1 fun z H2=>D.nx (U.set i (some z)) H2
theorem zkv {i:Nat}{x:Str}{e:Expr}{te:TE}{op:Operator}{ti:TIp}{pos':Pos}(hN:X.N.Nodup) (hi:X.N[i]?=some x) (hx:Loc X.env.scope x) (he:PE X e te) (ho:PIp X op ti) (hf:X.fn x=true\/X.env.scope.names.lookup x=some .local:=by first|exact .inl rfl|exact .inr rfl|assumption) :
  PS X (.AugAssign (.Name x pos') op e pos) (zku i te ti):=by
 intro pins s U H D I h
 obtain ⟨v,e1,h⟩:=h
 obtain ⟨m,hn,hl⟩:=I.loc
 have vis:Vis X.env.scope x:=by rcases hx with k|k;exact .inl k;exact .inr (.inl k)
 obtain ⟨u,r,l⟩:=hl i x v hi e1 vis
 refine wpAny_AugAssign_Name ?_
 have go:wpAny (model X.prog X.w) X.A (eval e X.env) (fun w af=>wpAny (model X.prog X.w) X.A (inplaceOp op u w) (fun r aQ=>wpAny (model X.prog X.w) X.A (storeName X.env x r) (fun _=>SP X pins D .next) X.xe aQ) X.xe af) X.xe s:=by
  refine thn (he pins s U H _ I h) fun w s1 ⟨y,H1,I1,r1,q1⟩=>?_
  refine thn (ho pins s1 U H1 v y u w _ I1 r r1 q1) fun z s2 ⟨zv,H2,I2,r2,q2⟩=>?_
  exact zaj I2 hN hi hx r2 (fun s3 I3=>⟨_,H2,I3,q2⟩) hf
 rcases l with ⟨hk,hm⟩|⟨hk,c,hc,hcell⟩
 ·exact wpAny_loadName_local I.ok.kind hk hn hm go
 ·rcases hk with hk|hk
  ·exact wpAny_loadName_cell I.ok.kind hk hc hcell go
  ·rcases hx with k|k
   ·have:X.env.scope.names.lookup x=some .free:=hk
    rw [k] at this;cases this
   ·have:X.env.scope.names.lookup x=some .free:=hk
    rw [k] at this;cases this
def ipI (f:Int->Int->Int):TIp:=fun x y H Q=>∃i j,x=.int i/\y=.int j/\Q (.int (f i j)) H
theorem zkw:PIp X .Add (ipI fun i j=>i+j):=by
 intro pins s U H x y v u Q I r1 r2 h
 obtain ⟨i,j,e1,e2,q⟩:=h
 subst e1;subst e2
 obtain ⟨t,rfl⟩:=r1
 obtain ⟨t',rfl⟩:=r2
 exact iadd_int ⟨.int _,H,I.tok _,⟨_,rfl⟩,q⟩
def zkx (c:TT) (tb:TS):TS:=fun D U H=>∃W:Nat->St->Hp->Prop,(∃m,W m U H)/\∀m U H,W m U H ->
 c U H fun b H1=>if b=true then ∃N:St->Hp->Prop,(∀ai H',N ai H'->∃m',m'<m/\W m' ai H')/\tb { D with nx:=N,ct:=N,bk:=D.nx } U H1 else D.nx U H1
theorem zky {c:Expr}{body:List Stmt}{tc:TT}{tb:TS}(hp:PassesOwn (model X.prog X.w) X.A X.env X.xe) (hc:PT X c tc) (hb:PSs X body tb):PS X (.While c body [] pos) (zkx tc tb):=by
 intro pins s U H D I h
 obtain ⟨W,⟨m0,w0⟩,turn⟩:=h
 refine wpAny_While (codeAny_whileLoop (fun n s'=>∃ai H',Inv X pins ai H' s'/\W n ai H') ?_ m0 ⟨U,H,I,w0⟩)
 rintro n s1 ⟨aw,H1,I1,w1⟩
 refine wpAny_passesOwn hp (thn (hc pins s1 aw H1 _ I1 (turn n aw H1 w1)) fun b s2 ⟨H2,I2,q2⟩=>?_)
 cases b with
 | true =>
  obtain ⟨N,hN,q2⟩:=q2
  rw [if_pos rfl]
  refine wpAny_passesOwn hp (thn (hb pins s2 aw H2 _ I2 q2) fun f s3 q3=>?_)
  cases f with
  | next =>
   obtain ⟨aA,H3,I3,n3⟩:=q3
   obtain ⟨m',hm,w3⟩:=hN aA H3 n3
   exact ⟨m',hm,aA,H3,I3,w3⟩
  | cont =>
   obtain ⟨aA,H3,I3,n3⟩:=q3
   obtain ⟨m',hm,w3⟩:=hN aA H3 n3
   exact ⟨m',hm,aA,H3,I3,w3⟩
  | brk=>exact q3
  | ret v=>exact q3
 | false =>
  rw [if_neg Bool.false_ne_true]
  exact wpAny_execs_nil ⟨aw,H2,I2,q2⟩
end
structure It where
 go:Nat->Hp->Prop
 yld:Nat->Hp->V->Hp->Prop
 stop:Nat->Hp->Prop
def FpOk (X:Cx) (pins:List (Addr×Obj)) (H:Hp) (b:Addr):Prop :=
 H b=none/\b≠X.env.locals/\b∉X.fs/\(b∈X.ex\/X.s₀.heap.objs.size<=b)/\(∀x c,X.env.cells.lookup x=some c->c≠b)/\∀p∈X.pn++pins,p.1≠b
theorem Inv.fpOk {X:Cx}{pins:List (Addr×Obj)}{U:St}{H H':Hp}{s:Shared}{b:Addr}(I:Inv X pins U H s) (hb:s.heap.objs.size<=b) (hn:H' b=none):FpOk X pins H' b:=by
 refine ⟨hn,Nat.ne_of_gt (Nat.lt_of_lt_of_le I.lt hb),I.nofs hb,.inr (Nat.le_trans I.sz hb),fun x c e z=>?_,fun p hp z=>?_⟩
 ·obtain ⟨v,q⟩:=I.cell x c e
  exact absurd (Nat.lt_of_lt_of_le q.lt (by rw [z];exact hb)) (Nat.lt_irrefl _)
 ·exact absurd (Nat.lt_of_lt_of_le (Heap.lt_size (I.pin p hp).1) (by rw [z];exact hb)) (Nat.lt_irrefl _)
structure Turn (P:Program) (w:World) (K:PySem.W.Frag) (tg:Expr) (J:It) (fp:List Addr) (it:Addr) (tn:Nat->Heap->Prop):Prop where
 mem:it∈fp
 obj:∀i h,tn i h->∀b∈fp,∃o,h.get? b=some o/\∀v,o.data ≠ .cell v
 keep:∀i h h',tn i h->(∀b∈fp,∀o,h.get? b=some o->h'.get? b=some o)->tn i h'
 item:∀(X:Cx),X.prog=P->X.w=w->X.K=K->X.calm=true->∀(i:Nat) (pins:List (Addr×Obj)) (s:Shared) (U:St) (H:Hp) (E:Value->Shared->Prop),Inv X pins U H s->(∀b∈fp,FpOk X pins H b)->tn i s.heap->J.go i H ->
  wpAny (model P w) X.A (pyNext (.ref it)) (fun r s1=>∃u,r=some u /\
   wpAny (model P w) X.A (letOwnedTupleGo tg (.ref it) u) (fun _ s2=>∃x H',Inv X pins U H' s2/\RelV x u/\J.yld i H x H'/\tn (i+1) s2.heap/\∀b∈fp,H' b=none) E s1) E s
 done:∀(X:Cx),X.prog=P->X.w=w->X.K=K->X.calm=true->∀(i:Nat) (pins:List (Addr×Obj)) (s:Shared) (U:St) (H:Hp) (E:Value->Shared->Prop),Inv X pins U H s->(∀b∈fp,FpOk X pins H b)->tn i s.heap->J.stop i H ->
  wpAny (model P w) X.A (pyNext (.ref it)) (fun r s1=>r=none/\Inv X pins U H s1) E s
 self:∀(A:Around) (i:Nat) (s:Shared) (Q:Value->Shared->Prop) (E:Value->Shared->Prop),tn i s.heap->Q (.ref it) s->wpAny (model P w) A (pyIter (.ref it)) Q E s
abbrev TI:=St->Hp->(It->Hp->Prop)->Prop
def PIE (X:Cx) (pins:List (Addr×Obj)) (U:St) (tg:Expr) (R:It->Hp->Prop) (itv:Value) (s2:Shared):Prop :=
 ∃(it:Addr) (fp:List Addr) (tn:Nat->Heap->Prop) (J:It) (H':Hp),itv=.ref it/\Inv X pins U H' s2/\Turn X.prog X.w X.K tg J fp it tn/\tn 0 s2.heap/\(∀b∈fp,FpOk X pins H' b)/\R J H'
def PI (X:Cx) (tg iter:Expr) (wi:TI):Prop :=
 ∀(pins:List (Addr×Obj)) (s:Shared) (U:St) (H:Hp) (R:It->Hp->Prop),Inv X pins U H s->wi U H R ->
  wpAny (model X.prog X.w) X.A (eval iter X.env) (fun v s1=>wpAny (model X.prog X.w) X.A (pyIter v) (PIE X pins U tg R) X.xe s1) X.xe s
theorem zaS {M:Model}{A:Around}{E:Value->Shared->Prop}{s:Shared}{tg:Expr}{it:Addr}{u:Value}{o:Obj}{n:String}{vs:Array Value}{Q:Unit->Shared->Prop}(ho:s.heap.get? it=some o) (hc:o.cls=.type n) (hd:o.data=.fields vs)
  (hn:["enumerate", "zip", "dict_itemiterator", "dict_reverseitemiterator", "odict_iterator", "itertools.zip_longest", "itertools.pairwise"].contains n=false) (hQ:Q () s):wpAny M A (letOwnedTupleGo tg (.ref it) u) Q E s:=by
 unfold letOwnedTupleGo
 cases tg<;>first
  | exact wpAny_pure hQ
  | (cases u<;>first
    | exact wpAny_pure hQ
    | (refine wpAny_bind (wpAny_load ho ?_)
       rw [hc,hd]
       show wpAny M A (if (["enumerate", "zip", "dict_itemiterator", "dict_reverseitemiterator", "odict_iterator", "itertools.zip_longest", "itertools.pairwise"].contains n&&vs[0]?==some (rawInt _))=true then _ else _) Q E s
       rw [if_neg (by intro h;rw [hn,Bool.false_and] at h;cases h)]
       exact wpAny_pure hQ))
def Itl (K:PySem.W.Frag) (a:Addr):It :=
 ⟨fun i H=>∃xs x,SqL K H a xs/\xs[i]?=some x,fun i H x H'=>H'=H/\∀xs,SqL K H a xs->xs[i]?=some x,fun i H=>∃xs,SqL K H a xs/\xs.length<=i⟩
def Itt (K:PySem.W.Frag) (a:Addr):It :=
 ⟨fun i H=>∃xs x,SqT K H a xs/\xs[i]?=some x,fun i H x H'=>H'=H/\∀xs,SqT K H a xs->xs[i]?=some x,fun i H=>∃xs,SqT K H a xs/\xs.length<=i⟩
def Itr (lo:Int) (n:Nat):It:=⟨fun i _=>i<n,fun i H x H'=>H'=H/\x=.int (lo+i),fun i _=>n<=i⟩
theorem zkz {P:Program}{w:World}{K:PySem.W.Frag}{tg:Expr}(a it:Addr):Turn P w K tg (Itl K a) [it] it (fun i h=>h.IsListIter it a i) where
 mem:=by simp
 obj:=fun i h st b hb=>by
  have e:b=it:=by simpa using hb
  subst e
  obtain ⟨o,e,c,d⟩:=st
  exact ⟨o,e,fun v z=>by rw [d] at z;cases z⟩
 keep:=fun i h h' st k=>st.at fun o e=>k it (by simp) o e
 item:=by
  intro X hP hw hK hc i pins s U H E I hf st hg
  subst hP hw hK
  obtain ⟨xs,x,hq,hx⟩:=hg
  obtain ⟨its,rv,p,hz⟩:=I.list hq
  obtain ⟨u,hu,ru⟩:=rv.get hx
  obtain ⟨f0,f1,f2,f3,f4,f5⟩:=hf it (by simp)
  refine wpAny_pyNext_list_item st p.isList (x:=u) (by simpa using hu) fun h' st' sb=>?_
  have I1:Inv X pins U H { s with heap:=h' }:=I.turned (t':=s.toks) (fun b o hb e=>(sb.2 b hb).trans e) f0 f1 f3 f4 f5
  obtain ⟨o,e,c,d⟩:=id st'
  exact ⟨u,rfl,zaS (s:={ s with heap:=h' }) e c d (by decide) ⟨x,H,I1,ru,⟨rfl,fun ys hy=>by rw [I.list_inj hy hq];exact hx⟩,st',fun b hb=>(hf b hb).1⟩⟩
 done:=by
  intro X hP hw hK hc i pins s U H E I hf st hg
  subst hP hw hK
  obtain ⟨xs,hq,hx⟩:=hg
  obtain ⟨its,rv,p,hz⟩:=I.list hq
  obtain ⟨f0,f1,f2,f3,f4,f5⟩:=hf it (by simp)
  have hl:=rv.length
  exact wpAny_pyNext_list_end (I.ok.hd hc) st p.isList (by simp;omega) fun h' eb=>⟨rfl,I.turned (t':=s.toks) (fun b o hb e=>eb b o hb e) f0 f1 f3 f4 f5⟩
 self:=fun _ _ _ _ _ st h=>wpAny_pyIter_listiter st h
theorem zkA {P:Program}{w:World}{K:PySem.W.Frag}{tg:Expr}(a it:Addr):Turn P w K tg (Itt K a) [it] it (fun i h=>h.IsTupleIter it a i) where
 mem:=by simp
 obj:=fun i h st b hb=>by
  have e:b=it:=by simpa using hb
  subst e
  obtain ⟨o,e,c,d⟩:=st
  exact ⟨o,e,fun v z=>by rw [d] at z;cases z⟩
 keep:=fun i h h' st k=>st.at fun o e=>k it (by simp) o e
 item:=by
  intro X hP hw hK hc i pins s U H E I hf st hg
  subst hP hw hK
  obtain ⟨xs,x,hq,hx⟩:=hg
  obtain ⟨its,rv,p,hz⟩:=I.tuple hq
  obtain ⟨u,hu,ru⟩:=rv.get hx
  obtain ⟨f0,f1,f2,f3,f4,f5⟩:=hf it (by simp)
  refine wpAny_pyNext_tuple_item st (show s.heap.IsTuple a its.toArray from p) (x:=u) (by simpa using hu) fun h' st' sb=>?_
  have I1:Inv X pins U H { s with heap:=h' }:=I.turned (t':=s.toks) (fun b o hb e=>(sb.2 b hb).trans e) f0 f1 f3 f4 f5
  obtain ⟨o,e,c,d⟩:=id st'
  exact ⟨u,rfl,zaS (s:={ s with heap:=h' }) e c d (by decide) ⟨x,H,I1,ru,⟨rfl,fun ys hy=>by rw [I.tuple_inj hy hq];exact hx⟩,st',fun b hb=>(hf b hb).1⟩⟩
 done:=by
  intro X hP hw hK hc i pins s U H E I hf st hg
  subst hP hw hK
  obtain ⟨xs,hq,hx⟩:=hg
  obtain ⟨its,rv,p,hz⟩:=I.tuple hq
  obtain ⟨f0,f1,f2,f3,f4,f5⟩:=hf it (by simp)
  have hl:=rv.length
  exact wpAny_pyNext_tuple_end (I.ok.hd hc) st (show s.heap.IsTuple a its.toArray from p) (by simp;omega) fun h' eb=>⟨rfl,I.turned (t':=s.toks) (fun b o hb e=>eb b o hb e) f0 f1 f3 f4 f5⟩
 self:=fun _ _ _ _ _ st h=>wpAny_pyIter_tupleiter st h
theorem zkB {P:Program}{w:World}{K:PySem.W.Frag}{tg:Expr}(it:Addr) (lo:Int) (n:Nat):Turn P w K tg (Itr lo n) [it] it (fun i h=>IsRangeIter h it (lo+(i:Nat)*1) ((n:Int)-(i:Nat)) 1) where
 mem:=by simp
 obj:=fun i h st b hb=>by
  have e:b=it:=by simpa using hb
  subst e
  exact ⟨_,st,fun v z=>by
   have z':Data.fields _=Data.cell v:=z
   cases z'⟩
 keep:=fun i h h' st k=>k it (by simp) _ st
 item:=by
  intro X hP hw hK hc i pins s U H E I hf st hg
  subst hP hw hK
  obtain ⟨f0,f1,f2,f3,f4,f5⟩:=hf it (by simp)
  have W:=Walks.range (prog:=X.prog) (w:=X.w) (I.ok.hd hc) it lo 1 n
  refine W.item i s _ _ hg st fun v h' tk hv st' kk=>?_
  obtain ⟨t,rfl⟩:=hv
  have I1:Inv X pins U H { s with heap:=h',toks:=tk }:=I.turned (fun b o hb e=>kk b o (by simpa using hb) e) f0 f1 f3 f4 f5
  refine ⟨_,rfl,zaS (s:={ s with heap:=h',toks:=tk }) (n := "range_iterator") st' rfl rfl (by decide) ⟨.int (lo+i),H,I1,⟨t,?_⟩,⟨rfl,rfl⟩,st',fun b hb=>(hf b hb).1⟩⟩
  rw [Int.mul_one]
 done:=by
  intro X hP hw hK hc i pins s U H E I hf st hg
  subst hP hw hK
  obtain ⟨f0,f1,f2,f3,f4,f5⟩:=hf it (by simp)
  exact wpAny_pyNext_range_end (I.ok.hd hc) st (by have:n<=i:=hg;omega) fun h' eb=>⟨rfl,I.turned (t':=s.toks) (fun b o hb e=>eb b o hb e) f0 f1 f3 f4 f5⟩
 self:=fun _ _ _ _ _ st h=>wpAny_pyIter_rangeiter st h
section
variable {X:Cx}{tg:Expr}
theorem zkC {pins:List (Addr×Obj)}{U:St}{H:Hp}{s:Shared}{R:It->Hp->Prop}{E:Value->Shared->Prop}{lo hi:Int}{t u v:Tok}{tk:Nat}(I:Inv X pins U H s) (h1 : -(2 ^ 62)<=lo) (h2:lo<2 ^ 62) (h3 : -(2 ^ 62)<=hi) (h4:hi<2 ^ 62)
  (q:R (Itr lo (hi-lo).toNat) H):wpAny (model X.prog X.w) X.A (pyIter (.ref s.heap.objs.size)) (PIE X pins U tg R) E { s with heap:=s.heap.push { cls:=.type "range", data:=.fields #[.int lo t,.int hi u,.int 1 v] },toks:=tk }:=by
 refine wpAny_pyIter_range (IsRange.new ..) (small_one h1 h2 h3 h4) ?_
 have I1:Inv X pins U H { s with heap:=s.heap.push { cls:=.type "range", data:=.fields #[.int lo t,.int hi u,.int 1 v] },toks:=tk }:=I.kept fun b o e=>Heap.get?_push_of_some _ e
 refine ⟨(s.heap.push { cls:=.type "range", data:=.fields #[.int lo t,.int hi u,.int 1 v] }).objs.size,[(s.heap.push { cls:=.type "range", data:=.fields #[.int lo t,.int hi u,.int 1 v] }).objs.size],_,_,H,rfl,
  I1.kept (t':=tk) fun b o e=>Heap.get?_push_of_some _ e,zkB _ lo (hi-lo).toNat,?_,fun b hb=>?_,q⟩
 ·have e1:lo+((0:Nat):Int)*1=lo:=by simp
  have e2:(((hi-lo).toNat:Nat):Int)-((0:Nat):Int)=Builtin.Range.rangeSize lo hi 1:=by rw [rangeSize_one];split<;>omega
  show IsRangeIter _ _ (lo+((0:Nat):Int)*1) ((((hi-lo).toNat:Nat):Int)-((0:Nat):Int)) 1
  rw [e1,e2]
  exact Heap.get?_push_size _ rfl
 ·have e:b=(s.heap.push { cls:=.type "range", data:=.fields #[.int lo t,.int hi u,.int 1 v] }).objs.size:=by simpa using hb
  subst e
  exact I1.fpOk (Nat.le_refl _) (I1.hok.fresh (Nat.le_refl _))
def iRng1 (ta:TA):TI:=fun U H R=>ta U H fun vs H1=>∃j:Int,vs=[.int j] /\ -(2 ^ 62)<=j/\j<2 ^ 62/\R (Itr 0 j.toNat) H1
def iRng2 (ta:TA):TI:=fun U H R=>ta U H fun vs H1=>∃i j:Int,vs=[.int i,.int j]/\(-(2 ^ 62)<=i/\i<2 ^ 62 /\ -(2 ^ 62)<=j/\j<2 ^ 62)/\R (Itr i (j-i).toNat) H1
theorem zkD {a:Expr} {ta:TA} {p pos:Pos} (hg:Gl X "range") (hm:X.mg "range" = none) (ha:PA X [a] ta) (hs:starEach [a] X.env=[(false,eval a X.env)]:=by rfl):PI X tg (.Call (.Name "range" p) [a] [] pos) (iRng1 ta):=by
 intro pins s U H R I h
 refine Call_ (zak I hg hm boot_range (PyProof.Rows.callWith_type1 (thn (ha pos pins s U H _ I h) fun us s1 ⟨vs,H1,I1,r1,q1⟩=>?_) hs rfl))
 obtain ⟨j,e,q1,q2,q⟩:=q1
 subst e
 cases r1 with
 | cons r rr =>
  cases rr
  obtain ⟨t,rfl⟩:=r
  exact call_range_1 (zkC I1 (by omega) (by omega) q1 q2 (by simpa using q))
def zkE (wi:TI) (g:TG) (tb:TS):TS:=fun D U H=>wi U H fun J H1=>∃W:Nat->Nat->St->Hp->Prop,(∃m,W 0 m U H1)/\∀i m U H,W i m U H ->
 (J.stop i H/\D.nx U H)\/(J.go i H/\∃N:St->Hp->Prop,(∀ai H',N ai H'->∃m',m'<m/\W (i+1) m' ai H')/\∀x H',J.yld i H x H'->g x U H' fun aK H2=>tb { D with nx:=N,ct:=N,bk:=D.nx } aK H2)
def pinsAt (fp:List Addr) (h:Heap):List (Addr×Obj):=fp.filterMap fun b=>(h.get? b).map fun o=>(b,o)
theorem zaT {fp:List Addr}{h:Heap}{b:Addr}{o:Obj}(hb:b∈fp) (e:h.get? b=some o):(b,o)∈pinsAt fp h:=List.mem_filterMap.mpr ⟨b,hb,by rw [e];rfl⟩
theorem zkF {fp:List Addr}{h:Heap}{p:Addr×Obj}(hp:p∈pinsAt fp h):p.1∈fp/\h.get? p.1=some p.2:=by
 obtain ⟨b,hb,e⟩:=List.mem_filterMap.mp hp
 cases q:h.get? b with
 | none=>rw [q] at e;cases e
 | some o =>
  rw [q] at e
  have e':(b,o)=p:=Option.some.inj e
  subst e'
  exact ⟨hb,q⟩
theorem Inv.pinned {pins:List (Addr×Obj)}{U:St}{H:Hp}{s:Shared}{fp:List Addr}(I:Inv X pins U H s) (hf:∀b∈fp,FpOk X pins H b) (ho:∀b∈fp,∃o,s.heap.get? b=some o/\∀v,o.data ≠ .cell v):Inv X (pins++pinsAt fp s.heap) U H s :=
 I.pins_of fun p hp=>(List.mem_append.mp hp).elim (fun z=>I.pin p (List.mem_append_right _ z)) fun z=>by
  obtain ⟨hb,e⟩:=zkF z
  obtain ⟨f0,f1,f2,_⟩:=hf p.1 hb
  obtain ⟨o,e',d⟩:=ho p.1 hb
  rw [e] at e';cases e'
  exact ⟨e,f0,f1,f2,d⟩
theorem Inv.unpinned {pins pl:List (Addr×Obj)}{U:St}{H:Hp}{s:Shared}(I:Inv X (pins++pl) U H s):Inv X pins U H s:=I.pins_of fun p hp=>I.pin p (List.mem_append_right _ (List.mem_append_left _ hp))
theorem zfE {iter:Expr}{body:List Stmt}{wi:TI}{g:TG}{tb:TS}{pos:Pos}(hp:PassesOwn (model X.prog X.w) X.A X.env X.xe) (hc:X.calm=true) (hi:PI X tg iter wi) (hg:PG X tg g) (hb:PSs X body tb)
  (hs:∀x,foldedSetIterable iter X.env x=pure x:=by intro _;rfl):PS X (.For tg iter body [] pos) (zkE wi g tb):=by
 intro pins s U H D I h
 refine wpAny_For (thn (hi pins s U H _ I h) fun v s1 h1=>thn h1 fun itv s2 h2=>?_) hs
 obtain ⟨it,fp,tn,J,H2,e,I2,T,st2,f2,W,⟨m0,w0⟩,turn⟩:=h2
 subst e
 have stat:∀{H':Hp},(∀b∈fp,H' b=none)->∀b∈fp,FpOk X pins H' b:=fun hn b hb=>⟨hn b hb,(f2 b hb).2⟩
 refine codeAny_forLoop_any (fun n s'=>∃i ai H',Inv X pins ai H' s'/\tn i s'.heap/\(∀b∈fp,H' b=none)/\W i n ai H') ?_ m0 ⟨0,U,H2,I2,st2,fun b hb=>(f2 b hb).1,w0⟩
 rintro n s3 ⟨i,aA,H3,I3,st3,fr3,w3⟩
 rcases turn i n aA H3 w3 with ⟨stop,qn⟩|⟨go,N,hN,step⟩
 ·refine wpAny_passesOwn hp (thn (T.done X rfl rfl rfl hc i pins s3 aA H3 X.xe I3 (stat fr3) st3 stop) fun r s4 ⟨hr,I4⟩=>?_)
  subst hr
  exact wpAny_execs_nil ⟨aA,H3,I4,qn⟩
 ·refine wpAny_passesOwn hp (thn (T.item X rfl rfl rfl hc i pins s3 aA H3 X.xe I3 (stat fr3) st3 go) fun r s4 ⟨u,hr,h4⟩=>?_)
  subst hr
  refine wpAny_passesOwn hp (thn h4 fun _ s5 ⟨x,H5,I5,r5,y5,st5,fr5⟩=>?_)
  have I5':=I5.pinned (stat fr5) (T.obj _ _ st5)
  refine wpAny_passesOwn hp (thn (hg _ s5 aA H5 x u _ I5' r5 (step x H5 y5)) fun _ s6 ⟨aI,H6,I6,q6⟩=>?_)
  refine wpAny_passesOwn hp (thn (hb _ s6 aI H6 _ I6 q6) fun f s7 q7=>?_)
  have again:∀{az:St} {H7:Hp},Inv X (pins++pinsAt fp s5.heap) az H7 s7->N az H7->∃m,m<n/\∃i ai H',Inv X pins ai H' s7/\tn i s7.heap/\(∀b∈fp,H' b=none)/\W i m ai H':=fun {az H7} I7 n7=>by
   obtain ⟨m',hm,w7⟩:=hN az H7 n7
   refine ⟨m',hm,i+1,az,H7,I7.unpinned,T.keep _ _ _ st5 fun b hb o e=>(I7.pin (b,o) (List.mem_append_right _ (List.mem_append_right _ (zaT hb e)))).1,fun b hb=>?_,w7⟩
   obtain ⟨o,e,d⟩:=T.obj _ _ st5 b hb
   exact (I7.pin (b,o) (List.mem_append_right _ (List.mem_append_right _ (zaT hb e)))).2.1
  cases f with
  | next=>obtain ⟨az,H7,I7,n7⟩:=q7;exact again I7 n7
  | cont=>obtain ⟨az,H7,I7,n7⟩:=q7;exact again I7 n7
  | brk=>obtain ⟨az,H7,I7,q7⟩:=q7;exact ⟨az,H7,I7.unpinned,q7⟩
  | ret v=>obtain ⟨x7,az,H7,I7,r7,q7⟩:=q7;exact ⟨x7,az,H7,I7.unpinned,r7,q7⟩
end
abbrev R2:=V->V->Hp->VK->Prop
def OpR (X:Cx) (f:Value->Value->Sem Value) (r:R2):Prop :=
 ∀(pins:List (Addr×Obj)) (s:Shared) (U:St) (H:Hp) (x y:V) (v u:Value) (Q:VK),Inv X pins U H s->RelV x v->RelV y u->r x y H Q ->
  wpAny (model X.prog X.w) X.A (f v u) (EP X pins U Q) X.xe s
def UnR (X:Cx) (f:Value->Sem Value) (r:V->Hp->VK->Prop):Prop :=
 ∀(pins:List (Addr×Obj)) (s:Shared) (U:St) (H:Hp) (x:V) (v:Value) (Q:VK),Inv X pins U H s->RelV x v->r x H Q ->
  wpAny (model X.prog X.w) X.A (f v) (EP X pins U Q) X.xe s
def CallR (X:Cx) (f:Value) (r:List V->Hp->VK->Prop):Prop :=
 ∀(pins:List (Addr×Obj)) (s:Shared) (U:St) (H:Hp) (xs:List V) (us:List Value) (Q:VK),Inv X pins U H s->Vals xs us->r xs H Q ->
  wpAny (model X.prog X.w) X.A (call f us) (EP X pins U Q) X.xe s
def tOp (r:R2) (ta tb:TE):TE:=fun U H Q=>ta U H fun x H1=>tb U H1 fun y H2=>r x y H2 Q
def tUn (r:V->Hp->VK->Prop) (ta:TE):TE:=fun U H Q=>ta U H fun x H1=>r x H1 Q
def rI (C:Int->Int->Prop) (g:Int->Int->V):R2:=fun x y H Q=>∃i j,x=.int i/\y=.int j/\C i j/\Q (g i j) H
def wa (g:Int->Int->V):R2:=fun x y H Q=>∃i j,x=.int i/\y=.int j/\Q (g i j) H
def rU (g:Int->V):V->Hp->VK->Prop:=fun x H Q=>∃i,x=.int i/\Q (g i) H
section
variable {X:Cx}{a b c:Expr}{ta tb tc:TE}{pos:Pos}
theorem binT (ha:PE X a ta) (hb:PE X b tb) {pins:List (Addr×Obj)}{s:Shared}{U:St}{H:Hp}{R:V->V->Hp->Prop}(I:Inv X pins U H s)
  (h:ta U H fun x H1=>tb U H1 fun y H2=>R x y H2) {Q:Value->Shared->Prop} {f:Value->Value->Sem Value}
  (hf:∀v u s2 x y H2,Inv X pins U H2 s2->RelV x v->RelV y u->R x y H2->wpAny (model X.prog X.w) X.A (f v u) Q X.xe s2) :
  wpAny (model X.prog X.w) X.A (eval a X.env) (fun v al=>wpAny (model X.prog X.w) X.A (eval b X.env) (fun u af=>wpAny (model X.prog X.w) X.A (f v u) Q X.xe af) X.xe al) X.xe s:=by
 refine thn (ha pins s U H _ I h) fun v s1 ⟨x,H1,I1,r1,q1⟩=>?_
 refine thn (hb pins s1 U H1 _ I1 q1) fun u s2 ⟨y,H2,I2,r2,q2⟩=>?_
 exact hf v u s2 x y H2 I2 r1 r2 q2
theorem zkH {op:Operator}{r:R2}(ho:OpR X (binaryOp op) r) (ha:PE X a ta) (hb:PE X b tb):PE X (.BinOp a op b pos) (tOp r ta tb):=by
 intro pins s U H Q I h
 exact wpAny_BinOp (binT ha hb I h fun v u s2 x y H2 I2 rx ry q=>ho pins s2 U H2 x y v u Q I2 rx ry q)
theorem zkI {op:UnaryOp}{r:V->Hp->VK->Prop}(ho:UnR X (unaryOp op) r) (ha:PE X a ta):PE X (.UnaryOp op a pos) (tUn r ta):=by
 intro pins s U H Q I h
 exact UnaryOp_ (thn (ha pins s U H _ I h) fun v s1 ⟨x,H1,I1,r1,q1⟩=>ho pins s1 U H1 x v Q I1 r1 q1)
theorem opI {f:Value->Value->Sem Value}{C:Int->Int->Prop}{g:Int->Int->Int}
  (rule:∀(i j:Int) (t u:Tok) (s:Shared) (Q:Value->Shared->Prop) (E:Value->Shared->Prop),C i j->Q (.int (g i j) s.toks) { s with toks:=s.toks+1 }->wpAny (model X.prog X.w) X.A (f (.int i t) (.int j u)) Q E s) :
  OpR X f (rI C fun i j=>.int (g i j)):=by
 intro pins s U H x y v u Q I rx ry h
 obtain ⟨i,j,rfl,rfl,hc,q⟩:=h
 obtain ⟨t,rfl⟩:=rx
 obtain ⟨t',rfl⟩:=ry
 exact rule i j t t' s _ _ hc ⟨.int (g i j),H,I.tok _,⟨_,rfl⟩,q⟩
theorem zfF {f:Value->Value->Sem Value}{g:Int->Int->Int}
  (rule:∀(i j:Int) (t u:Tok) (s:Shared) (Q:Value->Shared->Prop) (E:Value->Shared->Prop),Q (.int (g i j) s.toks) { s with toks:=s.toks+1 }->wpAny (model X.prog X.w) X.A (f (.int i t) (.int j u)) Q E s) :
  OpR X f (wa fun i j=>.int (g i j)):=by
 intro pins s U H x y v u Q I rx ry h
 obtain ⟨i,j,rfl,rfl,q⟩:=h
 obtain ⟨t,rfl⟩:=rx
 obtain ⟨t',rfl⟩:=ry
 exact rule i j t t' s _ _ ⟨.int (g i j),H,I.tok _,⟨_,rfl⟩,q⟩
theorem zdp {f:Value->Value->Sem Value}{g:Int->Int->Bool}
  (rule:∀(i j:Int) (t u:Tok) (s:Shared) (Q:Value->Shared->Prop) (E:Value->Shared->Prop),Q (.bool (g i j)) s->wpAny (model X.prog X.w) X.A (f (.int i t) (.int j u)) Q E s) :
  OpR X f (wa fun i j=>.bl (g i j)):=by
 intro pins s U H x y v u Q I rx ry h
 obtain ⟨i,j,rfl,rfl,q⟩:=h
 obtain ⟨t,rfl⟩:=rx
 obtain ⟨t',rfl⟩:=ry
 exact rule i j t t' s _ _ ⟨.bl (g i j),H,I,rfl,q⟩
def CPow (i j:Int):Prop:=0<=j/\j<=1000000/\i.natAbs<2 ^ 64
def CMul (i j:Int):Prop:=(-(2 ^ 64)<i/\i<2 ^ 64)\/(-(2 ^ 64)<j/\j<2 ^ 64)
theorem CMul.ok {i j:Int}(h:CMul i j):IntMulOk i j:=by
 rcases h with ⟨h1,h2⟩|⟨h1,h2⟩
 ·exact .of_left (intBits_le_64 h1 h2)
 ·exact .of_right (intBits_le_64 h1 h2)
theorem zkJ:OpR X (binaryOp .Add) (wa fun i j=>.int (i+j)):=zfF fun _ _ _ _ _ _ _ q=>add_int q
theorem zkK:OpR X (binaryOp .Sub) (wa fun i j=>.int (i-j)):=zfF fun _ _ _ _ _ _ _ q=>sub_int q
theorem zkL:OpR X (binaryOp .Mult) (rI CMul fun i j=>.int (i*j)):=opI fun _ _ _ _ _ _ _ hc q=>mul_int q hc.ok
theorem zkM:OpR X (binaryOp .Mod) (rI (fun _ j=>j≠0) fun i j=>.int (i.fmod j)):=opI fun _ _ _ _ _ _ _ hc q=>mod_int' hc q
theorem zkN:OpR X (binaryOp .Pow) (rI CPow fun i j=>.int (i ^ j.toNat)):=opI fun _ _ _ _ _ _ _ hc q=>pow_int_small hc.1 hc.2.1 hc.2.2 q
theorem unI {f:Value->Sem Value}{g:Int->Int}
  (rule:∀(i:Int) (t:Tok) (s:Shared) (Q:Value->Shared->Prop) (E:Value->Shared->Prop),Q (.int (g i) s.toks) { s with toks:=s.toks+1 }->wpAny (model X.prog X.w) X.A (f (.int i t)) Q E s) :
  UnR X f (rU fun i=>.int (g i)):=by
 intro pins s U H x v Q I rx h
 obtain ⟨i,rfl,q⟩:=h
 obtain ⟨t,rfl⟩:=rx
 exact rule i t s _ _ ⟨.int (g i),H,I.tok _,⟨_,rfl⟩,q⟩
theorem zkO:UnR X (unaryOp .USub) (rU fun i=>.int (-i)):=unI fun _ _ _ _ _ q=>neg_int q
theorem zfG {pins:List (Addr×Obj)}{U:St}{H:Hp}{s:Shared}{Q:VK}{k k':Bool}(I:Inv X pins U H s) (q:Q (.bl k) H) (e:k=k'):EP X pins U Q (.bool k') s:=by
 subst e
 exact ⟨.bl k,H,I,rfl,q⟩
theorem zkP:OpR X (compareOp .Lt) (wa fun i j=>.bl (decide (i<j))):=zdp fun _ _ _ _ _ _ _ q=>lt_int q
theorem zkQ:OpR X (compareOp .LtE) (wa fun i j=>.bl (decide (i<=j))):=zdp fun _ _ _ _ _ _ _ q=>le_int q
theorem zkR:OpR X (compareOp .Gt) (wa fun i j=>.bl (decide (j<i))):=zdp fun _ _ _ _ _ _ _ q=>gt_int q
theorem zkS:OpR X (compareOp .In) (fun x y H Q=>∃i j,x=.str i/\y=.str j/\Q (.bl (!(Builtin.Str.occurrences j i 0 j.length 1).isEmpty)) H):=by
 intro pins s U H x y v u Q I rx ry h
 obtain ⟨i,j,rfl,rfl,q⟩:=h
 obtain ⟨t,rfl⟩:=rx
 obtain ⟨t',rfl⟩:=ry
 exact in_str (zfG I q rfl)
theorem zkT:OpR X (compareOp .Is) (fun x y H Q=>y=.non/\Q (.bl (decide (x=.non))) H):=by
 intro pins s U H x y v u Q I rx ry h
 obtain ⟨rfl,q⟩:=h
 cases ry
 refine is_none_gen (zfG I q ?_)
 cases x<;>first
  | (cases rx;rfl)
  | (obtain ⟨t,rfl⟩:=rx;rfl)
theorem OpR.or {f:Value->Value->Sem Value}{r r':R2}(h:OpR X f r) (h':OpR X f r'):OpR X f (fun x y H Q=>r x y H Q\/r' x y H Q):=by
 intro pins s U H x y v u Q I rx ry q
 rcases q with q|q
 ·exact h pins s U H x y v u Q I rx ry q
 ·exact h' pins s U H x y v u Q I rx ry q
theorem nomark (b:Expr) {op:CmpOp}(h:op ≠ .In:=by decide) (h2:op ≠ .NotIn:=by decide):behindInMarks op b=false:=by
 have e1:(op==CmpOp.In)=false:=by cases op<;>first|rfl|exact absurd rfl h
 have e2:(op==CmpOp.NotIn)=false:=by cases op<;>first|rfl|exact absurd rfl h2
 cases b<;>simp [behindInMarks,e1,e2]
theorem zkU {op:CmpOp}{r:R2}(ho:OpR X (compareOp op) r) (ha:PE X a ta) (hb:PE X b tb) (hm:behindInMarks op b=false):PE X (.Compare a [op] [b] pos) (tOp r ta tb):=by
 intro pins s U H Q I h
 exact wpAny_Compare1 (binT ha hb I h fun v u s2 x y H2 I2 rx ry q=>ho pins s2 U H2 x y v u Q I2 rx ry q) hm
def zfH (t:TE):TT:=fun U H Q=>t U H fun x H'=>∃k,x=.bl k/\Q k H'
theorem zfI {op:CmpOp}{r:R2}(ho:OpR X (compareOp op) r) (ha:PE X a ta) (hb:PE X b tb) (hm:behindInMarks op b=false):PT X (.Compare a [op] [b] pos) (zfH (tOp r ta tb)):=by
 intro pins s U H Q I h
 refine wpAny_isTrue_Compare1 (thn (ha pins s U H _ I h) fun v s1 ⟨x,H1,I1,r1,q1⟩=>thn (hb pins s1 U H1 _ I1 q1) fun u s2 ⟨y,H2,I2,r2,q2⟩ =>
  thn (ho pins s2 U H2 x y v u _ I2 r1 r2 q2) fun c s3 ⟨z,H3,I3,r3,k,e,q3⟩=>?_) hm
 subst e
 cases r3
 exact wpAny_truthy_bool ⟨H3,I3,q3⟩
def zfJ (r r':R2) (ta tb tc:TE):TE:=fun U H Q=>ta U H fun x H1=>tb U H1 fun y H2=>r x y H2 fun z H3=>∃k,z=.bl k /\
 (if k=true then tc U H3 fun w' H4=>r' y w' H4 Q else Q (.bl false) H3)
theorem zkV {op op':CmpOp}{r r':R2}(ho:OpR X (compareOp op) r) (ho':OpR X (compareOp op') r') (ha:PE X a ta) (hb:PE X b tb) (hc:PE X c tc)
  (hm:lastMarks [op,op'] [b,c]=false:=by with_unfolding_all rfl):PT X (.Compare a [op,op'] [b,c] pos) (zfH (zfJ r r' ta tb tc)):=by
 intro pins s U H Q I h
 refine isTrue_chain (thn (ha pins s U H _ I h) fun v s1 ⟨x,H1,I1,r1,q1⟩=>test_link (thn (hb pins s1 U H1 _ I1 q1) fun u s2 ⟨y,H2,I2,r2,q2⟩ =>
  thn (ho pins s2 U H2 x y v u _ I2 r1 r2 q2) fun d s3 ⟨z,H3,I3,r3,k,e,q3⟩=>?_)) hm
 subst e
 cases r3
 refine wpAny_truthy_bool ?_
 cases k with
 | false =>
  obtain ⟨k',e',q'⟩:=q3
  cases e'
  exact ite_ff ⟨H3,I3,q'⟩
 | true =>
  refine ite_tt (test_last (thn (hc pins s3 U H3 _ I3 q3) fun w' s4 ⟨z',H4,I4,r4,q4⟩=>thn (ho' pins s4 U H4 y z' u w' _ I4 r2 r4 q4) fun d' s5 ⟨z2,H5,I5,r5,k2,e2,q5⟩=>?_))
  subst e2
  cases r5
  exact wpAny_truthy_bool ⟨H5,I5,q5⟩
theorem zbP:(sizeLine:Nat)<2 ^ 63:=by rw [sizeLine_eq];decide
theorem zkW:OpR X (binaryOp .Add) (fun x y H Q=>∃i j,x=.str i/\y=.str j/\i.length+j.length<=sizeLine/\Q (.str (i++j)) H):=by
 intro pins s U H x y v u Q I rx ry h
 obtain ⟨i,j,rfl,rfl,hz,q⟩:=h
 obtain ⟨t,rfl⟩:=rx
 obtain ⟨t',rfl⟩:=ry
 exact add_str (fun t' tk=>⟨.str (i++j),H,I.tok _,⟨_,rfl⟩,q⟩) hz
theorem wy {x:V}{us:List Value}(r:Vals [x] us):∃u,us=[u]/\RelV x u:=by
 cases r with
 | cons r1 r2=>cases r2;exact ⟨_,rfl,r1⟩
theorem zbQ {x y:V}{us:List Value}(r:Vals [x,y] us):∃u w',us=[u,w']/\RelV x u/\RelV y w':=by
 cases r with
 | cons r1 r2 =>
  cases r2 with
  | cons r3 r4=>cases r4;exact ⟨_,_,rfl,r1,r3⟩
theorem zkX (hc:X.calm=true):CallR X (.builtin "max") (fun xs H Q=>∃i j,xs=[.int i,.int j]/\Q (.int (if j>i then j else i)) H):=by
 intro pins s U H xs us Q I r h
 obtain ⟨i,j,rfl,q⟩:=h
 obtain ⟨u,w',rfl,⟨t,rfl⟩,⟨t',rfl⟩⟩:=zbQ r
 refine max_two_ints (I.ok.hd hc) fun h' tk k=>⟨_,H,I.kept k,?_,q⟩
 by_cases hj:j>i
 ·rw [if_pos hj,if_pos hj];exact ⟨_,rfl⟩
 ·rw [if_neg hj,if_neg hj];exact ⟨_,rfl⟩
theorem zkY (hc:X.calm=true):CallR X (.builtin "min") (fun xs H Q=>∃i j,xs=[.int i,.int j]/\Q (.int (if j<i then j else i)) H):=by
 intro pins s U H xs us Q I r h
 obtain ⟨i,j,rfl,q⟩:=h
 obtain ⟨u,w',rfl,⟨t,rfl⟩,⟨t',rfl⟩⟩:=zbQ r
 refine min_two_ints (I.ok.hd hc) fun h' tk k=>⟨_,H,I.kept k,?_,q⟩
 by_cases hj:j<i
 ·rw [if_pos hj,if_pos hj];exact ⟨_,rfl⟩
 ·rw [if_neg hj,if_neg hj];exact ⟨_,rfl⟩
theorem zkZ:CallR X (.type "int") (fun xs H Q=>(∃i,xs=[.int i]/\Q (.int i) H)\/∃k,xs=[.bl k]/\Q (.int (if k then 1 else 0)) H):=by
 intro pins s U H xs us Q I r h
 rcases h with ⟨i,rfl,q⟩|⟨k,rfl,q⟩
 ·obtain ⟨u,rfl,t,rfl⟩:=wy r
  exact call_int_int ⟨.int i,H,I,⟨_,rfl⟩,q⟩
 ·obtain ⟨u,rfl,r1⟩:=wy r
  cases r1
  exact call_int_bool ⟨.int (if k then 1 else 0),H,I.tok _,⟨_,rfl⟩,q⟩
def LenV (K:PySem.W.Frag) (x:V) (H:Hp) (n:Nat):Prop :=
 match x with
 | .str y=>y.length<=sizeLine/\n=y.length
 | .byt y=>y.size<=sizeLine/\n=y.size
 | .ref p=>(∃xs,SqL K H p xs/\n=xs.length)\/∃xs,SqT K H p xs/\n=xs.length
 | _=>False
theorem zk0:CallR X (.builtin "len") (fun xs H Q=>∃x n,xs=[x]/\LenV X.K x H n/\Q (.int n) H):=by
 intro pins s U H xs us Q I r h
 obtain ⟨x,n,rfl,e,q⟩:=h
 obtain ⟨u,rfl,rx⟩:=wy r
 have hl:=zbP
 have hs:sizeLine=16777216:=sizeLine_eq
 cases x with
 | str y =>
  obtain ⟨t,rfl⟩:=rx
  obtain ⟨hy,e'⟩:y.length<=sizeLine/\n=y.length:=e
  subst e'
  exact len_str (by omega) ⟨.int _,H,I.tok _,⟨_,rfl⟩,q⟩
 | byt y =>
  obtain ⟨t,rfl⟩:=rx
  obtain ⟨hy,e'⟩:y.size<=sizeLine/\n=y.size:=e
  subst e'
  exact PySem.W.len_bytes (by omega) ⟨.int _,H,I.tok _,⟨_,rfl⟩,q⟩
 | ref p =>
  cases rx
  have e':(∃xs,SqL X.K H p xs/\n=xs.length)\/∃xs,SqT X.K H p xs/\n=xs.length:=e
  rcases e' with ⟨xs,hx,e'⟩|⟨xs,hx,e'⟩
  ·subst e'
   obtain ⟨its,r',pl,hz⟩:=I.list hx
   have hlen:=r'.length
   exact Calls.call_len_list pl.isList (by simp only [List.size_toArray];omega) ⟨.int xs.length,H,I.tok _,⟨_,by simp only [List.size_toArray];rw [hlen]⟩,q⟩
  ·subst e'
   obtain ⟨its,r',pl,hz⟩:=I.tuple hx
   have hlen:=r'.length
   exact len_tuple pl (by simp only [List.size_toArray];omega) ⟨.int xs.length,H,I.tok _,⟨_,by simp only [List.size_toArray];rw [hlen]⟩,q⟩
 | _=>exact (show False from e).elim
end
structure ObjM (h:Heap) (x dx C:Addr) (mA:Str->Option Value):Prop where
 obj:h.get? x=some (PySem.W.instObj C dx)
 ns:h.Ns1 dx mA
 ne:dx≠x
theorem zfK {h:Heap}{dx:Addr}{mA:Str->Option Value}(n:h.Ns1 dx mA):∃od,h.get? dx=some od/\∀name,PySem.W.lookIn name od=some (mA name):=by
 obtain ⟨o,es,ep,ho,hd,hk,_,hm⟩:=n
 refine ⟨o,ho,fun name=>?_⟩
 have e:=hm name
 unfold nsFind findBy at e
 rw [<-Array.find?_toList] at e
 unfold PySem.W.lookIn
 rw [hd]
 dsimp only
 split
 ·rename_i y q
  rw [q] at e
  exact congrArg some e
 ·rename_i q
  rw [q] at e
  have a:es.toList.any (·.refKey)=false:=by
   rw [List.any_eq_false]
   intro y hy
   obtain ⟨z,t,hkey⟩:=hk y (Array.mem_toList_iff.mp hy)
   simp [DictEntry.refKey,hkey]
  have a':¬es.toList.any (·.refKey)=true:=by rw [a];exact Bool.false_ne_true
  rw [if_neg a']
  exact congrArg some e
theorem ObjM.look {h:Heap}{x dx C:Addr}{mA:Str->Option Value}(I:ObjM h x dx C mA):∃od,PySem.W.InstAt h x (PySem.W.instObj C dx) C (some od)/\∀name,PySem.W.lookIn name od=some (mA name) :=
 let ⟨od,ho,hl⟩:=zfK I.ns
 ⟨od,⟨I.obj,rfl,rfl,ho⟩,hl⟩
section
variable {prog:Program}{w:World}{A:Around}{E:Value->Shared->Prop}{s:Shared}{K:PySem.W.Frag}{x dx C f:Addr}{mA:Str->Option Value}{name:Str}{v:Value}
theorem zk1 {expr:Bool}{Q:Value->Shared->Prop}(X:K.In s.heap) (I:ObjM s.heap x dx C mA) (hg:PySem.W.plainGet K C name=true) (hh:PySem.W.hasDictIn K C=true)
  (ha:PySem.W.findIn K (.ref C) name=some none) (hv:mA name=some v) (hv':PySem.W.handedIn v=true) (h:Q v { s with toks:=s.toks+1 }) :
  wpAny (model prog w) A (getAttr (.ref x) name expr) Q E s:=by
 obtain ⟨od,J,hl⟩:=I.look
 exact PySem.W.get_value X J (PySem.W.plainGet_of hg).1 (PySem.W.findObj_own hh ha rfl (by rw [hl,hv])) hv' h
theorem zk2 {pl:Sem Bool}{Q:Value×List Value->Shared->Prop}(X:K.In s.heap) (I:ObjM s.heap x dx C mA) (hg:PySem.W.plainGet K C name=true)
  (hf:PySem.W.findIn K (.ref C) name=some (some (.ref f))) (ht:PySem.W.isFn K (.ref f)=true) (hv:mA name=none) (h:Q (.ref f,[.ref x]) s) :
  wpAny (model prog w) A (getMethod (.ref x) name pl) Q E s:=by
 obtain ⟨od,J,hl⟩:=I.look
 exact PySem.W.method_fn X J (PySem.W.plainGet_of hg).1 (PySem.W.plainGet_of hg).2 hf (beq_iff_eq.mp ht) (by show (PySem.W.lookIn name od).map (·.isSome)=some false;rw [hl,hv];rfl) h
theorem zk3 {ns:List Str}{Q:Unit->Shared->Prop}(X:K.In s.heap) (I:ObjM s.heap x dx C mA)
  (hs:PySem.W.findIn K (.ref C) "__setattr__" = some (some (.builtin "object.__setattr__"))) (hp:PySem.W.plainOver K C=true) (ht:PySem.W.takerIn K C name=some none) (hh:PySem.W.hasDictIn K C=true)
  (hw:PySem.Within mA ns) (hsz:ns.length<=sizeLine)
  (h:∀h',ObjM h' x dx C (fun y=>if y=name then some v else mA y)->Heap.SameBut dx s.heap h'->Q () { s with heap:=h',toks:=s.toks+2 }) :
  wpAny (model prog w) A (setAttr (.ref x) name v) Q E s:=by
 obtain ⟨od,J,hl⟩:=I.look
 refine PySem.W.set_plain X J hs (PySem.W.osa_open (s:={ s with toks:=s.toks+1 }) (r:=none) X J hp ht fun b=>?_)
 obtain ⟨cd,hc,hd'⟩:=PySem.W.any_some hh
 have hx:s.heap.get? x=some ⟨.ref C,some dx,.plain,#[]⟩:=I.obj
 refine wpAny_bind (wpAny_pure (wpAny_bind (wpAny_bind (wpAny_loadPart hx (wpAny_bind (PySem.W.Looks.here (s:={ s with toks:=s.toks+1 }) (PySem.W.looks_clsIn X hc) ?_))))))
 rw [hd']
 refine wpAny_pure (a:=some dx) (wpAny_bind (wpAny_pure (wpAny_bind ?_)))
 refine wpAny_nsSet1 (s:={ s with toks:=s.toks+1 }) I.ns fun h' hn2 hs2=>?_
 obtain ⟨oD,esD,epD,hoD,hdD,hcD⟩:=hn2.count (PySem.Within.cons name v hw)
 refine wpAny_bind (wpAny_lookBehind hoD (by rw [hdD];exact pastItsLine_dict (Nat.le_trans hcD (by rw [List.length_cons];omega))) ?_)
 exact wpAny_pure (h _ ⟨(hs2.2 _ (Ne.symm I.ne)).trans I.obj,hn2,I.ne⟩ hs2)
theorem zk4 {R:Result->Shared->Prop}{vs:List Value}{kw:List (Str×Value)}(X:K.In s.heap) (hm:PySem.W.makesIn K C=true)
  (hi:PySem.W.findIn K (.ref C) "__init__" = some (some (.ref f))) (hf:PySem.W.typeIn K (.ref f)=some (.type "function"))
  (h:codeAny (model prog w) (A.under (.builtin "type.__call__" ⟨.ref C::vs,kw⟩)) (.call (.ref f) ⟨.ref (s.heap.objs.size+1)::vs,kw⟩) (PySem.W.InitBack (s.heap.objs.size+1) R)
   { s with heap:=(s.heap.push PySem.W.emptyDict).push (PySem.W.instObj C s.heap.objs.size) }) :
  codeAny (model prog w) A (.call (.ref C) ⟨vs,kw⟩) R s:=by
 obtain ⟨hh,g,d,t,os⟩:=s
 exact PySem.W.make_core (PySem.W.makes_of X hm) (PySem.W.looks_findIn X hi) (fun self=>PySem.W.bind_fn X self hf) (.inl rfl) h
end
def putF (f:Str) (v:V):List (Str×V)->List (Str×V)
 | []=>[(f,v)]
 | (g,x)::r=>if g=f then (g,v)::r else (g,x)::putF f v r
theorem zfL (f g:Str) (v:V):∀fs:List (Str×V),(putF f v fs).lookup g=if g=f then some v else fs.lookup g
 | []=>by
  show List.lookup g [(f,v)]=_
  by_cases h:g=f
  ·have hb:(g==f)=true:=beq_iff_eq.mpr h
   simp only [List.lookup,hb,if_pos h]
  ·have hb:(g==f)=false:=beq_eq_false_iff_ne.mpr h
   simp only [List.lookup,hb,if_neg h]
 | (k,x)::r=>by
  have ih:=zfL f g v r
  rw [show putF f v ((k,x)::r)=(if k=f then (k,v)::r else (k,x)::putF f v r) from rfl]
  by_cases hk:k=f
  ·rw [if_pos hk]
   by_cases h:g=k
   ·have hb:(g==k)=true:=beq_iff_eq.mpr h
    simp only [List.lookup,hb,if_pos (h.trans hk)]
   ·have hb:(g==k)=false:=beq_eq_false_iff_ne.mpr h
    simp only [List.lookup,hb,if_neg (fun e:g=f=>h (e.trans hk.symm))]
  ·rw [if_neg hk]
   by_cases h:g=k
   ·have hb:(g==k)=true:=beq_iff_eq.mpr h
    simp only [List.lookup,hb,if_neg (fun e:g=f=>hk (h.symm.trans e))]
   ·have hb:(g==k)=false:=beq_eq_false_iff_ne.mpr h
    simp only [List.lookup,hb]
    exact ih
theorem zdq (f:Str) (v:V):∀fs:List (Str×V),f∈(putF f v fs).map (·.1)/\∀g,g∈fs.map (·.1)->g∈(putF f v fs).map (·.1)
 | []=>⟨by simp [putF],fun g h=>by simp at h⟩
 | (k,x)::r=>by
  obtain ⟨i1,i2⟩:=zdq f v r
  rw [show putF f v ((k,x)::r)=(if k=f then (k,v)::r else (k,x)::putF f v r) from rfl]
  by_cases hk:k=f
  ·rw [if_pos hk]
   subst hk
   exact ⟨by simp,fun g h=>by simpa using h⟩
  ·rw [if_neg hk]
   refine ⟨?_,fun g h=>?_⟩
   ·rw [List.map_cons]
    exact List.mem_cons_of_mem _ i1
   ·rw [List.map_cons] at h ⊢
    rcases List.mem_cons.mp h with e|e
    ·exact List.mem_cons.mpr (.inl e)
    ·exact List.mem_cons_of_mem _ (i2 g e)
theorem zfM (f:Str) (v:V):∀fs:List (Str×V),(putF f v fs).length<=fs.length+1
 | []=>by simp [putF]
 | (k,x)::r=>by
  have ih:=zfM f v r
  rw [show putF f v ((k,x)::r)=(if k=f then (k,v)::r else (k,x)::putF f v r) from rfl]
  by_cases hk:k=f
  ·rw [if_pos hk,List.length_cons,List.length_cons];omega
  ·rw [if_neg hk,List.length_cons,List.length_cons];omega
theorem RelO.some_of {v:V}{o:Option Value}(r:RelO (some v) o):∃u,o=some u/\RelV v u:=by
 cases o with
 | none=>exact (show False from r).elim
 | some u=>exact ⟨u,rfl,r⟩
theorem RelO.none_of {o:Option Value}(r:RelO none o):o=none:=by
 cases o with
 | none=>rfl
 | some u=>exact (show False from r).elim
theorem zfN {v:V}{u:Value}(r:RelV v u):PySem.W.handedIn u=true:=by
 cases v with
 | non=>cases (show u=Value.none from r);rfl
 | bl b=>cases (show u=Value.bool b from r);rfl
 | int i=>obtain ⟨t,e⟩:=(show ∃t,u=Value.int i t from r);cases e;rfl
 | str x=>obtain ⟨t,e⟩:=(show ∃t,u=Value.str x t from r);cases e;rfl
 | byt b=>obtain ⟨t,e⟩:=(show ∃t,u=Value.bytes b t from r);cases e;rfl
 | flt b=>obtain ⟨t,e⟩:=(show ∃t,u=Value.float b t from r);cases e;rfl
 | ref a=>cases (show u=Value.ref a from r);rfl
 | ty n=>cases (show u=Value.type n from r);rfl
section
variable {P:Program}{w:World}{H H':Hp}{h h':Heap}{a C dx:Addr}{fs fs':List (Str×V)}
theorem zbR (hok:HOk P w H h) (e:H a=some (.ins C dx fs)):∃mA,ObjM h a dx C mA/\(∀f,RelO (fs.lookup f) (mA f))/\PySem.Within mA (fs.map (·.1))/\fs.length<=1000/\H dx=some (.own a):=by
 obtain ⟨d,z,ne,ob,mA,n,r,q⟩:=(show ObjOk P w H h a (.ins C dx fs) from hok a _ e)
 exact ⟨mA,⟨ob,n,ne⟩,r,q,z,d⟩
end
structure Cls (K:PySem.W.Frag) (C:Addr):Prop where
 pg:PySem.W.plainGet K C Str.empty=true
 hd:PySem.W.hasDictIn K C=true
 po:PySem.W.plainOver K C=true
 sa:PySem.W.findIn K (.ref C) "__setattr__" = some (some (.builtin "object.__setattr__"))
theorem Cls.get {K:PySem.W.Frag}{C:Addr}(c:Cls K C) (f:Str):PySem.W.plainGet K C f=true:=c.pg
def NoAttr (K:PySem.W.Frag) (C:Addr) (f:Str):Prop:=PySem.W.findIn K (.ref C) f=some none
theorem NoAttr.taker {K:PySem.W.Frag}{C:Addr}{f:Str}(n:NoAttr K C f):PySem.W.takerIn K C f=some none:=by
 unfold PySem.W.takerIn
 rw [show PySem.W.findIn K (.ref C) f=some none from n]
 rfl
structure Con (K:PySem.W.Frag) (C:Addr) (f:Str) (v:V) (u:Value):Prop where
 at_:PySem.W.findIn K (.ref C) f=some (some u)
 rel:RelV v u
 get:PySem.W.specialIn K u "__get__" = some none
 cp:PySem.W.copiedNames.contains f=false
structure Meth (K:PySem.W.Frag) (C:Addr) (m:Str) (f:Addr):Prop where
 at_:PySem.W.findIn K (.ref C) m=some (some (.ref f))
 fn:PySem.W.isFn K (.ref f)=true
 kp:PySem.W.keepIn K (.ref f)=true
section
variable {X:Cx}{pins:List (Addr×Obj)}{U:St}{H:Hp}{s:Shared}{a C dx:Addr}{fs:List (Str×V)}{f:Str}{v:V}{A:Around}{E:Value->Shared->Prop}
theorem zk5 {b:Bool}{Q:Value->Shared->Prop}(I:Inv X pins U H s) (e:H a=some (.ins C dx fs)) (c:Cls X.K C) (n:NoAttr X.K C f) (l:fs.lookup f=some v)
  (h:∀u s',Inv X pins U H s'->RelV v u->Q u s'):wpAny (model X.prog X.w) A (getAttr (.ref a) f b) Q E s:=by
 obtain ⟨mA,O,r,_,_,_⟩:=zbR I.hok e
 obtain ⟨u,hu,ru⟩:=RelO.some_of (v:=v) (o:=mA f) (by rw [<-l];exact r f)
 exact zk1 I.kIn O (c.get f) c.hd n hu (zfN ru) (h u _ (I.tok _) ru)
theorem zk6 {m:Str}{g:Addr}{pl:Sem Bool}{Q:Value×List Value->Shared->Prop}(I:Inv X pins U H s) (e:H a=some (.ins C dx fs)) (c:Cls X.K C) (k:Meth X.K C m g) (l:fs.lookup m=none)
  (h:Q (.ref g,[.ref a]) s):wpAny (model X.prog X.w) A (getMethod (.ref a) m pl) Q E s:=by
 obtain ⟨mA,O,r,_,_,_⟩:=zbR I.hok e
 have hn:mA m=none:=RelO.none_of (by rw [<-l];exact r m)
 exact zk2 I.kIn O (c.get m) k.at_ k.fn hn h
theorem zk7 {y:V}{u:Value}{Q:Unit->Shared->Prop}(I:Inv X pins U H s) (e:H a=some (.ins C dx fs)) (c:Cls X.K C) (n:NoAttr X.K C f) (hl:fs.length<1000) (ry:RelV y u)
  (h:∀s',Inv X pins U (upd H a (.ins C dx (putF f y fs))) s'->Q () s'):wpAny (model X.prog X.w) A (setAttr (.ref a) f u) Q E s:=by
 obtain ⟨mA,O,r,wi,_,ho⟩:=zbR I.hok e
 have hz:(fs.map (·.1)).length<=sizeLine:=by rw [List.length_map,sizeLine_eq];omega
 refine zk3 I.kIn O c.sa c.po n.taker c.hd wi hz fun h' O' sb=>h _ ?_
 have hd:∃o,h'.get? dx=some o:=let ⟨o,_,_,e',_⟩:=O'.ns;⟨o,e'⟩
 refine I.write (x:=a) (e:=dx) (by rw [e];exact True.intro) (.inr ho) (fun b q hb z=>(sb.2 b hb).trans z) hd ?_
 refine ⟨by rw [zG O.ne];exact ho,?_,O.ne,O'.obj,_,O'.ns,fun g=>?_,fun g hg=>?_⟩
 ·have:=zfM f y fs;omega
 ·show RelO ((putF f y fs).lookup g) (if g=f then some u else mA g)
  rw [zfL]
  by_cases q:g=f
  ·rw [if_pos q,if_pos q];exact ry
  ·rw [if_neg q,if_neg q];exact r g
 ·by_cases q:g=f
  ·rw [q];exact (zdq f y fs).1
  ·refine (zdq f y fs).2 g (wi g fun z=>hg ?_)
   show (if g=f then some u else mA g)=none
   rw [if_neg q];exact z
theorem Inv.made (I:Inv X pins U H s):Inv X pins U (upd (upd H s.heap.objs.size (.own (s.heap.objs.size+1))) (s.heap.objs.size+1) (.ins C s.heap.objs.size []))
  { s with heap:=(s.heap.push PySem.W.emptyDict).push (PySem.W.instObj C s.heap.objs.size) }:=by
 have e1:(s.heap.push PySem.W.emptyDict).get? s.heap.objs.size=some PySem.W.emptyDict:=Heap.get?_push_size s.heap rfl
 have e2:((s.heap.push PySem.W.emptyDict).push (PySem.W.instObj C s.heap.objs.size)).get? (s.heap.objs.size+1)=some (PySem.W.instObj C s.heap.objs.size):=by
  have:=Heap.get?_push_size (s.heap.push PySem.W.emptyDict) (o:=PySem.W.instObj C s.heap.objs.size) rfl
  rwa [Heap.size_push] at this
 have e3:(s.heap.push PySem.W.emptyDict).Ns s.heap.objs.size (fun _=>none):=⟨PySem.W.emptyDict,#[],_,e1,rfl,(fun e he=>absurd he (by simp)),fun _=>rfl⟩
 have I1:=I.laid (a:=s.heap.objs.size) (o:=.own (s.heap.objs.size+1)) (h':=s.heap.push PySem.W.emptyDict) (t':=s.toks) (fun b u q=>Heap.get?_push_of_some _ q) (Nat.le_refl _) ⟨_,e1⟩
 refine I1.laid (a:=s.heap.objs.size+1) (o:=.ins C s.heap.objs.size []) (t':=s.toks) (fun b u q=>Heap.get?_push_of_some _ q) (Nat.le_of_eq (Heap.size_push _ _)) ?_
 have ne:s.heap.objs.size≠s.heap.objs.size+1:=Nat.ne_of_lt (Nat.lt_succ_self _)
 refine ⟨by rw [zG ne,yp],Nat.zero_le _,ne,e2,fun _=>none,(Heap.Ns1.of_empty e3).at fun o q=>Heap.get?_push_of_some _ q,fun _=>True.intro,fun y hy=>absurd rfl hy⟩
theorem zk8 {prog:Program}{w:World}{env:Env}{e:Expr}{f:Str}{pos:Pos}{s:Shared}{Q:Value->Shared->Prop}(hb:attributeBase e f env (eval e env)=eval e env)
  (h:wpAny (model prog w) A (eval e env) (fun o al=>wpAny (model prog w) A (getAttr o f true) Q E al) E s):wpAny (model prog w) A (eval (.Attribute e f pos) env) Q E s :=
 Attribute_any_ h (by rw [arm_eval_Attribute,hb])
end
def sFld (K:PySem.W.Frag) (ta tv:TE) (f:Str):TS:=fun D U H=>tv U H fun y H1=>ta U H1 fun x H2=>∃a C dx fs,x=.ref a/\H2 a=some (.ins C dx fs)/\Cls K C/\NoAttr K C f/\fs.length<1000 /\
 D.nx U (upd H2 a (.ins C dx (putF f y fs)))
section
variable {X:Cx}{o e value:Expr}{f:Str}{pos pos' tpos:Pos}{ta tv:TE}
theorem zk9 (ha:PE X o ta) (hv:PE X value tv) (hs:swapsWith value (some (.Attribute o f pos')) pos.line X.env=pure false):PS X (.Assign [.Attribute o f pos'] value pos) (sFld X.K ta tv f):=by
 intro pins s U H D I h
 refine plainObj_wpAny_Assign_Attribute (thn (hv pins s U H _ I h) fun u s1 ⟨y,H1,I1,ry,q⟩=>thn (ha pins s1 U H1 _ I1 q) fun ov s2 ⟨x,H2,I2,rx,a,C,dx,fs,ex,ea,c,n,l,q2⟩=>?_) hs
 subst ex
 obtain rfl:ov=Value.ref a:=rx
 exact zk7 I2 ea c n l ry fun s3 I3=>⟨U,_,I3,q2⟩
end
section
variable {X:Cx}{pins:List (Addr×Obj)}{U:St}{H:Hp}{s:Shared}{A:Around}{E:Value->Shared->Prop}{Q:Value->Shared->Prop}{c:Value}{b:Bool}
inductive TyOf (K:PySem.W.Frag) (H:Hp):V->Value->Prop where
 | non:TyOf K H .non (.type "NoneType")
 | bl (x:Bool):TyOf K H (.bl x) (.type "bool")
 | int (i:Int):TyOf K H (.int i) (.type "int")
 | str (x:Str):TyOf K H (.str x) (.type "str")
 | flt (x:UInt64):TyOf K H (.flt x) (.type "float")
 | lst {a:Addr} {xs:List V} (e:H a=some (.lst xs)):TyOf K H (.ref a) (.type "list")
 | frz {a:Addr} {o:Obj} {xs:List V} (e:H a=some (.frz o (.lst xs))):TyOf K H (.ref a) (.type "list")
 | tup {a:Addr} {xs:List V} (e:H a=some (.tup xs)):TyOf K H (.ref a) (.type "tuple")
 | dK {a:Addr} {kvs:List (Key×V)} (e:H a=some (.dK kvs)):TyOf K H (.ref a) (.type "dict")
 | dT {a:Addr} {kvs:List (List Key×V)} (e:H a=some (.dT kvs)):TyOf K H (.ref a) (.type "dict")
 | ins {a C dx:Addr} {fs:List (Str×V)} (e:H a=some (.ins C dx fs)) (cl:Cls K C) (ha:PySem.W.findIn K (.ref C) "__class__" = some (some (.builtin "object.__class__")))
   (hn:PySem.W.specialIn K (.builtin "object.__class__") "__get__" = some (some (.builtin "getset_descriptor.__get__"))) (htk:PySem.W.takesIn K (.builtin "object.__class__")=some true)
   (hm:PySem.W.mroIn K C (.type "object")=some true):TyOf K H (.ref a) (.ref C)
theorem zla {x:V}{u t:Value}(I:Inv X pins U H s) (rx:RelV x u) (ty:TyOf X.K H x t) (e:PySem.W.kitOne X.K t c=some b) (h:∀tk,Q (.bool b) { s with toks:=tk }) :
  wpAny (model X.prog X.w) A (call (.builtin "isinstance") [u,c]) Q E s:=by
 cases ty with
 | non=>cases (show u=Value.none from rx);exact PySem.W.kia_one PySem.W.kitx_none I.kIn True.intro e (fun z=>nomatch z) h
 | bl y=>cases (show u=Value.bool y from rx);exact PySem.W.kia_one PySem.W.kitx_bool I.kIn True.intro e (fun z=>nomatch z) h
 | int i=>obtain ⟨t,q⟩:=(show ∃t,u=Value.int i t from rx);cases q;exact PySem.W.kia_one PySem.W.kitx_int I.kIn True.intro e (fun z=>nomatch z) h
 | str y=>obtain ⟨t,q⟩:=(show ∃t,u=Value.str y t from rx);cases q;exact PySem.W.kia_one PySem.W.kitx_str I.kIn True.intro e (fun z=>nomatch z) h
 | flt y=>obtain ⟨t,q⟩:=(show ∃t,u=Value.float y t from rx);cases q;exact PySem.W.kia_one PySem.W.kitx_float I.kIn True.intro e (fun z=>nomatch z) h
 | @lst a xs ea =>
  cases (show u=Value.ref a from rx)
  obtain ⟨_,_,n,_,h1⟩:=(show ObjOk X.prog X.w H s.heap a (.lst xs) from I.hok a _ ea)
  exact PySem.W.kia_one PySem.W.kitx_list I.kIn ⟨_,h1,rfl⟩ e (fun z=>nomatch z) h
 | @frz a ob xs ea =>
  cases (show u=Value.ref a from rx)
  obtain ⟨_,_,_,n,_,h1⟩:=(show ObjOk X.prog X.w H s.heap a (.frz ob (.lst xs)) from I.hok a _ ea)
  exact PySem.W.kia_one PySem.W.kitx_list I.kIn ⟨_,h1,rfl⟩ e (fun z=>nomatch z) h
 | @tup a xs ea =>
  cases (show u=Value.ref a from rx)
  obtain ⟨_,_,_,p⟩:=(show ObjOk X.prog X.w H s.heap a (.tup xs) from I.hok a _ ea)
  obtain ⟨o,h1,h2,_⟩:=p
  exact PySem.W.kia_one PySem.W.kitx_tuple I.kIn ⟨o,h1,h2⟩ e (fun z=>nomatch z) h
 | @dK a kvs ea =>
  cases (show u=Value.ref a from rx)
  obtain ⟨_,_,vs,_,p⟩:=(show ObjOk X.prog X.w H s.heap a (.dK kvs) from I.hok a _ ea)
  obtain ⟨o,es,ep,h1,h2,_⟩:=p
  exact PySem.W.kia_one PySem.W.kitx_dict I.kIn ⟨o,h1,h2.1⟩ e (fun z=>nomatch z) h
 | @dT a kvs ea =>
  cases (show u=Value.ref a from rx)
  obtain ⟨_,_,xs,_,o,es,ep,h1,h2,_⟩:=(show ObjOk X.prog X.w H s.heap a (.dT kvs) from I.hok a _ ea)
  exact PySem.W.kia_one PySem.W.kitx_dict I.kIn ⟨o,h1,h2.1⟩ e (fun z=>nomatch z) h
 | @ins a C dx fs ea cl ha hn htk hm =>
  cases (show u=Value.ref a from rx)
  obtain ⟨mA,O,_⟩:=zbR I.hok ea
  obtain ⟨od,J,_⟩:=O.look
  exact PySem.W.kia_one (PySem.W.kitx_own (cl.get _) cl.hd ha hn htk hm) I.kIn J e (fun z=>nomatch z) h
end
structure Room (k:Nat) (A:Around):Prop where
 hd:A.handled=none
 dp:A.depth+3*k+5<recursionLimit
 un:A.units+16*k+200<cLine
theorem Room.mono {j k:Nat}{A:Around}(r:Room k A) (h:j<=k):Room j A:=⟨r.hd,by have:=r.dp;omega,by have:=r.un;omega⟩
theorem Room.deeper {k:Nat}{A:Around}(r:Room (k+1) A) (env:Env):Room k (A.deeper env) :=
 ⟨r.hd,by have:=r.dp;show A.depth+1+3*k+5<_;omega,by have:=r.un;show A.units+3+16*k+200<_;omega⟩
theorem zlb {A:Around} {C:Addr} {us:List Value} {kw:List (Str×Value)}:(A.under (.builtin "type.__call__" ⟨.ref C::us,kw⟩)).depth=A.depth+1:=by
 first|rfl|simp [Around.under,Code.weight,Code.isCreation,Code.isGuard,Code.isCaller,Code.frames,Code.isFrame,guardIds]
theorem zlc {A:Around} {C:Addr} {us:List Value} {kw:List (Str×Value)}:(A.under (.builtin "type.__call__" ⟨.ref C::us,kw⟩)).units=A.units+1:=by
 first|rfl|simp [Around.under,Code.cUnits,Code.frames,Code.isFrame]
theorem Room.make {k:Nat} {A:Around} (r:Room (k+1) A) (C:Addr) (us:List Value) (kw:List (Str×Value)):Room k (A.under (.builtin "type.__call__" ⟨.ref C::us,kw⟩)) :=
 ⟨r.hd,by have:=r.dp;rw [zlb];omega,by have:=r.un;rw [zlc];omega⟩
theorem Room.depth {k:Nat}{A:Around}(r:Room k A):A.depth<recursionLimit:=by have:=r.dp;omega
def zld:TA:=fun _ H Q=>Q [] H
def zle (ta:TE) (tr:TA):TA:=fun U H Q=>ta U H fun x H1=>tr U H1 fun xs H2=>Q (x::xs) H2
section
variable {X:Cx}{e:Expr}{es:List Expr}{te:TE}{t:TA}{pos:Pos}
theorem zbS:PA X [] zld:=fun _ _ _ _ H Q I h=>Calls.spliced_nil ⟨[],H,I,.nil,h⟩
theorem zbT (ha:PE X e te) (hr:PA X es t) (hs:starEach (e::es) X.env=(false,eval e X.env)::starEach es X.env:=by rfl):PA X (e::es) (zle te t):=by
 intro pos pins s U H Q I h
 rw [hs]
 show wpAny _ _ (spliced ((false,eval e X.env)::backTo pos (starEach es X.env))) _ _ s
 refine Calls.spliced_cons (thn (ha pins s U H _ I h) fun u s1 ⟨x,H1,I1,r1,q1⟩=>?_)
 exact thn (hr pos pins s1 U H1 _ I1 q1) fun us s2 ⟨xs,H2,I2,r2,q2⟩=>⟨x::xs,H2,I2,.cons r1 r2,q2⟩
def zlf (t:TA):TE:=fun U H Q=>t U H fun xs H1=>xs.length<=sizeLine/\∀p,H1 p=none->Q (.ref p) (upd H1 p (.tup xs))
def zlg (t:TA):TE:=fun U H Q=>t U H fun xs H1=>xs.length<=sizeLine/\∀p,H1 p=none->Q (.ref p) (upd H1 p (.lst xs))
theorem zlh {x1}(h:PA X es t):PE X (.Tuple es x1 pos) (zlf t):=by
 intro pins s U H Q I hq
 refine wpAny_Tuple_spliced (thn (h pos pins s U H _ I hq) fun us s1 ⟨xs,H1,I1,r,z,q⟩=>⟨by rw [<-r.length];exact z,?_⟩)
 have hf:H1 s1.heap.objs.size=none:=I1.hok.fresh (Nat.le_refl _)
 refine ⟨.ref s1.heap.objs.size,upd H1 s1.heap.objs.size (.tup xs),I1.laid (t':=s1.toks) (fun b u e=>Heap.get?_push_of_some _ e) (Nat.le_refl _) ?_,rfl,q _ hf⟩
 exact ⟨z,us,r,⟨_,Heap.get?_push_size _ rfl,rfl,_,rfl⟩⟩
theorem zli (h:PA X es t):PE X (.List es pos) (zlg t):=by
 intro pins s U H Q I hq
 refine wpAny_List_spliced (thn (h pos pins s U H _ I hq) fun us s1 ⟨xs,H1,I1,r,z,q⟩=>⟨by rw [<-r.length];exact z,?_⟩)
 have hf:H1 s1.heap.objs.size=none:=I1.hok.fresh (Nat.le_refl _)
 refine ⟨.ref s1.heap.objs.size,upd H1 s1.heap.objs.size (.lst xs),I1.laid (t':=s1.toks) (fun b u e=>Heap.get?_push_of_some _ e) (Nat.le_refl _) ?_,rfl,q _ hf⟩
 exact ⟨z,us,0,r,Heap.get?_push_size _ rfl⟩
end
abbrev Sp:=List V->Hp->VK->XK->Prop
abbrev CXT:=List Env->Hp->Shared->XK->Value->Shared->Prop
structure Env0 (P:Program) (w:World) (K:PySem.W.Frag) (mg:Str->Option Value) (base:Heap) (A:Around) (outer:List Env) (s:Shared) (H:Hp):Prop where
 frames:A.frames=some outer
 mod:Mod K mg base
 bs:∀b o,base.get? b=some o->s.heap.get? b=some o/\H b=none
 bsz:base.objs.size<=s.heap.objs.size
 funs:s.heap.FunFrames base outer
 frf:∀b∈frs outer,H b=none
 hok:HOk P w H s.heap
 bare:AllBare s.gens
def CE (outer:List Env) (P:Program) (w:World) (H:Hp) (s:Shared) (Q:VK) (u:Value) (s':Shared):Prop :=
 ∃v H',s'.os=s.os/\AllBare s'.gens/\Un (frs outer) [] H H' s.heap s'.heap/\HOk P w H' s'.heap/\RelV v u/\Q v H'
def CR (CX:CXT) (outer:List Env) (P:Program) (w:World) (H:Hp) (s:Shared) (Q:VK) (E:XK) (r:Result) (s':Shared):Prop :=
 match r with
 | .ok (.ret u)=>CE outer P w H s Q u s'
 | .ok _=>False
 | .error e=>CX outer H s E e s'
structure FnOk (P:Program) (w:World) (K:PySem.W.Frag) (mg:Str->Option Value) (base:Heap) (CX:CXT) (k:Nat) (f:Addr) (fd:FuncData) (ps:List Str) (sp:Sp):Prop where
 len:∀vs H Q E,sp vs H Q E->vs.length=ps.length
 run:∀(A:Around) (outer:List Env) (s:Shared) (H:Hp) (args:Args) (us:List Value) (vs:List V) (Q:VK) (E:XK),Room k A->Env0 P w K mg base A outer s H->BindsTo s fd args (ps.zip us)->Vals vs us->sp vs H Q E ->
  codeAny (model P w) A (.call (.ref f) args) (CR CX outer P w H s Q E) s
theorem FnOk.mono {P:Program}{w:World}{K:PySem.W.Frag}{mg:Str->Option Value}{base:Heap}{CX:CXT}{j k:Nat}{f:Addr}{fd:FuncData}{ps:List Str}{sp:Sp}(F:FnOk P w K mg base CX j f fd ps sp) (h:j<=k) :
  FnOk P w K mg base CX k f fd ps sp:=⟨F.len,fun A outer s H args us vs Q E hr=>F.run A outer s H args us vs Q E (hr.mono h)⟩
theorem FnOk.imp {P:Program}{w:World}{K:PySem.W.Frag}{mg:Str->Option Value}{base:Heap}{CX:CXT}{k:Nat}{f:Addr}{fd:FuncData}{ps:List Str}{sp sp':Sp}(F:FnOk P w K mg base CX k f fd ps sp)
  (h:∀vs H Q E,sp' vs H Q E->sp vs H Q E):FnOk P w K mg base CX k f fd ps sp' :=
 ⟨fun vs H Q E q=>F.len vs H Q E (h _ _ _ _ q),fun A outer s H args us vs Q E hr he hb hv hs=>F.run A outer s H args us vs Q E hr he hb hv (h _ _ _ _ hs)⟩
theorem Env0.make {P:Program}{w:World}{K:PySem.W.Frag}{mg:Str->Option Value}{base:Heap}{A:Around}{outer:List Env}{s:Shared}{H:Hp}(e:Env0 P w K mg base A outer s H) (C:Addr) (us:List Value) (kw:List (Str×Value)) :
  Env0 P w K mg base (A.under (.builtin "type.__call__" ⟨.ref C::us,kw⟩)) outer s H:=⟨by first|exact e.frames|(simpa [Around.under,Code.envs,Code.isFrame,pushEnvs] using e.frames),e.mod,e.bs,e.bsz,e.funs,e.frf,e.hok,e.bare⟩
section
variable {X:Cx}{pins:List (Addr×Obj)}{U:St}{H:Hp}{s s':Shared}
theorem Inv.env0 (I:Inv X pins U H s):Env0 X.prog X.w X.K X.mg X.base X.A X.stack s H :=
 ⟨I.ok.frames,I.ok.mod,I.bs,Nat.le_trans I.ok.bsz I.sz,I.stack,I.stkFree,I.hok,I.bare⟩
theorem Inv.after {Q:VK}{u:Value}(I:Inv X pins U H s) (h:CE X.stack X.prog X.w H s Q u s'):EP X pins U Q u s':=by
 obtain ⟨v,H',os,bare,un,hok,r,q⟩:=h
 obtain ⟨hh,g,d,t,os'⟩:=s'
 obtain rfl:os'=s.os:=os
 exact ⟨v,H',I.call (h':=hh) (g':=g) (d':=d) (t':=t) (ch:=[]) un hok bare (fun b z=>absurd z (by simp)),r,q⟩
end
def zlj (sp:Sp) (dvs:List V) (E:XK) (t:TA):TE:=fun U H Q=>t U H fun vs H1=>sp (vs++dvs) H1 Q E
def zlk (C:Addr) (sp:Sp) (dvs:List V) (E:XK) (t:TA):TE:=fun U H Q=>t U H fun vs H1=>∀x dx,H1 x=none->H1 dx=none->dx≠x ->
 sp (.ref x::(vs++dvs)) (upd (upd H1 dx (.own x)) x (.ins C dx [])) (fun v H2=>v=.non/\Q (.ref x) H2) E
def Binds (K:PySem.W.Frag) (fd:FuncData) (ps:List Str) (ds:List Value):Prop :=
 ∀(s:Shared) (us:List Value),K.In s.heap->(us++ds).length=ps.length->BindsTo s fd ⟨us,[]⟩ (ps.zip (us++ds))
theorem Binds.all {K:PySem.W.Frag}{fd:FuncData}{ps:List Str}(h:∀us:List Value,us.length=ps.length->bindArgs fd ⟨us,[]⟩=pure (ps.zip us)):Binds K fd ps []:=fun s us _ hl=>by
 rw [List.append_nil] at hl ⊢
 exact .of_eq (h us hl)
def Passes (CX:CXT) (X:Cx) (E:XK):Prop:=∀(pins:List (Addr×Obj)) (U:St) (H:Hp) (s:Shared) (e:Value) (s':Shared),Inv X pins U H s->CX X.stack H s E e s'->X.xe e s'
section
variable {X:Cx}{CX:CXT}{k:Nat}{f C:Addr}{fd:FuncData}{ps:List Str}{sp:Sp}{dvs:List V}{ds:List Value}{E:XK}{x m:Str}{p pos apos:Pos}{e o:Expr}{es:List Expr}{ta:TE}{t:TA}
theorem zfO {pins:List (Addr×Obj)}{U:St}{H:Hp}{s:Shared}{Q:VK}{us:List Value}{vs:List V}(F:FnOk X.prog X.w X.K X.mg X.base CX k f fd ps sp) (hr:Room k X.A) (hb:Binds X.K fd ps ds) (hd:Vals dvs ds) (hx:Passes CX X E)
  (I:Inv X pins U H s) (r:Vals vs us) (h:sp (vs++dvs) H Q E):wpAny (model X.prog X.w) X.A (call (.ref f) us) (EP X pins U Q) X.xe s:=by
 have r2:Vals (vs++dvs) (us++ds):=r.append hd
 have hl:(us++ds).length=ps.length:=by rw [<-r2.length];exact F.len _ _ _ _ h
 refine wpAny_call (codeAny_mono (F.run X.A X.stack s H ⟨us,[]⟩ (us++ds) (vs++dvs) Q E hr I.env0 (hb s us I.kIn hl) r2 h) fun r s' hq=>?_)
 cases r with
 | error e=>exact hx pins U H s e s' I hq
 | ok fl =>
  cases fl with
  | ret u=>exact I.after hq
  | next=>exact False.elim hq
  | brk=>exact False.elim hq
  | cont=>exact False.elim hq
theorem zll (F:FnOk X.prog X.w X.K X.mg X.base CX k f fd ps sp) (hr:Room k X.A) (hg:Gl X x) (hm:X.mg x=some (.ref f)) (hk:PySem.W.keepIn X.K (.ref f)=true) (hb:Binds X.K fd ps ds) (hd:Vals dvs ds) (hx:Passes CX X E)
  (ha:PA X (e::es) t) (hdb:(x==("__debug__" : Str))=false:=by decide) (he:starEach (e::es) X.env=(false,eval e X.env)::starEach es X.env:=by rfl) (hpl:(backTo pos (starEach es X.env)).any (·.1)=false:=by rfl) :
  PE X (.Call (.Name x p) (e::es) [] pos) (zlj sp dvs E t):=by
 intro pins s U H Q I h
 refine wpAny_Call_Name_kw (zaR I hg hm ?_ hdb)
 refine PySem.W.callWith_K (h₀:=X.base) I.ok.mod.kin hk (thn (ha pos pins s U H _ I h) fun us s1 ⟨vs,H1,I1,r,q⟩=>⟨I1.kIn,?_⟩) he hpl
 exact zfO F hr hb hd hx I1 r q
structure Mk (K:PySem.W.Frag) (C f:Addr):Prop where
 makes:PySem.W.makesIn K C=true
 init:PySem.W.findIn K (.ref C) "__init__" = some (some (.ref f))
 fn:PySem.W.isFn K (.ref f)=true
 kp:PySem.W.keepIn K (.ref C)=true
theorem zlm {pins:List (Addr×Obj)}{U:St}{H:Hp}{s:Shared}{Q:VK}{us:List Value}{vs:List V}(M:Mk X.K C f) (F:FnOk X.prog X.w X.K X.mg X.base CX k f fd ps sp) (hr:Room (k+1) X.A) (hb:Binds X.K fd ps ds) (hd:Vals dvs ds)
  (hx:Passes CX X E) (I:Inv X pins U H s) (r:Vals vs us)
  (h:∀x dx,H x=none->H dx=none->dx≠x->sp (.ref x::(vs++dvs)) (upd (upd H dx (.own x)) x (.ins C dx [])) (fun v H2=>v=.non/\Q (.ref x) H2) E) :
  wpAny (model X.prog X.w) X.A (call (.ref C) us) (EP X pins U Q) X.xe s:=by
 have hq:=h (s.heap.objs.size+1) s.heap.objs.size (I.hok.fresh (Nat.le_succ _)) (I.hok.fresh (Nat.le_refl _)) (Nat.ne_of_lt (Nat.lt_succ_self _))
 have I2:=Inv.made (C:=C) I
 have r2:Vals (V.ref (s.heap.objs.size+1)::(vs++dvs)) (Value.ref (s.heap.objs.size+1)::(us++ds)):=.cons rfl (r.append hd)
 have hl:(Value.ref (s.heap.objs.size+1)::us++ds).length=ps.length:=by
  have e:=r2.length
  rw [F.len _ _ _ _ hq] at e
  exact e.symm
 refine wpAny_call (zk4 (f:=f) I.kIn M.makes M.init (beq_iff_eq.mp M.fn) (codeAny_mono (F.run _ X.stack _ _ ⟨Value.ref (s.heap.objs.size+1)::us,[]⟩ (Value.ref (s.heap.objs.size+1)::(us++ds)) _ _ E (hr.make C us [])
  (I2.env0.make C us []) (hb _ (Value.ref (s.heap.objs.size+1)::us) I2.kIn hl) r2 hq) fun r s' hq'=>?_))
 cases r with
 | error e=>exact hx pins U _ _ e s' I2 hq'
 | ok fl =>
  cases fl with
  | ret u =>
   obtain ⟨v,H',I3,rv,ev,q3⟩:=I2.after hq'
   subst ev
   exact ⟨rv,⟨V.ref (s.heap.objs.size+1),H',I3,rfl,q3⟩⟩
  | next=>exact False.elim hq'
  | brk=>exact False.elim hq'
  | cont=>exact False.elim hq'
theorem zln (M:Mk X.K C f) (F:FnOk X.prog X.w X.K X.mg X.base CX k f fd ps sp) (hr:Room (k+1) X.A) (hg:Gl X x) (hm:X.mg x=some (.ref C)) (hb:Binds X.K fd ps ds) (hd:Vals dvs ds) (hx:Passes CX X E)
  (ha:PA X (e::es) t) (hdb:(x==("__debug__" : Str))=false:=by decide) (he:starEach (e::es) X.env=(false,eval e X.env)::starEach es X.env:=by rfl) (hpl:(backTo pos (starEach es X.env)).any (·.1)=false:=by rfl) :
  PE X (.Call (.Name x p) (e::es) [] pos) (zlk C sp dvs E t):=by
 intro pins s U H Q I h
 refine wpAny_Call_Name_kw (zaR I hg hm ?_ hdb)
 refine PySem.W.callWith_K (h₀:=X.base) I.ok.mod.kin M.kp (thn (ha pos pins s U H _ I h) fun us s1 ⟨vs,H1,I1,r,q⟩=>⟨I1.kIn,?_⟩) he hpl
 exact zlm M F hr hb hd hx I1 r q
end
section
variable {X:Cx}{CX:CXT}{k:Nat}{f C:Addr}{fd:FuncData}{ps ks:List Str}{sp:Sp}{E:XK}{x m:Str}{p pos apos kpos:Pos}{e o:Expr}{es:List Expr}{kws:List Keyword}{te ta:TE}{t tk:TA}{nm:Option Str}
structure KBinds (K:PySem.W.Frag) (fd:FuncData) (ps ks:List Str) (g:List Value->List Value->List Value) (gV:List V->List V->List V):Prop where
 to:∀(s:Shared) (us ws:List Value),K.In s.heap->(g us ws).length=ps.length->BindsTo s fd ⟨us,ks.zip ws⟩ (ps.zip (g us ws))
 rel:∀{vs:List V} {us:List Value} {zs:List V} {ws:List Value},Vals vs us->Vals zs ws->Vals (gV vs zs) (g us ws)
variable {g:List Value->List Value->List Value}{gV:List V->List V->List V}
end
structure FnScope (N P:List Str) (sc:Scope):Prop where
 kind:sc.kind=.function
 co:sc.isCoroutine=false
 gen:sc.isGenerator=false
 nd:N.Nodup
 pre:N.take P.length=P
 par:∀x∈P,sc.names.lookup x=some .local\/sc.names.lookup x=some .cell
 nofree:∀y∈sc.names,y.2 ≠ .free
theorem zfP {kindOf:Str->Option NameKind}{x:Str}:∀{binds:List (Str×Value)}{m:Str->Option Value},(∀v,(x,v)∉binds)->bindL kindOf binds m x=m x
 | [],_,_=>rfl
 | (n,v)::r,m,h=>by
  unfold bindL
  rw [zfP fun w hw=>h w (List.mem_cons_of_mem _ hw)]
  split
  ·have:x≠n:=by rintro rfl;exact h v List.mem_cons_self
   simp [this]
  ·rfl
theorem zfQ {kindOf:Str->Option NameKind}{x:Str}:∀{binds:List (Str×Value)}{m:Str->Option Value},(∀v,(x,v)∉binds)->bindC kindOf binds m x=m x
 | [],_,_=>rfl
 | (n,v)::r,m,h=>by
  unfold bindC
  rw [zfQ fun w hw=>h w (List.mem_cons_of_mem _ hw)]
  split
  ·rfl
  ·have:x≠n:=by rintro rfl;exact h v List.mem_cons_self
   simp [this]
theorem zfR {kindOf:Str->Option NameKind}{x:Str}{v:Value}:∀{P:List Str}{vs:List Value}{i:Nat}{m:Str->Option Value},P.Nodup->P[i]?=some x->vs[i]?=some v->kindOf x=some .local ->
  bindL kindOf (P.zip vs) m x=some v
 | [],_,_,_,_,h,_,_=>by simp at h
 | _::_,[],_,_,_,_,h,_=>by simp at h
 | p::P,w::vs,0,m,nd,h1,h2,hk=>by
  simp at h1 h2;subst h1;subst h2
  show bindL kindOf ((p,w)::P.zip vs) m p=_
  unfold bindL
  rw [zfP fun v hv=>(List.nodup_cons.mp nd).1 (List.of_mem_zip hv).1,if_pos hk]
  simp
 | p::P,w::vs,i+1,m,nd,h1,h2,hk=>by
  show bindL kindOf ((p,w)::P.zip vs) m x=_
  unfold bindL
  exact zfR (i:=i) (List.nodup_cons.mp nd).2 (by simpa using h1) (by simpa using h2) hk
theorem zfS {kindOf:Str->Option NameKind}{x:Str}{v:Value}:∀{P:List Str}{vs:List Value}{i:Nat}{m:Str->Option Value},P.Nodup->P[i]?=some x->vs[i]?=some v->kindOf x≠some .local ->
  bindC kindOf (P.zip vs) m x=some v
 | [],_,_,_,_,h,_,_=>by simp at h
 | _::_,[],_,_,_,_,h,_=>by simp at h
 | p::P,w::vs,0,m,nd,h1,h2,hk=>by
  simp at h1 h2;subst h1;subst h2
  show bindC kindOf ((p,w)::P.zip vs) m p=_
  unfold bindC
  rw [zfQ fun v hv=>(List.nodup_cons.mp nd).1 (List.of_mem_zip hv).1,if_neg hk]
  simp
 | p::P,w::vs,i+1,m,nd,h1,h2,hk=>by
  show bindC kindOf ((p,w)::P.zip vs) m x=_
  unfold bindC
  exact zfS (i:=i) (List.nodup_cons.mp nd).2 (by simpa using h1) (by simpa using h2) hk
def start (N:List Str) (vs:List V):St:=vs.map some++List.replicate (N.length-vs.length) none
def cxOf (CX:CXT) (P:Program) (w:World) (K:PySem.W.Frag) (mg:Str->Option Value) (base:Heap) (N:List Str) (qual:Str) (scope:Scope) (f:Addr) (cd:Value) (A:Around) (outer:List Env) (s:Shared) (H:Hp) (E:XK):Cx where
 prog:=P
 w:=w
 K:=K
 mg:=mg
 base:=base
 A:=A.deeper (envOfC qual scope s.heap.objs.size f cd)
 N:=N
 s₀:=s
 H₀:=H
 env:=envOfC qual scope s.heap.objs.size f cd
 outer:=outer
 stack:=envOfC qual scope s.heap.objs.size f cd::outer
 ex:=[]
 calm:=true
 fn:=fun _=>true
 pn:=[]
 xe:=fun e s'=>wpAny (model P w) (A.deeper (envOfC qual scope s.heap.objs.size f cd)) (leaving (envOfC qual scope s.heap.objs.size f cd) e) (fun _ s''=>CX outer H s E e s'') (fun e' s''=>CX outer H s E e' s'') s'
theorem zfT {sc:Scope}{n:Nat}{x:Str}(h:sc.names.lookup x=some .cell):∃c,(cellsFrom n sc.names []).lookup x=some c:=by
 have q:=PySem.W.cellsFrom_some sc.names n [] (.inl h)
 exact Option.isSome_iff_exists.mp q
theorem zlo {CX:CXT}{P:Program}{w:World}{K:PySem.W.Frag}{mg:Str->Option Value}{base:Heap}{N ps:List Str}{qual:Str}{scope:Scope}{f:Addr}{cd:Value}{A:Around}{outer:List Env}{s s1:Shared}{H:Hp}{E:XK}{us:List Value}{vs:List V}
  (S:FnScope N ps scope) (hd:A.handled=none) (e0:Env0 P w K mg base A outer s H) (hl:vs.length=ps.length) (r:Vals vs us)
  (x:InCallC s s.heap.objs.size (bindL (envOfC qual scope s.heap.objs.size f cd).kindOf (ps.zip us) fun _=>none) (cellsFrom (s.heap.objs.size+1) scope.names []) (bindC (envOfC qual scope s.heap.objs.size f cd).kindOf (ps.zip us) fun _=>none) s1) :
  Inv (cxOf CX P w K mg base N qual scope f cd A outer s H E) [] (start N vs) H s1:=by
 have hpl:ps.length<=N.length:=by have:=congrArg List.length S.pre;rw [List.length_take] at this;omega
 obtain ⟨h1,tk,rfl,hk⟩:=x.done
 have noA:∀b:Addr,b∉(cxOf CX P w K mg base N qual scope f cd A outer s H E).ex:=fun b z=>absurd (show b∈([]:List Addr) from z) (by simp)
 refine ⟨⟨e0.mod,S.kind,rfl,rfl,Nat.le_refl _,fun y z c h1 h2=>?_,fun y hy=>?_,fun y c _ h=>?_,fun _=>hd,Around.frames_deeper e0.frames,.inr ⟨rfl,rfl⟩,fun b z=>absurd z (noA b),e0.bs,e0.bsz,fun b _ _=>noA b,fun b z=>absurd z (noA b),e0.funs,e0.frf⟩,
  rfl,e0.bare,Un.kept hk,⟨_,x.toInCall.ns,fun i y v h1 h2 h3=>?_⟩,fun y c h=>⟨_,x.cell y c h⟩,e0.hok.fresh (Nat.le_refl _),fun y c h=>?_,fun p hp=>absurd (show p∈([]:List (Addr×Obj)) from hp) (by simp),e0.hok.kept hk,?_⟩
 ·exact name_of_addr x.apart (PySem.mem_of_lookup h1) (PySem.mem_of_lookup h2)
 ·have hy:scope.names.lookup y=some .cell\/scope.names.lookup y=some .free:=hy
  rcases hy with hy|hy
  ·exact zfT hy
  ·exact absurd rfl (S.nofree _ (PySem.mem_of_lookup hy))
 ·exact Nat.le_of_lt (x.above y c (PySem.mem_of_lookup h))
 ·have hi:i<vs.length:=by
   unfold start at h2
   by_cases hi:i<vs.length
   ·exact hi
   ·rw [List.getElem?_append_right (by simpa using hi)] at h2
    rw [List.getElem?_replicate] at h2
    split at h2<;>cases h2
  have ha:vs[i]?=some v:=by
   unfold start at h2
   rw [List.getElem?_append_left (by simpa using hi),List.getElem?_map] at h2
   cases e:vs[i]? with
   | none=>rw [e] at h2;cases h2
   | some a=>rw [e] at h2;cases h2;rfl
  obtain ⟨u,hu,rv⟩:=r.get ha
  have hp:ps[i]?=some y:=by
   rw [<-S.pre,List.getElem?_take_of_lt (by omega)];exact h1
  have ndP:ps.Nodup:=by rw [<-S.pre];exact S.nd.sublist (List.take_sublist _ _)
  refine ⟨u,rv,?_⟩
  rcases S.par y (List.mem_of_getElem? hp) with k|k
  ·exact .inl ⟨k,zfR ndP hp hu k⟩
  ·obtain ⟨c,e⟩:=zfT (n:=s.heap.objs.size+1) k
   refine .inr ⟨.inl k,c,e,?_⟩
   have q:=x.cell y c e
   rw [zfS ndP hp hu (by show scope.names.lookup y≠_;rw [k];decide)] at q
   exact q
 ·exact e0.hok.fresh (Nat.le_of_lt (x.above y c (PySem.mem_of_lookup h)))
 ·unfold start
  show _=N.length
  rw [List.length_append,List.length_map,List.length_replicate]
  omega
theorem zfU {CX:CXT}{P:Program}{w:World}{K:PySem.W.Frag}{mg:Str->Option Value}{base:Heap}{k:Nat}{f:Addr}{name qual:Str}{params:Arguments}{body:List Stmt}{scope:Scope}{dV kV doc pm cdv ct oc:Value}{an od:Option Addr}
  {osl:Array (Option Value)} {N ps:List Str} {sp:Sp} (lk:K.lookup f=some ⟨oc,od,.func (PySem.W.fnOf name qual params body scope dV kV doc pm an cdv ct),osl⟩) (hcd:PySem.W.codeIn K cdv qual=true) (S:FnScope N ps scope)
  (len:∀vs H Q E,sp vs H Q E->vs.length=ps.length)
  (hbody:∀(A:Around) (outer:List Env) (s:Shared) (H:Hp) (vs:List V) (Q:VK) (E:XK),Room k (A.deeper (envOfC qual scope s.heap.objs.size f cdv))->sp vs H Q E ->
   ∃t,PSs (cxOf CX P w K mg base N qual scope f cdv A outer s H E) body t/\t { nx:=fun _ H'=>Q .non H',rt:=Q } (start N vs) H) :
  FnOk P w K mg base CX (k+1) f (PySem.W.fnOf name qual params body scope dV kV doc pm an cdv ct) ps sp:=by
 refine ⟨len,fun A outer s H args us vs Q E hr e0 hb r hsp=>?_⟩
 have hl:=len _ _ _ _ hsp
 have KX:K.In s.heap:=e0.mod.kin.keeps fun b o e=>(e0.bs b o e).1
 have lim:s.heap.NoLimit:=e0.mod.nolimit.keeps fun b o e=>(e0.bs b o e).1
 have hkind:∀y∈ps.zip us,scope.names.lookup y.1=some .local\/(scope.names.lookup y.1=some .cell/\((cellsFrom (s.heap.objs.size+1) scope.names []).lookup y.1).isSome=true):=fun ⟨n,v⟩ hy=>by
  rcases S.par n (List.of_mem_zip hy).1 with q|q
  ·exact .inl q
  ·exact .inr ⟨q,PySem.W.cellsFrom_some _ _ _ (.inl q)⟩
 refine codeAny_call_function hr.depth (KX _ _ lk) rfl S.co S.gen rfl (PySem.W.codeRec_of KX hcd) (hb _ _ _ _ ?_)
 refine wpAny_newFunctionEnv_cells S.kind hkind fun env he s1 x=>?_
 subst he
 refine ⟨lim.keeps x.toInCall.keep,codeAny_func ?_⟩
 obtain ⟨t,ht,hq⟩:=hbody A outer s H vs Q E (hr.deeper _) hsp
 have I:Inv (cxOf CX P w K mg base N qual scope f cdv A outer s H E) [] (start N vs) H s1:=zlo S hr.hd e0 hl r x
 refine wpAny_mono (ht [] s1 (start N vs) H _ I hq) (fun fl s' hs=>?_) fun e s' hs=>hs
 have fin:∀{ai:St} {H':Hp} {v:V} {u:Value},Inv (cxOf CX P w K mg base N qual scope f cdv A outer s H E) [] ai H' s'->RelV v u->Q v H'->CE outer P w H s Q u s' :=
  fun {ai H' v u} J rv q=>⟨v,H',J.os,J.bare,J.base,J.hok,rv,q⟩
 cases fl with
 | ret u =>
  obtain ⟨v,ai,H',J,rv,q⟩:=hs
  exact fin J rv q
 | next =>
  obtain ⟨ai,H',J,q⟩:=hs
  exact fin (v:=V.non) (u:=Value.none) J rfl q
 | brk =>
  obtain ⟨_,_,_,q⟩:=hs
  exact False.elim q
 | cont =>
  obtain ⟨_,_,_,q⟩:=hs
  exact False.elim q
section
variable {X:Cx}{x:Str}{p pos:Pos}{e:Expr}{es:List Expr}{t:TA}{id T:String}{r:List V->Hp->VK->Prop}
def tCB (r:List V->Hp->VK->Prop) (t:TA):TE:=fun U H Q=>t U H fun vs H1=>r vs H1 Q
theorem zlp (hc:CallR X (.builtin id) r) (hg:Gl X x) (hm:X.mg x=none) (hv:bootBuiltins x=some (.builtin id)) (ha:PA X (e::es) t) (hn:x ≠ "__name__" := by decide) (hdb:(x==("__debug__" : Str))=false:=by decide)
  (he:starEach (e::es) X.env=(false,eval e X.env)::starEach es X.env:=by rfl) (hpl:(backTo pos (starEach es X.env)).any (·.1)=false:=by rfl):PE X (.Call (.Name x p) (e::es) [] pos) (tCB r t):=by
 intro pins s U H Q I h
 refine wpAny_Call_Name_kw (zak I hg hm hv ?_ hn hdb)
 exact PyProof.Rows.callWith_builtin1 (thn (ha pos pins s U H _ I h) fun us s1 ⟨vs,H1,I1,r1,q1⟩=>hc pins s1 U H1 vs us Q I1 r1 q1) he hpl
theorem zlq (hc:CallR X (.type T) r) (hg:Gl X x) (hm:X.mg x=none) (hv:bootBuiltins x=some (.type T)) (ha:PA X (e::es) t) (hn:x ≠ "__name__" := by decide) (hdb:(x==("__debug__" : Str))=false:=by decide)
  (he:starEach (e::es) X.env=(false,eval e X.env)::starEach es X.env:=by rfl) (hpl:(backTo pos (starEach es X.env)).any (·.1)=false:=by rfl):PE X (.Call (.Name x p) (e::es) [] pos) (tCB r t):=by
 intro pins s U H Q I h
 refine wpAny_Call_Name_kw (zak I hg hm hv ?_ hn hdb)
 exact PyProof.Rows.callWith_type1 (thn (ha pos pins s U H _ I h) fun us s1 ⟨vs,H1,I1,r1,q1⟩=>hc pins s1 U H1 vs us Q I1 r1 q1) he hpl
end
end L2
namespace HT
open PySem PyProof.Rows
section
open PySem.SeqAt
open PySem.AutoSeq1 (wpAny_loadPart')
open PySem.MeetsSeq PySem.MeetsSeq2 PySem.MeetsSeq3
end
section
variable {prog:Program}{w:World}{A:Around}{E:Value->Shared->Prop}{s:Shared}
theorem cat_tup {t b:Addr}{vs ws:List Value}{Q:Value->Shared->Prop}(ht:IsTup s.heap t vs.toArray) (hb:IsTup s.heap b ws.toArray) (hv:vs≠[])
  (h1:ws=[]->Q (.ref t) s) (h2:ws≠[]->Q (.ref s.heap.objs.size) { s with heap:=s.heap.push { cls:=.type "tuple", data:=.seq (vs++ws).toArray } })
  (hsz:vs.length+ws.length<=sizeLine):wpAny (model prog w) A (binaryOp .Add (.ref t) (.ref b)) Q E s:=by
 obtain ⟨⟨cls,dd,data,sl⟩,ho,hc,n,hd⟩:=id ht
 obtain ⟨⟨cls2,dd2,data2,sl2⟩,ho2,hc2,n2,hd2⟩:=id hb
 simp only at hc hd hc2 hd2
 subst hc hd hc2 hd2
 have e:vs.toArray++ws.toArray=(vs++ws).toArray:=by simp
 by_cases hw:ws=[]
 ·exact concat_meets ⟨_,ho,rfl⟩ ⟨_,ho2,rfl⟩ noFill_tuple_add seq_tuple_add PySem.F.slot_tuple_add PySem.F.entry_tuple_add (PySem.F.args_tuple_add_2 _ _)
   (tuple_addW1 t b vs.toArray ws.toArray n n2 dd dd2 sl sl2 (by simpa using hv) (by simp [hw])) ⟨ho,ho2,h1 hw⟩
 ·refine concat_meets ⟨_,ho,rfl⟩ ⟨_,ho2,rfl⟩ noFill_tuple_add seq_tuple_add PySem.F.slot_tuple_add PySem.F.entry_tuple_add (PySem.F.args_tuple_add_2 _ _)
   (tuple_addW2 t b vs.toArray ws.toArray n n2 dd dd2 sl sl2 (by simpa using hv) (by simpa using hw) (by rw [List.size_toArray,List.size_toArray];exact hsz)) ⟨ho,ho2,?_⟩
  rw [e]
  exact h2 hw
def sIx (n d:Nat):Option Int->Nat
 | none=>d
 | some v=>if v<0 then (v+(n:Int)).toNat else min v.toNat n
theorem zlr (n d:Nat) (hd:d<=n) (o:Option Int):sIx n d o<=n:=by
 cases o with
 | none=>exact hd
 | some v =>
  show (if v<0 then (v+(n:Int)).toNat else min v.toNat n)<=n
  by_cases hv:v<0
  ·rw [if_pos hv];omega
  ·rw [if_neg hv];exact Nat.min_le_right _ _
theorem zfW (v:Int) (n d:Nat):(if v<0 then max (v+(n:Int)) 0 else min v (n:Int))=((sIx n d (some v):Nat):Int):=by
 show (if v<0 then max (v+(n:Int)) 0 else min v (n:Int))=(((if v<0 then (v+(n:Int)).toNat else min v.toNat n):Nat):Int)
 by_cases hv:v<0
 ·simp only [if_pos hv];omega
 ·simp only [if_neg hv];omega
theorem zls (lo hi:Option Int) (n:Nat):Builtin.Slice.sliceAdjust lo hi 1 (n:Int)=(((sIx n 0 lo:Nat):Int),((sIx n n hi:Nat):Int)):=by
 have h1:¬((1:Int)<0):=by omega
 unfold Builtin.Slice.sliceAdjust
 simp only [h1,if_false]
 refine Prod.ext ?_ ?_
 ·cases lo with
  | none=>rfl
  | some v=>exact zfW v n 0
 ·cases hi with
  | none=>rfl
  | some v=>exact zfW v n n
theorem zlt (i j:Nat):Builtin.Slice.slicePlaces (i:Int) (j:Int) 1=j-i:=by
 unfold Builtin.Slice.slicePlaces
 have h1:(1:Int)>0:=by omega
 simp only [h1,if_true,Int.ediv_one]
 split<;>omega
theorem zfX {v:Value}{o:Option Int}{Q:Option Int->Shared->Prop}(p:IsPart v o) (h:Q o s):wpAny (model prog w) A (Builtin.Slice.slicePartIndex v) Q E s:=by
 cases p with
 | none=>exact slicePart_none h
 | int i t=>exact slicePart_int h
theorem zfY {sl:Addr}{vl vu:Value}{lo hi:Option Int}{n:Nat}{Q:Int×Int×Nat->Shared->Prop}(hs:s.heap.IsSliceOf sl vl vu .none) (pl:IsPart vl lo) (pu:IsPart vu hi)
  (h:Q (((sIx n 0 lo:Nat):Int),1,sIx n n hi-sIx n 0 lo) s):wpAny (model prog w) A (Builtin.Slice.sliceApplied (.ref sl) (pure (n:Int))) Q E s:=by
 obtain ⟨os,hos,hcs,hds⟩:=id hs
 unfold Builtin.Slice.sliceApplied Builtin.Slice.sliceFields
 refine wpAny_bind (wpAny_bind (wpAny_field hos hds (x:=vl) rfl (wpAny_bind (wpAny_field hos hds (x:=vu) rfl (wpAny_bind (wpAny_field hos hds (x:=.none) rfl (wpAny_pure ?_)))))))
 refine wpAny_bind (slicePart_none ?_)
 show wpAny _ _ (if ((1:Int)==0)=true then _ else _) _ _ s
 rw [if_neg (by decide)]
 refine wpAny_bind (zfX pl (wpAny_bind (zfX pu (wpAny_bind (wpAny_pure ?_)))))
 show wpAny _ _ (match Builtin.Slice.sliceAdjust lo hi 1 (n:Int) with|(lo,hi)=>pure (lo,(1:Int),Builtin.Slice.slicePlaces lo hi 1)) _ _ s
 rw [zls lo hi n]
 show wpAny _ _ (pure (((sIx n 0 lo:Nat):Int),(1:Int),Builtin.Slice.slicePlaces ((sIx n 0 lo:Nat):Int) ((sIx n n hi:Nat):Int) 1)) _ _ s
 rw [zlt]
 exact wpAny_pure h
theorem zlu (xs:Array Value) (i k:Nat):((List.range k).filterMap fun (m:Nat)=>xs[((i:Int)+(m:Int)*1).toNat]?).toArray=((xs.toList.drop i).take k).toArray:=by
 have e:(fun (m:Nat)=>xs[((i:Int)+(m:Int)*1).toNat]?)=fun m=>xs[i+m]?:=by
  funext m
  have:((i:Int)+(m:Int)*1).toNat=i+m:=by omega
  rw [this]
 rw [e]
 have:=pick_run xs i k
 rw [List.filterMap_map] at this
 have e2:((fun x=>xs[x]?)∘fun x=>i+x)=fun m=>xs[i+m]?:=rfl
 rw [e2] at this
 rw [this]
theorem getItem_tuple_cut {t sl:Addr}{items:Array Value}{vl vu:Value}{lo hi:Option Int}{Q:Value->Shared->Prop}(ht:IsTup s.heap t items) (hs:s.heap.IsSliceOf sl vl vu .none) (pl:IsPart vl lo) (pu:IsPart vu hi)
  (hw:¬(sIx items.size 0 lo=0/\sIx items.size items.size hi=items.size))
  (h:Q (.ref s.heap.objs.size) { s with heap:=s.heap.push { cls:=.type "tuple", data:=.seq ((items.toList.drop (sIx items.size 0 lo)).take (sIx items.size items.size hi-sIx items.size 0 lo)).toArray } })
  (hsz:items.size<=sizeLine):wpAny (model prog w) A (getItem (.ref t) (.ref sl)) Q E s:=by
 have htake:sizeOk (.seq ((items.toList.drop (sIx items.size 0 lo)).take (sIx items.size items.size hi-sIx items.size 0 lo)).toArray):=by
  show ((items.toList.drop (sIx items.size 0 lo)).take (sIx items.size items.size hi-sIx items.size 0 lo)).toArray.size<=sizeLine
  rw [List.size_toArray,List.length_take,List.length_drop,Array.length_toList]
  omega
 have hj:sIx items.size items.size hi<=items.size:=zlr _ _ (Nat.le_refl _) hi
 obtain ⟨os,hos,hcs,hds⟩:=id hs
 have hTs:s.TypeIs (.ref sl) "slice" := ⟨os,hos,hcs⟩
 unfold getItem
 try with_reducible refine wpAny_holding ?_
 first|refine wpAny_bind (wpAny_pure ?_)|skip
 refine wpAny_bind (wpAny_sequenceKey ht.typeIs (by decide) ?_)
 refine wpAny_bind (wpAny_callSpecial?_slot (name:=Str.ofString "__getitem__") ht.typeIs PyProof.Rows.slot_tuple_getitem
  (wpAny_call_entry PyProof.Rows.slot_tuple_getitem ht.typeIs entry_tuple_getitem ?_ (args_tuple_getitem _ _)))
 show wpAny _ _ (Builtin.Tuple.tupleItemsOf (.ref t) >>= _) _ _ s
 refine wpAny_bind (tupleItemsOf_ ht ?_)
 refine wpAny_bind (wpAny_typeOf hTs ?_)
 rw [if_pos (by decide)]
 refine wpAny_bind (zfY hs pl pu ?_)
 have hno:¬((((sIx items.size 0 lo:Nat):Int)==0&&(1:Int)==1&&(sIx items.size items.size hi-sIx items.size 0 lo)==items.size)=true):=by
  intro q
  rw [Bool.and_eq_true,Bool.and_eq_true] at q
  have q1:((sIx items.size 0 lo:Nat):Int)=0:=eq_of_beq q.1.1
  have q2:sIx items.size items.size hi-sIx items.size 0 lo=items.size:=eq_of_beq q.2
  exact hw ⟨by omega,by omega⟩
 show wpAny _ _ (if (((sIx items.size 0 lo:Nat):Int)==0&&(1:Int)==1&&(sIx items.size items.size hi-sIx items.size 0 lo)==items.size)=true then _ else _) _ _ s
 rw [if_neg hno,zlu]
 first
  | exact wpAny_bind (m:=Builtin.Tuple.tupleExact _) (wpAny_newObj_type (wpAny_pure ⟨_,rfl,wpAny_pure h⟩) htake)
  | exact wpAny_bind (m:=Builtin.Tuple.tupleExact _) (wpAny_newObj_type (wpAny_bind (wpAny_pure (wpAny_pure ⟨_,rfl,wpAny_pure h⟩))) htake)
  | exact wpAny_bind (wpAny_bind (m:=Builtin.Tuple.tupleExact _) (wpAny_newObj_type (wpAny_pure (wpAny_pure ⟨_,rfl,wpAny_pure h⟩)) htake))
  | exact wpAny_bind (wpAny_bind (m:=Builtin.Tuple.tupleExact _) (wpAny_newObj_type (wpAny_pure ⟨_,rfl,wpAny_pure h⟩) htake))
end
end HT
namespace L2
open PySem PySem.Spec PyProof.Rows
abbrev TO:=St->Hp->(Option Int->Hp->Prop)->Prop
def PO (X:Cx) (e:Option Expr) (t:TO):Prop :=
 ∀(pins:List (Addr×Obj)) (s:Shared) (U:St) (H:Hp) (Q:Option Int->Hp->Prop),Inv X pins U H s->t U H Q ->
  wpAny (model X.prog X.w) X.A (evalPart e X.env) (fun u s'=>∃o H',Inv X pins U H' s'/\IsPart u o/\Q o H') X.xe s
def zlv:TO:=fun _ H Q=>Q none H
def zlw (t:TE):TO:=fun U H Q=>t U H fun x H1=>∃i,x=.int i/\Q (some i) H1
section
variable {X:Cx}{e:Expr}{te:TE}{lo hi:Option Expr}{tl th:TO}{pos p2:Pos}
theorem zlx:PO X none zlv:=by
 intro pins s U H Q I h
 rw [evalPart_none]
 exact wpAny_pure ⟨none,H,I,.none,h⟩
theorem zly (h:PE X e te):PO X (some e) (zlw te):=by
 intro pins s U H Q I hw
 rw [evalPart_some]
 refine thn (h pins s U H _ I hw) fun u s1 ⟨x,H1,I1,r1,q1⟩=>?_
 obtain ⟨i,rfl,q⟩:=q1
 obtain ⟨t,rfl⟩:=r1
 exact ⟨some i,H1,I1,.int i t,q⟩
def SlR (X:Cx) (r:V->Option Int->Option Int->Hp->VK->Prop):Prop :=
 ∀(pins:List (Addr×Obj)) (s:Shared) (U:St) (H:Hp) (x:V) (v vl vu:Value) (lo hi:Option Int) (sl:Addr) (Q:VK),Inv X pins U H s->RelV x v->s.heap.IsSliceOf sl vl vu .none->IsPart vl lo->IsPart vu hi->r x lo hi H Q ->
  ∃T id,typeLookup (.type T) "__getitem__" = pure (some (.builtin id))/\s.TypeIs v T/\wpAny (model X.prog X.w) X.A (getItem v (.ref sl)) (EP X pins U Q) X.xe s
theorem SlR.or {r r':V->Option Int->Option Int->Hp->VK->Prop}(h:SlR X r) (h':SlR X r'):SlR X (fun x lo hi H Q=>r x lo hi H Q\/r' x lo hi H Q):=by
 intro pins s U H x v vl vu lo hi sl Q I rx hs pl pu q
 rcases q with q|q
 ·exact h pins s U H x v vl vu lo hi sl Q I rx hs pl pu q
 ·exact h' pins s U H x v vl vu lo hi sl Q I rx hs pl pu q
def tSl (r:V->Option Int->Option Int->Hp->VK->Prop) (te:TE) (tl th:TO):TE:=fun U H Q=>te U H fun x H1=>tl U H1 fun l H2=>th U H2 fun u H3=>r x l u H3 Q
theorem zlA {r:V->Option Int->Option Int->Hp->VK->Prop}(hr:SlR X r) (he:PE X e te) (hl:PO X lo tl) (hu:PO X hi th):PE X (.Subscript e (.Slice lo hi none p2) pos) (tSl r te tl th):=by
 intro pins s U H Q I h
 refine Subscript_ (thn (he pins s U H _ I h) fun v s1 ⟨x,H1,I1,r1,q1⟩=>?_)
 refine wpAny_Slice (thn (hl pins s1 U H1 _ I1 q1) fun vl s2 ⟨l,H2,I2,pl,q2⟩=>thn (hu pins s2 U H2 _ I2 q2) fun vu s3 ⟨u,H3,I3,pu,q3⟩=>?_)
 rw [evalPart_none]
 refine wpAny_pure ?_
 have I4:Inv X pins U H3 { s3 with heap:=s3.heap.push { cls:=.type "slice", data:=.fields #[vl,vu,.none] } }:=I3.kept (t':=s3.toks) fun b ob q=>Heap.get?_push_of_some _ q
 obtain ⟨T,id,hT,ht,hg⟩:=hr pins { s3 with heap:=s3.heap.push { cls:=.type "slice", data:=.fields #[vl,vu,.none] } } U H3 x v vl vu l u s3.heap.objs.size Q I4 r1 (Heap.IsSliceOf.new ..) pl pu q3
 show wpAny (model X.prog X.w) X.A (subscriptTail e (.Slice lo hi none p2) v (.ref s3.heap.objs.size)) (EP X pins U Q) X.xe { s3 with heap:=s3.heap.push { cls:=.type "slice", data:=.fields #[vl,vu,.none] } }
 exact tail_any (ops:=[.ref s3.heap.objs.size,v]) ht hT hg (by with_unfolding_all rfl)
def cutV (xs:List V) (lo hi:Option Int):List V:=(xs.drop (HT.sIx xs.length 0 lo)).take (HT.sIx xs.length xs.length hi-HT.sIx xs.length 0 lo)
theorem zfZ (xs:List V) (lo hi:Option Int):(cutV xs lo hi).length<=xs.length:=by
 unfold cutV
 rw [List.length_take,List.length_drop]
 omega
def zlB (K:PySem.W.Frag):V->Option Int->Option Int->Hp->VK->Prop:=fun x lo hi H Q=>∃a xs,x=.ref a/\SqT K H a xs /\
 ¬(HT.sIx xs.length 0 lo=0/\HT.sIx xs.length xs.length hi=xs.length)/\∀p,H p=none->Q (.ref p) (upd H p (.tup (cutV xs lo hi)))
theorem zlC:SlR X (zlB X.K):=by
 intro pins s U H x v vl vu lo hi sl Q I rx hs pl pu h
 obtain ⟨a,xs,rfl,hx,hw,q⟩:=h
 cases rx
 obtain ⟨its,r,ht,hz⟩:=I.tuple hx
 have hlen:its.toArray.size=xs.length:=by rw [List.size_toArray];exact r.length.symm
 refine ⟨"tuple", _,PyProof.Rows.slot_tuple_getitem.lookup,ht.typeIs,?_⟩
 refine HT.getItem_tuple_cut ht hs pl pu (by rw [hlen];exact hw) ?_ (by rw [hlen];exact hz)
 rw [hlen]
 refine ⟨.ref s.heap.objs.size,_,I.laid (t':=s.toks) (o:=.tup (cutV xs lo hi)) (fun b ob q=>Heap.get?_push_of_some _ q) (Nat.le_refl _) ?_,rfl,q _ (I.hok.fresh (Nat.le_refl _))⟩
 exact ⟨Nat.le_trans (zfZ xs lo hi) hz,_,(r.drop (HT.sIx xs.length 0 lo)).take (HT.sIx xs.length xs.length hi-HT.sIx xs.length 0 lo),IsTup.new _ _⟩
def zlD (K:PySem.W.Frag):R2:=fun x y H Q=>∃a b xs ys,x=.ref a/\y=.ref b/\SqT K H a xs/\SqT K H b ys/\xs≠[]/\xs.length+ys.length<=sizeLine /\
 (ys=[]->Q (.ref a) H)/\(ys≠[]->∀p,H p=none->Q (.ref p) (upd H p (.tup (xs++ys))))
theorem Vals.nil_iff {xs:List V}{us:List Value}(r:Vals xs us):us=[]↔xs=[]:=by
 cases r with
 | nil=>simp
 | cons _ _=>simp
theorem zlE:OpR X (binaryOp .Add) (zlD X.K):=by
 intro pins s U H x y v u Q I rx ry h
 obtain ⟨a,b,xs,ys,rfl,rfl,ha,hb,hx,hz,q1,q2⟩:=h
 cases rx
 cases ry
 obtain ⟨its,r1,p1,_⟩:=I.tuple ha
 obtain ⟨its2,r2,p2,_⟩:=I.tuple hb
 refine HT.cat_tup p1 p2 (fun z=>hx (r1.nil_iff.mp z)) (fun z=>⟨.ref a,H,I,rfl,q1 (r2.nil_iff.mp z)⟩) (fun z=>?_) (by rw [<-r1.length,<-r2.length];exact hz)
 refine ⟨.ref s.heap.objs.size,_,I.laid (t':=s.toks) (o:=.tup (xs++ys)) (fun b ob q=>Heap.get?_push_of_some _ q) (Nat.le_refl _) ?_,rfl,q2 (fun w=>z (r2.nil_iff.mpr w)) _ (I.hok.fresh (Nat.le_refl _))⟩
 exact ⟨by rw [List.length_append];exact hz,_,r1.append r2,IsTup.new _ _⟩
end
def ixN (n:Nat) (i:Int):Option Nat:=if 0<=i then (if i<n then some i.toNat else none) else if -(n:Int)<=i then some (i+n).toNat else none
def atI {α:Type}(xs:List α) (i:Int):Option α:=(ixN xs.length i).bind fun j=>xs[j]?
theorem zlF {n:Nat}{i:Int}{j:Nat}(h:ixN n i=some j):seqIndex? i n=some j/\j<n /\ -(n:Int)<=i/\i<n:=by
 unfold ixN at h
 by_cases h0:0<=i
 ·rw [if_pos h0] at h
  by_cases h1:i<n
  ·rw [if_pos h1] at h
   have e:i.toNat=j:=Option.some.inj h
   exact ⟨by rw [seqIndex_of h0 h1,e],by omega,by omega,h1⟩
  ·rw [if_neg h1] at h;cases h
 ·rw [if_neg h0] at h
  by_cases h1 : -(n:Int)<=i
  ·rw [if_pos h1] at h
   have e:(i+n).toNat=j:=Option.some.inj h
   exact ⟨by rw [seqIndex_neg (by omega) h1,e],by omega,h1,by omega⟩
  ·rw [if_neg h1] at h;cases h
theorem atI_get {α:Type}{xs:List α}{i:Int}{v:α}(h:atI xs i=some v):∃j,seqIndex? i xs.length=some j/\xs[j]?=some v/\j<xs.length /\ -(xs.length:Int)<=i/\i<xs.length:=by
 unfold atI at h
 cases e:ixN xs.length i with
 | none=>rw [e] at h;cases h
 | some j =>
  rw [e] at h
  obtain ⟨h1,h2,h3,h4⟩:=zlF e
  exact ⟨j,h1,h,h2,h3,h4⟩
def PlainIx (b:Expr):Prop:=∀o i,subscripted b false o i=operate [o,i] (getItem o i)
def IxR (X:Cx) (r:R2):Prop :=
 ∀(value slice:Expr) (pins:List (Addr×Obj)) (s:Shared) (U:St) (H:Hp) (x y:V) (v u:Value) (Q:VK),Inv X pins U H s->RelV x v->RelV y u->r x y H Q ->
  subscripted slice false v u=operate [v,u] (getItem v u)->wpAny (model X.prog X.w) X.A (subscriptTail value slice v u) (EP X pins U Q) X.xe s
def MtR (X:Cx) (id:String) (r:V->List V->Hp->VK->Prop):Prop :=
 ∀(pins:List (Addr×Obj)) (s:Shared) (U:St) (H:Hp) (x:V) (xs:List V) (v:Value) (us:List Value) (Q:VK),Inv X pins U H s->RelV x v->Vals xs us->r x xs H Q ->
  wpAny (model X.prog X.w) X.A (call (.builtin id) (v::us)) (EP X pins U Q) X.xe s
section
variable {X:Cx}{a b:Expr}{ta tb:TE}{pos:Pos}
theorem IxR.or {r r':R2}(h:IxR X r) (h':IxR X r'):IxR X (fun x y H Q=>r x y H Q\/r' x y H Q):=by
 intro value slice pins s U H x y v u Q I rx ry q hs
 rcases q with q|q
 ·exact h value slice pins s U H x y v u Q I rx ry q hs
 ·exact h' value slice pins s U H x y v u Q I rx ry q hs
theorem zf0 {r:R2}(hr:IxR X r) (ha:PE X a ta) (hb:PE X b tb) (hs:PlainIx b):PE X (.Subscript a b pos) (tOp r ta tb):=by
 intro pins s U H Q I h
 exact Subscript_ (binT ha hb I h fun v u s2 x y H2 I2 rx ry q=>hr a b pins s2 U H2 x y v u Q I2 rx ry q (hs _ _))
def zf1 (K:PySem.W.Frag):R2:=fun x y H Q=>∃p xs i v,x=.ref p/\y=.int i/\SqL K H p xs/\atI xs i=some v/\Q v H
def zf2 (K:PySem.W.Frag):R2:=fun x y H Q=>∃p xs i v,x=.ref p/\y=.int i/\SqT K H p xs/\atI xs i=some v/\Q v H
def zf3:R2:=fun x y H Q=>∃z i c,x=.str z/\y=.int i/\z.length<=sizeLine/\atI z.cps.toList i=some c/\Q (.str ⟨#[c]⟩) H
theorem zlG:IxR X (zf1 X.K):=by
 intro value slice pins s U H x y v u Q I rx ry h hs
 obtain ⟨p,xs,i,z,rfl,rfl,hq,he,q⟩:=h
 cases rx
 obtain ⟨t,rfl⟩:=ry
 obtain ⟨its,r,pl,hz⟩:=I.list hq
 obtain ⟨j,h1,h2,h3,h4,h5⟩:=atI_get he
 obtain ⟨w,ew,rw'⟩:=r.get h2
 have hl:=r.length
 have hn:=zbP
 have fin:EP X pins U Q w s:=⟨z,H,I,rw',q⟩
 by_cases h0:0<=i
 ·have hj:i.toNat=j:=by
   rw [seqIndex_of h0 h5] at h1
   exact Option.some.inj h1
  exact item_listR pl.isList h0 (by omega) (by rw [hj];simpa using ew) fin hs
 ·have hj:(i+(its.toArray.size:Int)).toNat=j:=by
   rw [seqIndex_neg (by omega) h4] at h1
   rw [List.size_toArray,<-hl]
   exact Option.some.inj h1
  exact subscriptTail_builtinR (x:=w) pl.isList.typeIs slot_list_getitem.lookup
   (wpAny_getItem_list_neg (Q:=fun r s'=>r=w/\EP X pins U Q r s') pl.isList (by omega) (by rw [List.size_toArray]<;>omega) (by omega) (by rw [hj];simpa using ew) ⟨rfl,fin⟩) hs
theorem zlH:IxR X (zf2 X.K):=by
 intro value slice pins s U H x y v u Q I rx ry h hs
 obtain ⟨p,xs,i,z,rfl,rfl,hq,he,q⟩:=h
 cases rx
 obtain ⟨t,rfl⟩:=ry
 obtain ⟨its,r,pl,hz⟩:=I.tuple hq
 obtain ⟨j,h1,h2,h3,h4,h5⟩:=atI_get he
 obtain ⟨w,ew,rw'⟩:=r.get h2
 have hl:=r.length
 have hn:=zbP
 have fin:EP X pins U Q w s:=⟨z,H,I,rw',q⟩
 exact subscriptTail_builtinR (x:=w) pl.typeIs slot_tuple_getitem.lookup
  (getItem_tuple (j:=j) (Q:=fun r s'=>r=w/\EP X pins U Q r s') pl (by omega) (by omega) (by rw [List.size_toArray,<-hl];exact h1) (by simpa using ew) ⟨rfl,fin⟩) hs
theorem ix_str:IxR X zf3:=by
 intro value slice pins s U H x y v u Q I rx ry h hs
 obtain ⟨z,i,c,rfl,rfl,hz,he,q⟩:=h
 obtain ⟨t,rfl⟩:=rx
 obtain ⟨t',rfl⟩:=ry
 obtain ⟨j,h1,h2,h3,h4,h5⟩:=atI_get he
 have hl:z.cps.toList.length=z.length:=by simp [Str.length]
 rw [hl] at h1 h4 h5
 have hn:=zbP
 exact tail_any (typeIs_str s z t) slot_str_getitem.lookup (getItem_str (c:=c) (by
  have e1:decide (i < -(2 ^ 63:Int))=false:=decide_eq_false (by omega)
  have e2:decide (i>=2 ^ 63)=false:=decide_eq_false (by omega)
  rw [e1,e2,Bool.or_false]) (by rw [h1];simpa using h2) ⟨.str ⟨#[c]⟩,H,I.tok _,⟨_,rfl⟩,q⟩) hs
def rIx (K:PySem.W.Frag):R2:=fun x y H Q=>zf1 K x y H Q\/zf2 K x y H Q\/zf3 x y H Q
theorem zlJ:IxR X (rIx X.K):=zlG.or (zlH.or ix_str)
theorem Inv.lst {pins:List (Addr×Obj)}{U:St}{H:Hp}{s:Shared}{p:Addr}{xs:List V}(I:Inv X pins U H s) (h:H p=some (.lst xs)) :
  ∃(its:List Value) (n:Nat),Vals xs its/\s.heap.get? p=some { cls:=.type "list", data:=.seq its.toArray n }/\xs.length<=sizeLine:=by
 obtain ⟨z,its,n,r,e⟩:=I.hok p _ h
 exact ⟨its,n,r,e,z⟩
theorem zlK (lo hi:Option Int) (n:Nat):(sliceBounds lo hi none n).1=((HT.sIx n 0 lo:Nat):Int)/\(sliceBounds lo hi none n).2.1=((HT.sIx n n hi:Nat):Int)/\(sliceBounds lo hi none n).2.2=1:=by
 refine ⟨?_,?_,rfl⟩
 ·cases lo with
  | none=>simp [sliceBounds,HT.sIx]
  | some i =>
   simp only [sliceBounds,HT.sIx,Option.getD_none,show (1:Int)>0 by decide,if_true]
   by_cases h:i<0
   ·simp only [h,if_true]<;>omega
   ·simp only [h,if_false]<;>omega
 ·cases hi with
  | none=>simp [sliceBounds,HT.sIx]
  | some i =>
   simp only [sliceBounds,HT.sIx,Option.getD_none,show (1:Int)>0 by decide,if_true]
   by_cases h:i<0
   ·simp only [h,if_true]<;>omega
   ·simp only [h,if_false]<;>omega
theorem zlL (its:List Value) (lo hi:Option Int):slicePick its.toArray lo hi none=((its.drop (HT.sIx its.length 0 lo)).take (HT.sIx its.length its.length hi-HT.sIx its.length 0 lo)).toArray:=by
 obtain ⟨h1,h2,h3⟩:=zlK lo hi its.toArray.size
 unfold slicePick
 rw [h1,h2,h3]
 simp only [sliceRange_one,pick_run,List.size_toArray]<;>rfl
def zlM (K:PySem.W.Frag):V->Option Int->Option Int->Hp->VK->Prop:=fun x lo hi H Q=>∃a xs,x=.ref a/\SqL K H a xs/\∀p,H p=none->Q (.ref p) (upd H p (.lst (cutV xs lo hi)))
theorem zlN:SlR X (zlM X.K):=by
 intro pins s U H x v vl vu lo hi sl Q I rx hs pl pu h
 obtain ⟨a,xs,rfl,hx,q⟩:=h
 cases rx
 obtain ⟨its,r,ht,hz⟩:=I.list hx
 have hlen:=r.length
 refine ⟨"list", _,slot_list_getitem.lookup,ht.isList.typeIs,?_⟩
 refine wpAny_getItem_list_slice ht.isList hs pl pu .none (by simp) ?_ (by rw [List.size_toArray]<;>omega)
 rw [zlL,<-hlen]
 refine ⟨.ref s.heap.objs.size,_,I.laid (t':=s.toks) (o:=.lst (cutV xs lo hi)) (fun b ob q=>Heap.get?_push_of_some _ q) (Nat.le_refl _) ?_,rfl,q _ (I.hok.fresh (Nat.le_refl _))⟩
 exact ⟨Nat.le_trans (zfZ xs lo hi) hz,_,0,(r.drop (HT.sIx xs.length 0 lo)).take (HT.sIx xs.length xs.length hi-HT.sIx xs.length 0 lo),Heap.get?_push_size _ rfl⟩
theorem zlO:OpR X (compareOp .NotIn) (fun x y H Q=>∃i j,x=.str i/\y=.str j/\Q (.bl (!(!(Builtin.Str.occurrences j i 0 j.length 1).isEmpty))) H):=by
 intro pins s U H x y v u Q I rx ry h
 obtain ⟨i,j,rfl,rfl,q⟩:=h
 obtain ⟨t,rfl⟩:=rx
 obtain ⟨t',rfl⟩:=ry
 exact notIn_str ⟨.bl _,H,I,rfl,q⟩
theorem CallR.or {f:Value}{r r':List V->Hp->VK->Prop}(h:CallR X f r) (h':CallR X f r'):CallR X f (fun xs H Q=>r xs H Q\/r' xs H Q):=by
 intro pins s U H xs us Q I rs q
 rcases q with q|q
 ·exact h pins s U H xs us Q I rs q
 ·exact h' pins s U H xs us Q I rs q
theorem zlP:CallR X (.type "list") (fun xs H Q=>∃p ys,xs=[.ref p]/\(SqL X.K H p ys\/SqT X.K H p ys)/\∀l,H l=none->Q (.ref l) (upd H l (.lst ys))):=by
 intro pins s U H xs us Q I r h
 obtain ⟨p,ys,rfl,hq,q⟩:=h
 obtain ⟨u,rfl,rx⟩:=wy r
 cases rx
 have fin:∀(its:List Value),Vals ys its->ys.length<=sizeLine->∀(h':Heap) (c':Nat),(∀b o',s.heap.get? b=some o'->h'.get? b=some o') ->
   h'.get? s.heap.objs.size=some { cls:=.type "list", dict:=none,data:=.seq its.toArray c',slots:=#[] }->EP X pins U Q (.ref s.heap.objs.size) { s with heap:=h' }:=fun its r' hz h' c' kp e =>
  ⟨.ref s.heap.objs.size,_,I.laid (t':=s.toks) kp (Nat.le_refl _) (show ObjOk X.prog X.w _ h' _ (.lst ys) from ⟨hz,its,c',r',e⟩),rfl,q _ (I.hok.fresh (Nat.le_refl _))⟩
 rcases hq with hq|hq
 ·obtain ⟨its,r',pl,hz⟩:=I.list hq
  have hlen:=r'.length
  obtain ⟨o,ho,hc,n,hd⟩:=pl.isList
  exact call_list_seq p (.inl rfl) ho hc hd (fun h' c' kp e=>fin its r' hz h' c' kp e) (by simp only [List.size_toArray]<;>omega)
 ·obtain ⟨its,r',pl,hz⟩:=I.tuple hq
  have hlen:=r'.length
  obtain ⟨o,ho,hc,n,hd⟩:=pl
  exact call_list_seq p (.inr rfl) ho hc hd (fun h' c' kp e=>fin its r' hz h' c' kp e) (by simp only [List.size_toArray]<;>omega)
theorem zlQ:CallR X (.type "tuple") (fun xs H Q=>∃p ys,xs=[.ref p]/\((SqL X.K H p ys/\∀l,H l=none->Q (.ref l) (upd H l (.tup ys)))\/(SqT X.K H p ys/\Q (.ref p) H))):=by
 intro pins s U H xs us Q I r h
 obtain ⟨p,ys,rfl,h⟩:=h
 obtain ⟨u,rfl,rx⟩:=wy r
 cases rx
 rcases h with ⟨hq,q⟩|⟨hq,q⟩
 ·obtain ⟨its,r',pl,hz⟩:=I.list hq
  have hlen:=r'.length
  refine call_tuple_list pl.isList (fun h' kp=>?_) (by simp only [List.size_toArray]<;>omega)
  have I1:Inv X pins U H { s with heap:=h' }:=I.kept (t':=s.toks) kp
  have I2:Inv X pins U (upd H h'.objs.size (.tup ys)) { s with heap:=h'.push { cls:=.type "tuple", data:=.seq its.toArray } } :=
   I1.laid (t':=s.toks) (fun b o e=>Heap.get?_push_of_some _ e) (Nat.le_refl _) (show ObjOk X.prog X.w _ _ _ (.tup ys) from ⟨hz,its,r',IsTup.new _ _⟩)
  exact ⟨.ref h'.objs.size,_,I2,rfl,q _ (I1.hok.fresh (Nat.le_refl _))⟩
 ·obtain ⟨its,r',pl,hz⟩:=I.tuple hq
  exact call_tuple_same pl ⟨.ref p,H,I,rfl,q⟩
def tyV (K:PySem.W.Frag) (T:String) (x:V) (H:Hp):Prop:=match x with
 | .str _=>T = "str"
 | .int _=>T = "int"
 | .ref p=>(T = "list" /\ ∃xs,SqL K H p xs)\/(T = "tuple" /\ ∃o,K.lookup p=some o/\o.cls=.type "tuple" /\ o.dict=none) \/
   (T = "dict" /\ ((∃kvs,H p=some (.dK kvs))\/∃kvs,H p=some (.dT kvs)))\/(T = "set" /\ ∃S n,H p=some (.set S n))
 | _=>False
theorem zdr {pins:List (Addr×Obj)}{U:St}{H:Hp}{s:Shared}{T:String}{x:V}{v:Value}(I:Inv X pins U H s) (r:RelV x v) (ty:tyV X.K T x H) :
  s.TypeIs v T/\∀a,v=.ref a->∃ob,s.heap.get? a=some ob/\ob.dict=none:=by
 cases x with
 | str z =>
  obtain ⟨t,rfl⟩:=r
  cases (show T = "str" from ty)
  exact ⟨typeIs_str s z t,fun _ e=>nomatch e⟩
 | int i =>
  obtain ⟨t,rfl⟩:=r
  cases (show T = "int" from ty)
  exact ⟨typeIs_int s i t,fun _ e=>nomatch e⟩
 | ref p =>
  cases r
  rcases ty with ⟨rfl,xs,hq⟩|⟨rfl,o,hk,hc,hd⟩|⟨rfl,hk⟩|⟨rfl,S,n,hk⟩
  ·obtain ⟨its,_,pl,_⟩:=I.list hq
   refine ⟨pl.isList.typeIs,fun a e=>?_⟩
   cases e
   obtain ⟨o,n,e,c,hd,_⟩:=pl
   exact ⟨o,e,hd⟩
  ·refine ⟨⟨o,I.kIn p o hk,hc⟩,fun a e=>?_⟩
   cases e
   exact ⟨o,I.kIn _ o hk,hd⟩
  ·have z:∃o,s.heap.get? p=some o/\o.ExactDict:=by
    rcases hk with ⟨kvs,hk⟩|⟨kvs,hk⟩
    ·obtain ⟨_,_,_,_,o,_,_,e,ex,_⟩:=I.hok p _ hk
     exact ⟨o,e,ex⟩
    ·obtain ⟨_,_,_,_,o,_,_,e,ex,_⟩:=I.hok p _ hk
     exact ⟨o,e,ex⟩
   obtain ⟨o,e,ex⟩:=z
   refine ⟨⟨o,e,ex.1⟩,fun a e2=>?_⟩
   cases e2
   exact ⟨o,e,ex.2.1⟩
  ·obtain ⟨o,_,_,_,e,ex,_⟩:=I.hok p _ hk
   refine ⟨⟨o,e,ex.1⟩,fun a e2=>?_⟩
   cases e2
   exact ⟨o,e,ex.2.1⟩
 | _=>exact False.elim ty
def tBM (K:PySem.W.Frag) (T:String) (r:V->List V->Hp->VK->Prop) (to:TE) (t:TA):TE:=fun U H Q=>to U H fun x H1=>tyV K T x H1/\t U H1 fun xs H2=>r x xs H2 Q
variable {o e:Expr}{es:List Expr}{to:TE}{t:TA}{name:Str}{apos cpos:Pos}{T id:String}{r:V->List V->Hp->VK->Prop}
theorem zds (pa:PlainAttrs T) (slot:Slot T name id) (hty:typeOf (.builtin id)=pure (.type "method_descriptor")) (hm:MtR X id r) (ho:PE X o to) (ha:PA X (e::es) t)
  (hbase:attributeBase o name X.env (eval o X.env)=eval o X.env:=by rfl)
  (hfew:((backTo cpos (starEach (e::es) X.env)).all (fun x=>!x.1)&&(backToKw cpos (keywordEach [] X.env)).all (fun x=>x.1.isSome)
   && decide ((e::es).length+([]:List Keyword).length+(if ([]:List Keyword).isEmpty then 0 else 1)<30))=true:=by rfl)
  (hline:(apos.endLine==cpos.line)=true:=by rfl) (hs:starEach (e::es) X.env=(false,eval e X.env)::starEach es X.env:=by rfl) (hplain:(backTo cpos (starEach es X.env)).any (·.1)=false:=by rfl) :
  PE X (.Call (.Attribute o name apos) (e::es) [] cpos) (tBM X.K T r to t):=by
 intro pins s U H Q I h
 refine wpAny_Call_method_late hbase hfew hline rfl (thn (ho pins s U H _ I h) fun v s1 ⟨x,H1,I1,r1,ty,q1⟩=>?_)
 obtain ⟨h1,h2⟩:=zdr I1 r1 ty
 refine ⟨T,id,pa,slot,hty,h1,h2,?_⟩
 have hA:=ha cpos pins s1 U H1 _ I1 q1
 rw [hs] at hA ⊢
 refine Calls.callWith_builtin (by show (false||(backTo cpos (starEach es X.env)).any (·.1))=false;rw [hplain]<;>rfl) (Calls.evalArgs_plain ?_)
 exact thn hA fun us s2 ⟨vs,H2,I2,r2,q2⟩=>hm pins s2 U H2 x vs v us Q I2 r1 r2 q2
end
def MtM (X:Cx) (id:String) (r:V->List V->Hp->VK->Prop):Prop :=
 ∀(pins:List (Addr×Obj)) (s:Shared) (U:St) (H:Hp) (x:V) (xs:List V) (v:Value) (us:List Value) (Q:VK),Inv X pins U H s->RelV x v->Vals xs us->r x xs H Q ->
  wpAny (model X.prog X.w) X.A (call (.builtin id) (v::us)) (EP X pins U Q) X.xe s
theorem Vals.one:∀{x:V}{us:List Value},Vals [x] us->∃u,us=[u]/\RelV x u
 | _,_,.cons r .nil=>⟨_,rfl,r⟩
section
variable {X:Cx}{pins:List (Addr×Obj)}{U:St}{H:Hp}{s:Shared}{l b:Addr}{xs ys zs:List V}
theorem Inv.lset {its its':List Value}{n:Nat}{f:Array Value->Array Value}{t':Nat}(I:Inv X pins U H s) (hH:H l=some (.lst xs))
  (e:s.heap.get? l=some { cls:=.type "list", data:=.seq its.toArray n }) (hf:f its.toArray=its'.toArray) (hv:Vals ys its') (hz:ys.length<=sizeLine) :
  Inv X pins U (upd H l (.lst ys)) { s with heap:=s.heap.update l (Obj.mapSeq f),toks:=t' }:=by
 have q:=PySem.IsL.update e f
 rw [hf] at q
 refine I.write (x:=l) (e:=l) (by rw [hH];exact trivial) (.inl rfl) (fun b' u hb hu=>(Heap.get?_update_other s.heap (Obj.mapSeq f) (Ne.symm hb)).trans hu) ⟨_,q⟩ ?_
 exact ⟨hz,its',_,hv,q⟩
theorem Inv.lnew {its:List Value}{t':Nat}(I:Inv X pins U H s) (hv:Vals ys its) (hz:ys.length<=sizeLine) :
  Inv X pins U (upd H s.heap.objs.size (.lst ys)) { s with heap:=s.heap.push { cls:=.type "list", data:=.seq its.toArray },toks:=t' } :=
 I.laid (fun _ _ q=>Heap.get?_push_of_some _ q) (Nat.le_refl _) ⟨hz,its,0,hv,Heap.get?_push_size _ rfl⟩
theorem Inv.fresh (I:Inv X pins U H s):H s.heap.objs.size=none:=I.hok.fresh (Nat.le_refl _)
theorem Inv.lstM (I:Inv X pins U H s) (hH:H l=some (.lst xs)):xs.length<=sizeLine/\∃(its:List Value) (n:Nat),Vals xs its/\xs.length=its.length/\s.heap.get? l=some { cls:=.type "list", data:=.seq its.toArray n }:=by
 obtain ⟨z,its,n,r,e⟩:=I.hok l _ hH
 exact ⟨z,its,n,r,r.length,e⟩
theorem notLongL {n:Nat}(h:n<=sizeLine):Builtin.List.listTooLong n=false:=by
 unfold Builtin.List.listTooLong
 exact decide_eq_false (by omega)
end
section
variable {X:Cx}
def zlS:V->List V->Hp->VK->Prop:=fun x vs H Q=>∃l xs y,x=.ref l/\vs=[y]/\H l=some (.lst xs)/\xs.length<sizeLine/\Q .non (upd H l (.lst (xs++[y])))
theorem zlT:MtM X "list.append" zlS:=by
 intro pins s U H x vs v us Q I rx rv h
 obtain ⟨l,xs,y,rfl,rfl,hH,hz,q⟩:=h
 cases rx
 obtain ⟨u,rfl,ru⟩:=rv.one
 obtain ⟨z,its,n,r,hl,e⟩:=I.lstM hH
 refine call_meets F.slot_list_append ⟨_,e,rfl⟩ F.entry_list_append (F.args_list_append_2 _ _) (PySem.list_append l its.toArray n u (by rw [List.size_toArray];omega)) ⟨e,?_⟩
 refine ⟨.non,_,I.lset (its':=its++[u]) hH e (by simp) (r.append (.cons ru .nil)) ?_,rfl,q⟩
 rw [List.length_append,List.length_singleton]
 omega
def zlU:V->List V->Hp->VK->Prop:=fun x vs H Q=>∃l b xs zs,x=.ref l/\vs=[.ref b]/\H l=some (.lst xs)/\H b=some (.lst zs)/\xs.length+zs.length<=sizeLine/\Q .non (upd H l (.lst (xs++zs)))
theorem zlV:MtM X "list.extend" zlU:=by
 intro pins s U H x vs v us Q I rx rv h
 obtain ⟨l,b,xs,zs,rfl,rfl,hH,hB,hz,q⟩:=h
 cases rx
 obtain ⟨u,rfl,ru⟩:=rv.one
 cases ru
 obtain ⟨z,its,n,r,hl,e⟩:=I.lstM hH
 obtain ⟨z2,its2,n2,r2,hl2,e2⟩:=I.lstM hB
 have hsz:its.toArray.size+its2.toArray.size<=sizeLine:=by rw [List.size_toArray,List.size_toArray];omega
 have hlong:¬(!its.toArray.isEmpty&&Builtin.List.listTooLong (its.toArray.size+its2.toArray.size))=true:=by
  rw [notLongL hsz,Bool.and_false]
  exact Bool.false_ne_true
 refine call_meets F.slot_list_extend ⟨_,e,rfl⟩ F.entry_list_extend (F.args_list_extend_2 _ _)
  (AutoSeq1.list_extend_list_list_0 l its.toArray n b its2.toArray n2 hlong (by rw [List.size_toArray];omega) (by omega)) ⟨e,e2,?_⟩
 refine ⟨.non,_,I.lset (its':=its++its2) hH e (by simp) (r.append r2) ?_,rfl,q⟩
 rw [List.length_append]
 omega
def zlW:R2:=fun x y H Q=>∃l b xs zs,x=.ref l/\y=.ref b/\H l=some (.lst xs)/\H b=some (.lst zs)/\xs.length+zs.length<=sizeLine/\∀p,H p=none->Q (.ref p) (upd H p (.lst (xs++zs)))
theorem zlX:OpR X (binaryOp .Add) zlW:=by
 intro pins s U H x y v u Q I rx ry h
 obtain ⟨l,b,xs,zs,rfl,rfl,hH,hB,hz,q⟩:=h
 cases rx
 cases ry
 obtain ⟨z,its,n,r,hl,e⟩:=I.lstM hH
 obtain ⟨z2,its2,n2,r2,hl2,e2⟩:=I.lstM hB
 refine PySem.P.add_list e e2 ?_ (by rw [List.size_toArray,List.size_toArray];omega)
 have ea:its.toArray++its2.toArray=(its++its2).toArray:=by simp
 rw [ea]
 exact ⟨.ref _,_,I.lnew (t':=s.toks) (r.append r2) (by rw [List.length_append];omega),rfl,q _ I.fresh⟩
end
section
variable {prog:Program}{w:World}{A:Around}{E:Value->Shared->Prop}{s:Shared}
end
section
variable {X:Cx}
end
end L2
namespace Att
open PySem PySem.W PySem.Calls PyProof.Rows
theorem zlY {P:Params}{h:Heap}:∀(ns:List Int) (vs:List Value),WellAll P h vs (ns.map WData.int)->IntsAre vs ns:=by
 intro ns
 induction ns with
 | nil =>
  intro vs w
  rw [List.map_nil] at w
  cases w
  exact .nil
 | cons n ns ih =>
  intro vs w
  rw [List.map_cons] at w
  cases w with
  | cons a b =>
   cases a
   exact .cons _ _ (ih _ b)
theorem zlZ {l:OpenLaw}{n:Nat}(hn:l.most=some n) {P:Params}{h:Heap}{args:List WData}{vals:List Value}
  (hpre:l.row.toRowW.claim.pre args=true) (hwl:WellAll P h vals args) :
  ∃a vs ns,vals=[Value.ref a]/\args=[WData.list (ns.map WData.int)]/\h.get? a=some { cls:=.type "list", data:=.seq vs.toArray }/\IntsAre vs ns/\ns.length<=n:=by
 have hsh:WShape.hasAll [] args [.list .int]=true:=(pre_splitW hpre).1
 have hc:l.pre.holds [] { args:=args }=true:=(pre_splitW hpre).2
 obtain ⟨d,r,rfl,h1,h2⟩:=hasAllW_cons hsh
 obtain rfl:=hasAllW_nil h2
 obtain ⟨xs,rfl,h3⟩:=hasW_list h1
 obtain ⟨ns,rfl⟩:=items_int h3
 have hlen:ns.length<=n:=by
  unfold OpenLaw.pre at hc
  have h4:(WTm.not (.lt (.lit (.int (n:Int))) (.len (.arg 0)))).holds [] { args:=[.list (ns.map .int)] }=true:=by
   have h4:=(holds_andW hc).1
   rw [hn] at h4
   exact h4
  have h5:=condW_of h4 (w_not (w_lt w_lit (w_len_list (w_arg rfl))))
  rw [List.length_map] at h5
  refine Nat.le_of_not_lt fun q=>?_
  have q':(n:Int)<((ns.length:Nat):Int):=by omega
  first
   | (rw [decide_eq_true q'] at h5;exact absurd h5 (by decide))
   | (simp at h5;omega)
 cases hwl with
 | cons w1 w2 =>
  cases w2
  cases w1 with
  | list ho hall=>exact ⟨_,_,ns,rfl,rfl,ho,zlY ns _ hall,hlen⟩
theorem zl0 (l:OpenLaw) (args:List WData):l.row.toRowW.claim.post args (.bool true) args=true :=
 postW_of (r:=l.row.toRowW) (X:=(true==true))
  (show WShape.has [] (.bool true) .bool=true by first|rfl|decide|simp [WShape.has,WShape.arms,WShape.armsAll])
  (show (WTm.eq .res (.lit (.bool true))).value [] { args:=args,res:=some (.bool true),after:=args }=some (.bool (true==true)) from w_eq_bool (w_res rfl) w_lit) rfl
theorem attach_call {l:OpenLaw}{n:Nat}{q:Program}{loose:List Str}{XP:(Str->Option Value)->Heap->Prop}{YP:World->Heap->Prop}{d:DefRec}
  (hn:l.most=some n) (hdf:d.params.defaults=[])
  (call:∀(w:World) (s₀ al:Shared) (mg mb:Str->Option Value) (fa:Addr) (o:Obj) (pm cd doc:Value) (a:Addr) (vs:List Value) (ns:List Int),
   Ground q loose [] XP w s₀ mg mb al.heap->YP w al.heap ->
   al.heap.get? fa=some o->o.data=.func (docDef d.name d.params d.body d.scope pm cd doc)->al.heap.CodeRec cd d.name->mg d.name=some (.ref fa) ->
   al.heap.get? a=some { cls:=.type "list", data:=.seq vs.toArray }->IntsAre vs ns->ns.length<=n->al.gens=#[] ->
   codeAny (model l.prog w) callerA (.call (.ref fa) ⟨[.ref a],[]⟩) (fun r s'=>r=.ok (.ret (.bool true))/\OldK al.heap s'.heap/\s'.os=al.os/\AllBare s'.gens) al) :
  WalkO q loose XP YP l.row.toRowW d [] (fun f vs=>PySem.call f vs):=by
 intro w s₀ al mg mb G Y fa o pm cd doc dV kV ho hd hcd hD hmg hg args vals as hpre hlay hrd hwl hlo
 obtain rfl:dV=.none:=Dflts.none hD hdf
 obtain rfl:kV=.none:=Dflts.noKw hD
 obtain ⟨a,vs,ns,rfl,rfl,hobj,hints,hlen⟩:=zlZ hn hpre hwl
 refine enter_call (codeAny_mono (call w s₀ al mg mb fa o pm cd doc a vs ns G Y ho (fd_plain hd) hcd hmg hobj hints hlen hg) fun r s' hq=>?_)
 obtain ⟨rfl,h2,h3,h4⟩:=hq
 exact ⟨.inl ⟨.bool true,.bool true,[],rfl,fun _=>rfl,.bool true,zl0 l _,fun _=>⟨List.Pairwise.nil,fun _ hm=>(nomatch hm)⟩⟩,h2,h3,h4⟩
section
variable {prog:Program}{w:World}{A:Around}{E:Value->Shared->Prop}{s:Shared}{K:Frag}
end
end Att
namespace L2
open PySem PySem.Spec PyProof.Rows
theorem zf4:∀{vs:List Value}{ns:List Int},IntsAre vs ns->Vals (ns.map V.int) vs
 | _,_,.nil=>.nil
 | _,_,.cons n t h=>.cons ⟨t,rfl⟩ (zf4 h)
def Only (H:Hp):Prop:=∀b,H b=none\/∃o xs,H b=some (.frz o (.lst xs))
theorem zl1 {P:Program}{w:World}{K:PySem.W.Frag}{mg mb:Str->Option Value}{CX:CXT}{k:Nat}{fa a:Addr}{fd:FuncData}{x:Str}{sp:Sp}{al:Shared}{vs:List Value}{ns:List Int}
  (KX:K.In al.heap) (hns:al.heap.Ns mainGlobals mg) (hb:al.heap.Ns builtinsNs mb) (hbb:∀x:Str,x ≠ "__name__" -> mb x=bootBuiltins x) (hlim:al.heap.NoLimit) (hg:al.gens=#[])
  (ha:al.heap.get? a=some { cls:=.type "list", data:=.seq vs.toArray }) (hi:IntsAre vs ns) (hl:ns.length<=sizeLine) (hr:Room k callerA)
  (F:∀base:Heap,K.In base->base.Ns mainGlobals mg->FnOk P w K mg base CX k fa fd [x] sp) (hbind:∀(s:Shared) (u:Value),BindsTo s fd ⟨[u],[]⟩ [(x,u)])
  (hsp:∀H:Hp,Only H->SqL K H a (ns.map V.int)->sp [.ref a] H (fun v _=>v=.bl true) fun _ _ _=>False)
  (hCX:∀H e s',CX [] H al (fun _ _ _=>False) e s'->False) :
  codeAny (model P w) callerA (.call (.ref fa) ⟨[.ref a],[]⟩) (fun r s'=>r=.ok (.ret (.bool true))/\OldK al.heap s'.heap/\s'.os=al.os/\AllBare s'.gens) al:=by
 have rv:=zf4 hi
 have lenV:=hi.length
 have core:∀H:Hp,Only H->SqL K H a (ns.map V.int)->HOk P w H al.heap->(∀b,H b≠none->b=a)->(H a≠none->K.lookup a=none) ->
   codeAny (model P w) callerA (.call (.ref fa) ⟨[.ref a],[]⟩) (fun r s'=>r=.ok (.ret (.bool true))/\OldK al.heap s'.heap/\s'.os=al.os/\AllBare s'.gens) al:=by
  intro H hO hS hok hA hK
  have base_of:∀{b:Addr} {o:Obj},al.heap.get? b=some o->H b=none->(hidT al.heap H).get? b=some o:=fun e n=>zjP e n
  have noA:∀{b:Addr} {o:Obj} {es:Array DictEntry} {ep:Nat},al.heap.get? b=some o->o.data=.dict es ep->H b=none:=fun {b o es ep} e d=>by
   cases q:H b with
   | none=>rfl
   | some u =>
    have e':b=a:=hA b (by rw [q];simp)
    subst e'
    rw [ha] at e;cases e
    have d':Data.seq vs.toArray _=Data.dict es ep:=d
    cases d'
  have nsK:∀{b:Addr} {m:Str->Option Value},al.heap.Ns b m->(hidT al.heap H).Ns b m:=fun {b m} ⟨o,es,ep,e,d,r⟩=>⟨o,es,ep,base_of e (noA e d),d,r⟩
  have hKb:K.In (hidT al.heap H):=fun b o e=>base_of (KX b o e) (by
   cases q:H b with
   | none=>rfl
   | some u =>
    have e':b=a:=hA b (by rw [q];simp)
    subst e'
    rw [hK (by rw [q];simp)] at e;cases e)
  have hM:Mod K mg (hidT al.heap H):=⟨hKb,nsK hns,⟨mb,nsK hb,hbb⟩,let ⟨mc,h1,h2⟩:=hlim;⟨mc,nsK h1,h2⟩⟩
  have e0:Env0 P w K mg (hidT al.heap H) callerA [] al H:=⟨rfl,hM,fun b o e=>zjQ e,Nat.le_of_eq (zjO _ _),trivial,fun b hb=>absurd (show b∈([]:List Addr) from hb) (by simp),hok,.of_eq hg⟩
  refine codeAny_mono ((F _ hKb (nsK hns)).run callerA [] al H ⟨[.ref a],[]⟩ [.ref a] [.ref a] _ _ hr e0 (hbind al (.ref a)) (.cons rfl .nil) (hsp H hO hS)) fun r s' h=>?_
  cases r with
  | error e=>exact (hCX H e s' h).elim
  | ok fl =>
   cases fl with
   | next=>exact False.elim h
   | brk=>exact False.elim h
   | cont=>exact False.elim h
   | ret u =>
    obtain ⟨v,H',os,bare,un,hok',r',q⟩:=h
    have q':v=.bl true:=q
    subst q'
    obtain rfl:u=Value.bool true:=r'
    refine ⟨rfl,OldK.of_keep fun b o e=>?_,os,bare⟩
    cases q:H b with
    | none=>exact un.keep b o e q (by intro z;exact absurd (show b∈([]:List Addr) from z) (by simp)) (by simp)
    | some u =>
     rcases hO b with z|⟨ob,xs,z⟩
     ·rw [q] at z;cases z
     ·have z2:=un.frzs b ob _ z
      obtain ⟨e1,_⟩:=hok b _ z
      obtain ⟨e2,_⟩:=hok' b _ z2
      rw [e] at e1;cases e1
      exact e2
 cases hk:K.lookup a with
 | some o =>
  have e:=KX a o hk
  rw [ha] at e
  cases e
  refine core (fun _=>none) (fun _=>.inl rfl) (.inr ⟨_,vs.toArray,_,hk,rfl,rfl,rfl,by rw [List.size_toArray,lenV];exact hl,by simpa using rv⟩) (fun b u z=>by have z':(none:Option HO)=some u:=z;cases z') (fun b z=>absurd rfl z) fun z=>absurd rfl z
 | none =>
  refine core (fun b=>if b=a then some (.frz { cls:=.type "list", data:=.seq vs.toArray } (.lst (ns.map V.int))) else none) (fun b=>?_) (.inl (.inr ⟨{ cls:=.type "list", data:=.seq vs.toArray },if_pos rfl⟩)) (fun b u z=>?_) (fun b z=>?_) fun _=>hk
  ·by_cases hb:b=a
   ·exact .inr ⟨_,_,if_pos hb⟩
   ·exact .inl (if_neg hb)
  ·by_cases hb:b=a
   ·have z':=(if_pos hb).symm.trans z
    cases z'
    subst hb
    exact ⟨ha,by rw [List.length_map];exact hl,vs,_,rv,ha⟩
   ·have z':=(if_neg hb).symm.trans z
    cases z'
  ·by_cases hb:b=a
   ·exact hb
   ·exact absurd (if_neg hb) z
abbrev KOf {K:PySem.W.Frag}{h:Heap}(_:K.In h):PySem.W.Frag:=K
theorem zl2 {l:PySem.W.OpenLaw}{n k:Nat}{q:Program}{loose:List Str}{XP:(Str->Option Value)->Heap->Prop}{YP:World->Heap->Prop}{d:DefRec}{K:Params->PySem.W.Frag}{CX:World->CXT}{sp:World->Sp}{x:Str}
  (hn:l.most=some n) (hn2:n<=sizeLine) (hdf:d.params.defaults=[]) (hr:Room k callerA)
  (hY:∀(w:World) (h:Heap),YP w h->(K w.params).In h)
  (F:∀(w:World) (mg:Str->Option Value) (fa:Addr) (h:Heap),(K w.params).In h->h.Ns mainGlobals mg->mg d.name=some (.ref fa) ->
   ∃fd:FuncData,(∀(s:Shared) (u:Value),BindsTo s fd ⟨[u],[]⟩ [(x,u)]) /\
    ∀base:Heap,(K w.params).In base->base.Ns mainGlobals mg->FnOk l.prog w (K w.params) mg base (CX w) k fa fd [x] (sp w))
  (hsp:∀(w:World) (H:Hp) (a:Addr) (ns:List Int),ns.length<=n->Only H->SqL (K w.params) H a (ns.map V.int)->sp w [.ref a] H (fun v _=>v=.bl true) fun _ _ _=>False)
  (hCX:∀(w:World) (H:Hp) (s:Shared) (e:Value) (s':Shared),CX w [] H s (fun _ _ _=>False) e s'->False) :
  PySem.W.WalkO q loose XP YP l.row.toRowW d [] (fun f vs=>PySem.call f vs):=by
 refine Att.attach_call hn hdf fun w s₀ al mg mb fa o pm cd doc a vs ns G Y ho hd hcd hmg hobj hints hlen hg=>?_
 have KX:=hY w _ Y
 obtain ⟨fd,hb,hF⟩:=F w mg fa _ KX G.T.g hmg
 exact zl1 KX G.T.g G.T.b G.T.builtins G.T.nolimit hg hobj hints (Nat.le_trans hlen hn2) hr hF hb (fun H hO hS=>hsp w H a ns hlen hO hS) fun H e s'=>hCX w H al e s'
def inClass (s:Stmt) (j:Nat):Stmt:=match s with
 | .ClassDef _ _ _ body _ _ _ _ _ _ _=>body.getD j (.Pass ⟨0,0,0,0⟩)
 | _=>.Pass ⟨0,0,0,0⟩
def jA (s:Stmt):Arguments:=match s with
 | .FunctionDef _ a _ _ _ _ _ _ _ _=>a
 | _=>{ posonlyargs:=[],args:=[],vararg:=none,kwonlyargs:=[],kw_defaults:=[],kwarg:=none,defaults:=[] }
def yM (s:Stmt):List Stmt:=match s with
 | .FunctionDef _ _ b _ _ _ _ _ _ _=>b
 | _=>[]
def zB (s:Stmt):Scope:=match s with
 | .FunctionDef _ _ _ _ _ _ sc _ _ _=>sc
 | _=>{ kind:=.function,names:=[],isGenerator:=false,isCoroutine:=false }
abbrev CX0:CXT:=fun _ _ _ _ _ _=>False
abbrev E0:XK:=fun _ _ _=>False
structure Fun (K:PySem.W.Frag) (x qual:Str) (st:Stmt) (f:Addr) (fd:FuncData):Prop where
 ex:∃(oc:Value) (od:Option Addr) (kV doc pm:Value) (an:Option Addr) (cdv ct:Value) (osl:Array (Option Value)),
  fd=PySem.W.fnOf x qual (jA st) (yM st) (zB st) .none kV doc pm an cdv ct/\K.lookup f=some ⟨oc,od,.func fd,osl⟩/\PySem.W.codeIn K cdv qual=true
 kp:PySem.W.keepIn K (.ref f)=true
section
variable {P:Program}{w:World}{K:PySem.W.Frag}{mg:Str->Option Value}{base:Heap}
theorem Fun.ok {x qual:Str}{st:Stmt}{f:Addr}{fd:FuncData}{N ps:List Str}{k:Nat}{sp:Sp}(F:Fun K x qual st f fd) (S:FnScope N ps (zB st)) (len:∀vs H Q E,sp vs H Q E->vs.length=ps.length)
  (hbody:∀(cdv:Value) (A:Around) (outer:List Env) (s:Shared) (H:Hp) (vs:List V) (Q:VK) (E:XK),Room k (A.deeper (envOfC qual (zB st) s.heap.objs.size f cdv))->sp vs H Q E ->
   ∃t,PSs (cxOf CX0 P w K mg base N qual (zB st) f cdv A outer s H E).nox (yM st) t/\t { nx:=fun _ H'=>Q .non H',rt:=Q } (start N vs) H):FnOk P w K mg base CX0 (k+1) f fd ps sp:=by
 obtain ⟨oc,od,kV,doc,pm,an,cdv,ct,osl,rfl,lk,hcd⟩:=F.ex
 refine zfU lk hcd S len fun A outer s H vs Q E hr hsp=>?_
 obtain ⟨t,h,q⟩:=hbody cdv A outer s H vs Q E hr hsp
 exact ⟨t,h.nox,q⟩
theorem Fun.binds {x qual:Str}{st:Stmt}{f:Addr}{fd:FuncData}{ps:List Str}(F:Fun K x qual st f fd)
  (h:∀(kV doc pm:Value) (an:Option Addr) (cdv ct:Value) (us:List Value),us.length=ps.length->bindArgs (PySem.W.fnOf x qual (jA st) (yM st) (zB st) .none kV doc pm an cdv ct) ⟨us,[]⟩=pure (ps.zip us)):Binds K fd ps []:=by
 obtain ⟨oc,od,kV,doc,pm,an,cdv,ct,osl,rfl,lk,hcd⟩:=F.ex
 exact .all (h kV doc pm an cdv ct)
theorem wz {x qual:Str}{st:Stmt}{f:Addr}{oc:Value}{od an:Option Addr}{osl:Array (Option Value)}{kV doc pm cdv ct:Value}(l:K.lookup f=some ⟨oc,od,.func (PySem.W.fnOf x qual (jA st) (yM st) (zB st) .none kV doc pm an cdv ct),osl⟩)
  (c:PySem.W.codeIn K cdv qual=true) (k:PySem.W.keepIn K (.ref f)=true):Fun K x qual st f (PySem.W.fnOf x qual (jA st) (yM st) (zB st) .none kV doc pm an cdv ct):=⟨⟨oc,od,kV,doc,pm,an,cdv,ct,osl,rfl,l,c⟩,k⟩
end
section
variable {X:Cx}
theorem pv (i:Nat) {x:Str} {pos:Pos} (hN:X.N[i]?=some x:=by rfl) (hv:Vis X.env.scope x:=by first|exact Or.inl rfl|exact Or.inr (Or.inl rfl)|exact Or.inr (Or.inr rfl)) (hd:(x==("__debug__" : Str))=false:=by decide)
  (hcd:(x==("__classdict__" : Str))=false:=by decide):PE X (.Name x pos) (zbO i):=zfC hN hv hd hcd
end
def Same (H H':Hp):Prop:=∀b o,H b=some o->H' b=some o
theorem Same.free {H H':Hp}(e:Same H H') {l:Addr}(h:H' l=Option.none):H l=Option.none:=by
 cases q:H l with
 | none=>rfl
 | some o =>
  rw [e l o q] at h
  cases h
theorem Same.seq {K:PySem.W.Frag}{H H':Hp}{a:Addr}{xs:List V}(e:Same H H') (h:SqL K H a xs):SqL K H' a xs:=by
 rcases h with (h|⟨o,h⟩)|h
 ·exact .inl (.inl (e _ _ h))
 ·exact .inl (.inr ⟨o,e _ _ h⟩)
 ·exact .inr h
end L2
set_option maxHeartbeats 4000000
namespace L2
open PySem PySem.Spec PyProof.Rows
theorem ar1 {l z D b:Nat}(h1:l<z) (h2:z=D) (h3:D<=b) (h4:b=l):False:=by omega
theorem wS {b D C:Nat}(h1:b<D) (h2:C=D+1) (h3:b=C):False:=by omega
theorem ar3 {b e d:Nat}(h1:b<e) (h2:e<=d) (h3:d<=b):False:=by omega
theorem ar4 {b D p:Nat}(h1:b<D) (h2:p=D) (h3:p=b):False:=by omega
theorem zdt (env:Env):∀(l:List (Str×NameKind)) (acc:List (Str×Addr)),(∀p∈l,p.2=.free->∃c,env.cells.lookup p.1=some c) ->
  ∃cl,(forIn l acc (fun (x:Str×NameKind) (cs:List (Str×Addr))=>if (x.snd==NameKind.free)=true then do
            let a <-cellOf env x.fst
            pure (ForInStep.yield ((x.fst,a)::cs))
      else pure (ForInStep.yield cs)):Sem (List (Str×Addr)))=pure cl /\
   (∀y c,(y,c)∈cl->(y,c)∈acc\/(env.cells.lookup y=some c/\(y,NameKind.free)∈l))/\(∀p∈acc,p∈cl)/\(∀y,(y,NameKind.free)∈l->∃c,(y,c)∈cl)
 | [],acc,_=>⟨acc,rfl,fun _ _ h=>.inl h,fun _ h=>h,fun _ h=>nomatch h⟩
 | (n,k)::r,acc,hall=>by
  by_cases hk:k=.free
  ·subst hk
   obtain ⟨c,hc⟩:=hall (n,.free) List.mem_cons_self rfl
   obtain ⟨cl,e,h1,h2,h3⟩:=zdt env r ((n,c)::acc) fun p hp=>hall p (List.mem_cons_of_mem _ hp)
   refine ⟨cl,?_,fun y d hy=>?_,fun p hp=>h2 p (List.mem_cons_of_mem _ hp),fun y hy=>?_⟩
   ·rw [List.forIn_cons]
    simp only [beq_self_eq_true,if_true]
    have:cellOf env n=pure c:=by unfold cellOf;rw [hc]
    rw [this]
    exact e
   ·rcases h1 y d hy with q|q
    ·rcases List.mem_cons.mp q with q|q
     ·cases q
      exact .inr ⟨hc,List.mem_cons_self⟩
     ·exact .inl q
    ·exact .inr ⟨q.1,List.mem_cons_of_mem _ q.2⟩
   ·rcases List.mem_cons.mp hy with q|q
    ·cases q
     exact ⟨c,h2 _ List.mem_cons_self⟩
    ·exact h3 y q
  ·obtain ⟨cl,e,h1,h2,h3⟩:=zdt env r acc fun p hp=>hall p (List.mem_cons_of_mem _ hp)
   refine ⟨cl,?_,fun y d hy=>?_,h2,fun y hy=>?_⟩
   ·rw [List.forIn_cons]
    have:(k==NameKind.free)=false:=by simpa using hk
    simp only [this,Bool.false_eq_true,if_false]
    exact e
   ·rcases h1 y d hy with q|q
    ·exact .inl q
    ·exact .inr ⟨q.1,List.mem_cons_of_mem _ q.2⟩
   ·rcases List.mem_cons.mp hy with q|q
    ·cases q
     exact absurd rfl hk
    ·exact h3 y q
theorem zf9 {β:Type}{y:Str}:∀{l:List (Str×β)}{c:β},(y,c)∈l->∃d,l.lookup y=some d
 | (n,b)::r,c,h=>by
  rw [List.lookup_cons]
  cases e:y==n with
  | true=>exact ⟨b,rfl⟩
  | false =>
   rcases List.mem_cons.mp h with q|q
   ·cases q
    simp at e
   ·exact zf9 q
theorem zga (env:Env) (scope:Scope) (hall:∀p∈scope.names,p.2=.free->∃c,env.cells.lookup p.1=some c) :
  ∃cl,closureFor scope env=pure cl/\(∀y c,cl.lookup y=some c->env.cells.lookup y=some c)/\(∀y,(y,NameKind.free)∈scope.names->∃c,cl.lookup y=some c):=by
 obtain ⟨cl,e,h1,_,h3⟩:=zdt env scope.names [] hall
 refine ⟨cl,?_,fun y c hy=>?_,fun y hy=>?_⟩
 ·simp only [closureFor]
  rw [e]
  rfl
 ·rcases h1 y c (PySem.mem_of_lookup hy) with z|z
  ·cases z
  ·exact z.1
 ·obtain ⟨c,hc⟩:=h3 y hy
  exact zf9 hc
structure CompSc (sc scope:Scope) (x:Str):Prop where
 kind:scope.kind=.function
 ncell:∀y∈scope.names,y.2 ≠ .cell
 names:∀y∈scope.names,y.2=.local->scope.names.lookup y.1=some .local/\(y.1=x\/y.1 = ".0")
 hx:scope.names.lookup x=some .local
 free:∀y∈scope.names,y.2=.free->sc.names.lookup y.1=some .cell
def cxH (X:Cx) (M:List Str) (scope:Scope) (cl:List (Str×Addr)) (x:Str) (C:Addr) (af:Shared) (aj:Hp) (fp:List Addr) (E:Value->Shared->Prop):Cx :=
 { X with N:=x::M,s₀:=af,H₀:=aj,env:=compEnvC scope cl C X.env,outer:=X.stack,ex:=fp,fn:=fun _=>false,pn:=[],xe:=E }
def Hid (scope:Scope) (M N:List Str):Prop:=M.length=N.length/\∀p∈M.zip N,p.1=p.2\/p.1∉scope.names.map Prod.fst
theorem Hid.refl {scope:Scope}{N:List Str}:Hid scope N N:=⟨rfl,fun p hp=>.inl (by
 obtain ⟨i,hi,e⟩:=List.getElem_of_mem hp
 rw [List.getElem_zip] at e
 rw [<-e])⟩
theorem Hid.get {scope:Scope}{M N:List Str}(h:Hid scope M N) {i:Nat}{y:Str}(e:M[i]?=some y):N[i]?=some y\/y∉scope.names.map Prod.fst:=by
 obtain ⟨hi,ei⟩:=List.getElem?_eq_some_iff.mp e
 have hj:i<N.length:=h.1▸hi
 have hm:(M[i],N[i])∈M.zip N:=List.mem_of_getElem? (i:=i) (by rw [List.getElem?_zip_eq_some];exact ⟨List.getElem?_eq_getElem hi,List.getElem?_eq_getElem hj⟩)
 rcases h.2 _ hm with q|q
 ·exact .inl (by rw [List.getElem?_eq_getElem hj,<-ei];exact congrArg some q.symm)
 ·exact .inr (by rw [<-ei];exact q)
def cxC (X:Cx) (scope:Scope) (cl:List (Str×Addr)) (x:Str) (C:Addr) (af:Shared) (aj:Hp) (fp:List Addr) (E:Value->Shared->Prop):Cx :=
 { X with N:=x::X.N,s₀:=af,H₀:=aj,env:=compEnvC scope cl C X.env,outer:=X.stack,ex:=fp,fn:=fun _=>false,pn:=[],xe:=E }
section
variable {X:Cx}{scope:Scope}{cl:List (Str×Addr)}{x:Str}
theorem wA {env:Env}{y:Str}{k:NameKind}(h:(relabel scope env).names.lookup y=some k):∃k0,(y,k0)∈scope.names/\((k0=.free/\env.kindOf y=some .cell/\k=.cell)\/(k=k0/\¬(k0=.free/\env.scope.kind=.function/\env.kindOf y=some .cell))):=by
 have hm:=PySem.mem_of_lookup h
 obtain ⟨⟨n,k0⟩,hn,e⟩:=List.mem_map.mp hm
 by_cases hc:(k0==NameKind.free&&env.scope.kind == .function&&env.kindOf n==some .cell)=true
 ·have e':(n,NameKind.cell)=(y,k):=by rw [<-e];simp only [hc,if_true]
  cases e'
  simp only [Bool.and_eq_true,beq_iff_eq] at hc
  exact ⟨_,hn,.inl ⟨hc.1.1,hc.2,rfl⟩⟩
 ·have e':(n,k0)=(y,k):=by rw [<-e];simp only [hc,if_false];rfl
  cases e'
  refine ⟨_,hn,.inr ⟨rfl,fun ⟨a,b,c⟩=>hc ?_⟩⟩
  simp [a,b,c]
theorem zgb (S:CompSc X.env.scope scope x) {y:Str} (h:(relabel scope X.env).names.lookup y=some .local):y=x\/y = ".0" := by
 obtain ⟨k0,hm,⟨_,_,e⟩|⟨e,_⟩⟩:=wA h
 ·cases e
 ·subst e
  exact (S.names _ hm rfl).2
theorem zdu (S:CompSc X.env.scope scope x) (hk:X.env.scope.kind=.function) {y:Str}(h:(relabel scope X.env).names.lookup y=some .cell\/(relabel scope X.env).names.lookup y=some .free):(y,NameKind.free)∈scope.names:=by
 rcases h with h|h
 ·obtain ⟨k0,hm,⟨e,_,_⟩|⟨e,_⟩⟩:=wA h
  ·subst e;exact hm
  ·subst e;exact absurd rfl (S.ncell _ hm)
 ·obtain ⟨k0,hm,⟨_,_,e⟩|⟨e,n⟩⟩:=wA h
  ·cases e
  ·subst e
   exact hm
end
theorem zl3 {P:Program}{wd:World}{B:Around}{Z:Result->Shared->Prop}{u0:Shared}{el tg iter:Expr}{sc:Scope}{ps:Pos}{iv ac:Value}{ev:Env}(J0:Nat->Shared->Prop)
  (turn:∀k u,J0 k u->wpAny (model P wd) B (pyNext iv) (fun r u1=>match r with|none=>Z (.ok .next) u1|some v=>wpAny (model P wd) B (letOwnedTupleGo tg iv v) (fun _ u2 =>
   wpAny (model P wd) B (assign tg ev v) (fun _ u3=>wpAny (model P wd) B (eval el ev) (fun y u4=>wpAny (model P wd) B (call (.builtin "list.append") [ac,y]) (fun _ u5=>∃m,m<k/\J0 m u5)
    (notedBy (model P wd) B ev fun e u=>Z (.error e) u) u4) (notedBy (model P wd) B ev fun e u=>Z (.error e) u) u3) (notedBy (model P wd) B ev fun e u=>Z (.error e) u) u2) (notedBy (model P wd) B ev fun e u=>Z (.error e) u) u1)
   (notedBy (model P wd) B ev fun e u=>Z (.error e) u) u)
  (k0:Nat) (start0:J0 k0 u0):codeAny (model P wd) B (.compLoop (.ListComp el [⟨tg,iter,[],0⟩] sc ps) 0 iv ac ev) Z u0:=by
 refine codeAny_loop rfl J0 (fun k u hJ=>wpAny_noted (E:=fun e u=>Z (.error e) u) (env:=ev) (m:=compTurn (.ListComp el [⟨tg,iter,[],0⟩] sc ps) 0 iv ac ev) ?_) k0 start0
 rw [compTurn_list1]
 have one:=turn k u hJ
 refine wpAny_bind (wpAny_standAt (wpAny_bind (wpAny_mono one (fun r u1 q1=>?_) fun _ _ z=>z)))
 cases r with
 | none=>exact wpAny_pure q1
 | some v =>
  refine wpAny_bind (wpAny_mono q1 (fun _ u2 q2=>wpAny_bind (wpAny_mono q2 (fun _ u3 q3=>?_) fun _ _ z=>z)) fun _ _ z=>z)
  exact wpAny_bind (wpAny_bind (wpAny_mono q3 (fun y u4 q4=>wpAny_bind (wpAny_mono q4 (fun _ u5 q5=>wpAny_pure (wpAny_pure ⟨rfl,q5⟩)) fun _ _ z=>z)) fun _ _ z=>z))
def CompW (J:It) (te:TE) (U:St) (Q:VK) (H1:Hp):Prop:=∃W:Nat->Nat->List V->Hp->Prop,(∃m,W 0 m [] H1)/\∀i m ys H,W i m ys H ->
 (J.stop i H/\ys.length<=sizeLine/\∀l,H l=none->Q (.ref l) (upd H l (.lst ys))) \/
 (J.go i H/\ys.length<=sizeLine/\∀z H',J.yld i H z H'->te (some z::U) H' fun y H2=>∃m',m'<m/\W (i+1) m' (ys++[y]) H2)
def zgc (wi:TI) (te:TE):TE:=fun U H Q=>wi U H fun J H1=>CompW J te U Q H1
end L2
namespace L2
open PySem PySem.Spec PyProof.Rows PySem.W
structure CompSN (sc scope:Scope) (xs:List Str):Prop where
 kind:scope.kind=.function
 ncell:∀y∈scope.names,y.2 ≠ .cell
 names:∀y∈scope.names,y.2=.local->scope.names.lookup y.1=some .local/\(y.1∈xs\/y.1 = ".0")
 free:∀y∈scope.names,y.2=.free->sc.names.lookup y.1=some .cell
def cxN (X:Cx) (scope:Scope) (cl:List (Str×Addr)) (xs:List Str) (C:Addr) (af:Shared) (aj:Hp) (fp:List Addr) (E:Value->Shared->Prop):Cx :=
 { X with N:=xs++X.N,s₀:=af,H₀:=aj,env:=compEnvC scope cl C X.env,outer:=X.stack,ex:=fp,fn:=fun _=>false,pn:=[],xe:=E }
def cxNH (X:Cx) (M:List Str) (scope:Scope) (cl:List (Str×Addr)) (xs:List Str) (C:Addr) (af:Shared) (aj:Hp) (fp:List Addr) (E:Value->Shared->Prop):Cx :=
 { X with N:=xs++M,s₀:=af,H₀:=aj,env:=compEnvC scope cl C X.env,outer:=X.stack,ex:=fp,fn:=fun _=>false,pn:=[],xe:=E }
section
variable {X:Cx}{scope:Scope}{xs:List Str}
theorem zgd (S:CompSN X.env.scope scope xs) {y:Str} (h:(relabel scope X.env).names.lookup y=some .local):y∈xs\/y = ".0" := by
 obtain ⟨k0,hm,⟨_,_,e⟩|⟨e,_⟩⟩:=wA h
 ·cases e
 ·subst e
  exact (S.names _ hm rfl).2
theorem zdv (S:CompSN X.env.scope scope xs) (hk:X.env.scope.kind=.function) {y:Str}(h:(relabel scope X.env).names.lookup y=some .cell\/(relabel scope X.env).names.lookup y=some .free):(y,NameKind.free)∈scope.names:=by
 rcases h with h|h
 ·obtain ⟨k0,hm,⟨e,_,_⟩|⟨e,_⟩⟩:=wA h
  ·subst e;exact hm
  ·subst e;exact absurd rfl (S.ncell _ hm)
 ·obtain ⟨k0,hm,⟨_,_,e⟩|⟨e,n⟩⟩:=wA h
  ·cases e
  ·subst e
   exact hm
end
def PTs (X:Cx) (ifs:List Expr) (t:TT):Prop:=∀(pins:List (Addr×Obj)) (s:Shared) (U:St) (H:Hp) (Q:Bool->Hp->Prop),Inv X pins U H s->t U H Q ->
 wpAny (model X.prog X.w) X.A (forIn ifs true fun c r=>if r=true then do let ok <-isTrue c X.env (eval c X.env);pure (ForInStep.yield ok) else pure (ForInStep.yield r)) (TP X pins U Q) X.xe s
def zbU:TT:=fun _ H Q=>Q true H
theorem zl4 {X:Cx}:PTs X [] zbU:=fun pins s U H Q I h=>wpAny_tests_nil ⟨H,I,h⟩
theorem zl5 {X:Cx}{c:Expr}{t:TT}(h:PT X c t):PTs X [c] t:=fun pins s U H Q I q=>wpAny_tests_one (h pins s U H Q I q)
theorem PTs.nox {X:Cx}{ifs:List Expr}{t:TT}(h:PTs X.nox ifs t):PTs X ifs t:=fun pins s U H Q I hw =>
 wpAny_mono (h pins s U H Q (I.wish _) hw) (fun b s' ⟨H',I',q⟩=>⟨H',I'.unwish,q⟩) fun _ _ z=>z.elim
theorem zl6 {P:Program}{wd:World}{B:Around}{Z:Result->Shared->Prop}{u0:Shared}{el tg iter:Expr}{ifs:List Expr}{sc:Scope}{ps:Pos}{iv ac:Value}{ev:Env}(J0:Nat->Shared->Prop)
  (turn:∀k u,J0 k u->wpAny (model P wd) B (pyNext iv) (fun r u1=>match r with|none=>Z (.ok .next) u1|some v=>wpAny (model P wd) B (letOwnedTupleGo tg iv v) (fun _ u2 =>
   wpAny (model P wd) B (assign tg ev v) (fun _ u3=>wpAny (model P wd) B (forIn ifs true fun c r=>if r=true then do let ok <-isTrue c ev (eval c ev);pure (ForInStep.yield ok) else pure (ForInStep.yield r)) (fun ok u4 =>
    if ok=true then wpAny (model P wd) B (eval el ev) (fun y u5=>wpAny (model P wd) B (call (.builtin "list.append") [ac,y]) (fun _ u6=>∃m,m<k/\J0 m u6)
    (notedBy (model P wd) B ev fun e u=>Z (.error e) u) u5) (notedBy (model P wd) B ev fun e u=>Z (.error e) u) u4 else ∃m,m<k/\J0 m u4) (notedBy (model P wd) B ev fun e u=>Z (.error e) u) u3) (notedBy (model P wd) B ev fun e u=>Z (.error e) u) u2) (notedBy (model P wd) B ev fun e u=>Z (.error e) u) u1)
   (notedBy (model P wd) B ev fun e u=>Z (.error e) u) u)
  (k0:Nat) (start0:J0 k0 u0):codeAny (model P wd) B (.compLoop (.ListComp el [⟨tg,iter,ifs,0⟩] sc ps) 0 iv ac ev) Z u0:=by
 refine codeAny_loop rfl J0 (fun k u hJ=>wpAny_noted (E:=fun e u=>Z (.error e) u) (env:=ev) (m:=compTurn (.ListComp el [⟨tg,iter,ifs,0⟩] sc ps) 0 iv ac ev) ?_) k0 start0
 rw [compTurn_list]
 have one:=turn k u hJ
 refine wpAny_bind (wpAny_standAt (wpAny_bind (wpAny_mono one (fun r u1 q1=>?_) fun _ _ z=>z)))
 cases r with
 | none=>exact wpAny_pure q1
 | some v =>
  refine wpAny_bind (wpAny_mono q1 (fun _ u2 q2=>wpAny_bind (wpAny_mono q2 (fun _ u3 q3=>wpAny_bind (wpAny_mono q3 (fun ok u4 q4=>?_) fun _ _ z=>z)) fun _ _ z=>z)) fun _ _ z=>z)
  cases ok with
  | true=>exact wpAny_bind (wpAny_bind (wpAny_mono q4 (fun y u4 q4=>wpAny_bind (wpAny_mono q4 (fun _ u5 q5=>wpAny_pure (wpAny_pure ⟨rfl,q5⟩)) fun _ _ z=>z)) fun _ _ z=>z))
  | false=>exact wpAny_bind (wpAny_pure (wpAny_pure ⟨rfl,q4⟩))
def CompWN (J:It) (gt:TG) (tt:TT) (te:TE) (n:Nat) (U:St) (Q:VK) (H1:Hp):Prop:=∃W:Nat->Nat->List V->Hp->Prop,(∃m,W 0 m [] H1)/\∀i m ys H,W i m ys H ->
 (J.stop i H/\ys.length<=sizeLine/\∀l,H l=none->Q (.ref l) (upd H l (.lst ys))) \/
 (J.go i H/\ys.length<=sizeLine/\∀z H',J.yld i H z H'->gt z (List.replicate n none++U) H' fun aw H1=>∃own:St,aw=own++U/\own.length=n/\tt aw H1 fun b H2 =>
  if b=true then te aw H2 fun y H3=>∃m',m'<m/\W (i+1) m' (ys++[y]) H3 else ∃m',m'<m/\W (i+1) m' ys H2)
def zdw (wi:TI) (gt:TG) (tt:TT) (te:TE) (n:Nat):TE:=fun U H Q=>wi U H fun J H1=>CompWN J gt tt te n U Q H1
theorem zge {X:Cx} {elt iter tg:Expr} {ifs:List Expr} {xs:List Str} {pos:Pos} {scope:Scope} {wi:TI} {gt:TG} {tt:TT} {te:TE} {M:List Str} (hc:X.calm=true) (S:CompSN X.env.scope scope xs) (eN:Hid scope M X.N) (hN0:((".0" : Str)::(xs++M)).Nodup)
  (hi:PI X tg iter wi) (hgt:∀cl C af aj fp E,PG (cxNH X M scope cl xs C af aj fp E) tg gt) (hif:∀cl C af aj fp,PTs (cxNH X M scope cl xs C af aj fp (fun _ _=>False)) ifs tt) (he:∀cl C af aj fp,PE (cxNH X M scope cl xs C af aj fp (fun _ _=>False)) elt te)
  (hs:∀v,foldedSetIterable iter X.env v=pure v:=by intro _;rfl):PE X (.ListComp elt [⟨tg,iter,ifs,0⟩] scope pos) (zdw wi gt tt te xs.length):=by
 intro pins s U H Q I h
 have hN:(xs++M).Nodup:=(List.nodup_cons.mp hN0).2
 have h0N:(".0" : Str)∉M:=fun z=>(List.nodup_cons.mp hN0).1 (List.mem_append_right _ z)
 obtain ⟨cl,hclos,hcl1,hcl2⟩:=zga X.env scope fun p hp hf=>I.ok.has p.1 (.inl (S.free p hp hf))
 have hkd:X.env.scope.kind=.function:=I.ok.kind
 rw [eval_ListComp]
 refine wpAny_comprehension_free (use:=none) rfl hs hclos S.kind (fun y hy hl=>(S.names y hy hl).1) ?_
 refine thn (hi pins s U H _ I h) fun v s1 h1=>thn h1 fun itv af h2=>?_
 obtain ⟨it,fp,tn,J,H2,e,I2,T,st2,f2,W,⟨m0,w0⟩,turn⟩:=h2
 subst e
 refine wpAny_newObj_type (wpAny_newFunctionEnv S.ncell (by intro y hy;simp at hy) (fun aB aF aE=>?_) S.kind)
 dsimp only at aF aE ⊢
 generalize hH2:af.heap.push { cls:=.type "list", dict:=none,data:=.seq ([]:List Value).toArray }=G2 at aF aE ⊢
 have hC:G2.objs.size=af.heap.objs.size+1:=by rw [<-hH2,Heap.size_push]
 have hDC:af.heap.objs.size≠G2.objs.size:=by rw [hC];exact Nat.ne_of_lt (Nat.lt_succ_self _)
 have hCle:af.heap.objs.size<=G2.objs.size:=by rw [hC];exact Nat.le_succ _
 have old:∀b o,af.heap.get? b=some o->aB.get? b=some o:=fun b o e=>by
  have hb:b≠G2.objs.size:=by rw [hC];exact Nat.ne_of_lt (Nat.lt_succ_of_lt (Heap.lt_size e))
  exact aE.extBut b o hb (Heap.get?_push_of_some _ (hH2▸Heap.get?_push_of_some _ e))
 have hacc:aB.get? af.heap.objs.size=some { cls:=.type "list", data:=.seq (#[]:Array Value) 0 }:=aE.extBut _ _ hDC (Heap.get?_push_of_some _ (hH2▸Heap.get?_push_size _ rfl))
 generalize hD:af.heap.objs.size=D at *
 generalize hCC:G2.objs.size=C at *
 have ltS:∀{b:Nat} {o:Obj},af.heap.get? b=some o->b<D:=fun e=>by rw [<-hD];exact Heap.lt_size e
 have nofr:∀b,D<=b->b∉frs X.stack:=fun b hb z=>by
  rcases List.mem_cons.mp (I2.stkSub b z) with q|q
  ·exact ar1 I2.lt hD hb q
  ·exact I2.nofs (by rw [hD];exact hb) q
 let E':Value->Shared->Prop:=notedBy (model X.prog X.w) X.A (compEnvC scope cl C X.env) fun e s'=>compPost (model X.prog X.w) X.A X.xe none (EP X pins U Q) (.ref D) C (.error e) s'
 let Y:Cx:=cxNH X M scope cl xs C af H2 fp E'
 have fpX:∀b∈fp,FpOk X pins H2 b:=f2
 have okY:Y.Ok:=by
  refine ⟨I2.ok.mod,S.kind,I2.ok.glob,I2.ok.blt,(by show af.heap.objs.size<=C;omega),fun y z c h1 h2=>?_,fun y hy=>?_,fun y c hf=>?_,I2.ok.hd,I2.ok.frames,.inl rfl,fun b hb=>?_,I2.bs,Nat.le_trans I2.ok.bsz I2.sz,fun b o hb hx=>?_,fun b hb hx=>?_,I2.stack,I2.stkFree⟩
  ·exact I2.ok.inj y z c (hcl1 y c h1) (hcl1 z c h2)
  ·exact hcl2 y (zdv S hkd hy)
  ·cases hf
  ·refine ⟨fun z=>?_,fun y c hy=>(fpX b hb).2.2.2.2.1 y c (hcl1 y c hy)⟩
   obtain ⟨o,ho,_⟩:=T.obj 0 _ st2 b hb
   exact wS (ltS ho) hC z
  ·rcases (fpX b hx).2.2.2.1 with z|z
   ·exact I2.ok.noex b o hb z
   ·exact ar3 (Heap.lt_size hb) I2.ok.bsz z
  ·rcases List.mem_cons.mp (I2.stkSub b hx) with q|q
   ·exact (fpX b hb).2.1 q
   ·exact (fpX b hb).2.2.1 q
 have hpinD:∀{s':Shared} {H':Hp} {o:Obj},s'.heap.get? D=some o->H' D=none->(∀v,o.data ≠ .cell v)->∀p∈[(D,o)],s'.heap.get? p.1=some p.2/\H' p.1=none/\p.1≠Y.env.locals/\p.1∉Y.fs/\∀v,p.2.data ≠ .cell v:=fun {s' H' o} e1 e2 e3 p hp=>by
  have ep:p=(D,o):=by simpa using hp
  subst ep
  exact ⟨e1,e2,hDC,nofr D (Nat.le_refl _),e3⟩
 have I0:Inv Y [(D,{ cls:=.type "list", data:=.seq (#[]:Array Value) 0 })] (List.replicate xs.length none++U) H2 { af with heap:=aB,toks:=af.toks+([]:List (Str×Value)).length }:=by
  have fresh:∀b,D<=b->H2 b=none:=fun b hb=>I2.hok.fresh (by rw [hD];exact hb)
  refine ⟨okY,rfl,I2.bare,Un.kept old,⟨_,aF,fun i y v e1 e2 e3=>?_⟩,fun y c hy=>?_,fresh C (by omega),fun y c hy=>I2.freeC y c (hcl1 y c hy),fun p hp=>hpinD hacc (fresh D (Nat.le_refl _)) (fun v z=>by cases z) p hp,I2.hok.kept old,?_⟩
  ·by_cases hlt:i<xs.length
   ·rw [List.getElem?_append_left (by simpa using hlt),List.getElem?_replicate] at e2
    simp [hlt] at e2
   ·obtain ⟨j,rfl⟩:∃j,i=xs.length+j:=⟨i-xs.length,by omega⟩
    have e0':M[j]?=some y:=by
     have:(xs++M)[xs.length+j]?=some y:=e1
     rw [List.getElem?_append_right (by omega)] at this
     simpa using this
    have e1':X.N[j]?=some y:=by
     rcases eN.get e0' with q|q
     ·exact q
     ·refine absurd ?_ q
      rcases e3 with e3|e3|e3<;>(obtain ⟨k0,hm,_⟩:=wA e3;exact List.mem_map.mpr ⟨_,hm,rfl⟩)
    have e2':U[j]?=some (some v):=by
     rw [List.getElem?_append_right (by simp)] at e2
     simpa using e2
    have hyx:¬(y∈xs\/y = ".0"):=fun z=>by
     have hm:=List.mem_of_getElem? e0'
     rcases z with z|z
     ·exact (List.nodup_append.mp hN).2.2 y z y hm rfl
     ·rw [z] at hm
      exact h0N hm
    have hfr:(y,NameKind.free)∈scope.names:=by
     rcases e3 with e3|e3|e3
     ·exact absurd (zgd S e3) hyx
     ·exact zdv S hkd (.inl e3)
     ·exact zdv S hkd (.inr e3)
    have hkc:X.env.scope.names.lookup y=some .cell:=S.free _ hfr rfl
    obtain ⟨m,hn,hl⟩:=I2.loc
    obtain ⟨u,r,l⟩:=hl j y v e1' e2' (.inr (.inl hkc))
    refine ⟨u,r,?_⟩
    rcases l with ⟨hk,_⟩|⟨_,c,hcc,hcell⟩
    ·have:X.env.kindOf y=some .cell:=hkc
     rw [this] at hk;cases hk
    ·obtain ⟨c',hc'⟩:=hcl2 y hfr
     have:=hcl1 y c' hc'
     rw [hcc] at this
     cases this
     refine .inr ⟨?_,c,hc',?_⟩
     ·rcases e3 with e3|e3|e3
      ·exact absurd (zgd S e3) hyx
      ·exact .inl e3
      ·exact .inr e3
     ·obtain ⟨o,ho,hd⟩:=hcell
      exact ⟨o,old c o ho,hd⟩
  ·obtain ⟨v,o,ho,hd⟩:=I2.cell y c (hcl1 y c hy)
   exact ⟨v,o,old c o ho,hd⟩
  ·show (List.replicate xs.length none++U).length=(xs++M).length
   simp [I2.len,eN.1]
 have fpY:∀{pl:List (Addr×Obj)} {H':Hp},(∀p∈pl,p.1=D)->(∀b∈fp,H' b=none)->∀b∈fp,FpOk Y pl H' b:=fun {pl H'} hpl hn b hb=>by
  obtain ⟨o,ho,_⟩:=T.obj 0 _ st2 b hb
  refine ⟨hn b hb,fun z=>?_,?_,.inl hb,(okY.exf b hb).2,fun p hp z=>?_⟩
  ·exact wS (ltS ho) hC z
  ·exact okY.exfs b hb
  ·have hp':p∈pl:=by simpa [Y,cxNH] using hp
   exact ar4 (ltS ho) (hpl p hp') z
 have loop:codeAny (model X.prog X.w) X.A (.compLoop (.ListComp elt [⟨tg,iter,ifs,0⟩] scope pos) 0 (.ref it) (.ref D) (compEnvC scope cl C X.env))
   (compPost (model X.prog X.w) X.A X.xe none (EP X pins U Q) (.ref D) C) { af with heap:=aB,toks:=af.toks+([]:List (Str×Value)).length }:=by
  refine zl6 (fun n s'=>∃i ys H' its k,Inv Y [(D,{ cls:=.type "list", data:=.seq (its:List Value).toArray k })] (List.replicate xs.length none++U) H' s'/\Vals ys its/\tn i s'.heap/\(∀b∈fp,H' b=none)/\W i n ys H') ?_ m0
   ⟨0,[],H2,[],0,I0,.nil,T.keep 0 _ _ st2 (fun b hb o e=>old b o e),fun b hb=>(fpX b hb).1,w0⟩
  rintro n s3 ⟨i,ys,H3,its,k,I3,rv,st3,fr3,w3⟩
  have pinl:∀{o:Obj},∀p∈[(D,o)],p.1=D:=fun {o} p hp=>by
   have ep:p=(D,o):=by simpa using hp
   rw [ep]
  obtain ⟨gD,nD,_,_,_⟩:=I3.pin (D,_) (List.mem_append_right _ List.mem_cons_self)
  rcases turn i n ys H3 w3 with ⟨stop,hz,q⟩|⟨go,hz,step⟩
  ·refine thn (T.done Y rfl rfl rfl hc i _ s3 _ H3 E' I3 (fpY pinl fr3) st3 stop) fun r s4 ⟨hr,I4⟩=>?_
   subst hr
   obtain ⟨gD4,nD4,_,_,_⟩:=I4.pin (D,_) (List.mem_append_right _ List.mem_cons_self)
   obtain ⟨m4,hn4,_⟩:=id I4.loc
   refine ⟨m4,hn4,fun h' hsb=>?_⟩
   refine ⟨.ref D,upd H3 D (.lst ys),?_,rfl,q D nD4⟩
   have neC:∀{b:Addr} {u:HO},H3 b=some u->b≠C:=fun e z=>by
    have:H3 C=none:=I4.free
    rw [z,this] at e;cases e
   refine I2.call' (s':={ s4 with heap:=h' }) (ch:=fp) (H':=upd H3 D (.lst ys)) I4.os ?_ ?_ I4.bare fun b hb=>⟨(fpX b hb).2.2.2.1,(fpX b hb).2.1,(fpX b hb).2.2.2.2.1,(fpX b hb).2.2.2.2.2⟩
   ·have B:=I4.base
    have ltC:∀{b:Nat} {o:Obj},af.heap.get? b=some o->b≠C:=fun e z=>wS (ltS e) hC z
    have neD:∀{b:Addr} {u:HO},H3 b=some u->b≠D:=fun e z=>by rw [z,nD4] at e;cases e
    refine ⟨fun b o e nn hb hx=>(hsb.2 b (ltC e)).trans (B.keep b o e nn hb hx),fun b o e nn hb hx=>?_,fun b o e nn hx=>?_,fun b o e hx=>?_,fun b xs e=>?_,fun b o u e=>?_,fun b ps e=>?_⟩
    ·obtain ⟨sl,z⟩:=B.slot b o e nn hb hx
     exact ⟨sl,(hsb.2 b (ltC e)).trans z⟩
    ·have hbD:b≠D:=Nat.ne_of_lt (ltS e)
     rw [zG hbD]
     exact B.free b o e nn hx
    ·obtain ⟨o',z⟩:=B.there b o e hx
     exact ⟨o',(hsb.2 b (ltC e)).trans z⟩
    ·have z:=B.tups b xs e
     rw [zG (neD z)];exact z
    ·have z:=B.frzs b o u e
     rw [zG (neD z)];exact z
    ·obtain ⟨more,z⟩:=B.tbls b ps e
     exact ⟨more,by rw [zG (neD z)];exact z⟩
   ·intro a o e
    by_cases ha:a=D
    ·subst ha
     rw [yp] at e
     cases e
     exact ⟨hz,its,k,rv,(hsb.2 _ hDC).trans gD4⟩
    ·rw [zG ha] at e
     have keepNe:∀b u,H3 b=some u->(upd H3 D (.lst ys)) b=some u:=fun b u z=>by
      have hb:b≠D:=fun w=>by rw [w,nD4] at z;cases z
      rw [zG hb];exact z
     refine (I4.hok a o e).stay (fun b u hb z=>(hsb.2 b ?_).trans z) (fun b z=>keepNe b _ z) fun b xs z=>keepNe b _ z
     rcases hb with hb|hb
     ·rw [hb];exact neC e
     ·exact neC hb
  ·refine thn (T.item Y rfl rfl rfl hc i _ s3 _ H3 E' I3 (fpY pinl fr3) st3 go) fun r s4 ⟨u,hr,h4⟩=>?_
   subst hr
   refine thn h4 fun _ s5 ⟨z,H5,I5,r5,y5,st5,fr5⟩=>?_
   have I5':=I5.pinned (fpY pinl fr5) (T.obj _ _ st5)
   have pgx:PG Y tg gt:=hgt cl C af H2 fp E'
   have peY:PE Y elt te:=PE.nox (X:=Y) (he cl C af H2 fp)
   have ptY:PTs Y ifs tt:=PTs.nox (X:=Y) (hif cl C af H2 fp)
   refine thn (pgx _ s5 (List.replicate xs.length none++U) H5 z u _ I5' r5 (step z _ y5)) fun _ s6 ⟨aI,H6,I6,own,e1,e2,q6⟩=>?_
   subst e1
   have wk:∀(j:Nat) v,(List.replicate xs.length none++U)[j]?=some (some v)->(own++U)[j]?=some (some v):=fun j v e=>by
    by_cases hlt:j<xs.length
    ·rw [List.getElem?_append_left (by simpa using hlt),List.getElem?_replicate] at e
     simp [hlt] at e
    ·rw [List.getElem?_append_right (by simp;omega)] at e
     rw [List.getElem?_append_right (by omega),e2]
     simpa using e
   have wl:(List.replicate xs.length none++U).length=(own++U).length:=by simp [e2]
   refine thn (ptY _ s6 _ _ _ I6 q6) fun b s7 ⟨H7,I7,q7⟩=>?_
   cases b with
   | true =>
    refine thn (peY _ s7 _ _ _ I7 q7) fun uy s7 ⟨y,H7,I7,ry,m',hm,w7⟩=>?_
    obtain ⟨gD7,nD7,_,_,_⟩:=I7.pin (D,_) (List.mem_append_right _ (List.mem_append_left _ List.mem_cons_self))
    refine wpAny_list_append_plain ⟨k,gD7⟩ (fun h' hpl hsb=>?_) (by rw [List.size_toArray,<-rv.length];exact hz)
    obtain ⟨k',gD'⟩:=hpl
    have I8:Inv Y [] (own++U) H7 { s7 with heap:=h' }:=(I7.pins_of (pins':=[]) (fun p hp=>nomatch hp)).turned (it:=D) (t':=s7.toks) (fun b o hb e=>(hsb.2 b hb).trans e) nD7 hDC
     (.inr (by show af.heap.objs.size<=D;omega)) (fun a c hy hz'=>by
      obtain ⟨v',o',ho',_⟩:=I2.cell a c (hcl1 a c hy)
      exact Nat.ne_of_lt (ltS ho') hz') (fun p hp=>by simp [Y,cxNH] at hp)
    have I9:Inv Y [] (List.replicate xs.length none++U) H7 { s7 with heap:=h' }:=I8.weak wl wk
    have pinOf:∀b∈fp,∃o,s5.heap.get? b=some o/\s7.heap.get? b=some o/\H7 b=none:=fun b hb=>by
     obtain ⟨o,e,_⟩:=T.obj _ _ st5 b hb
     have q:=I7.pin (b,o) (List.mem_append_right _ (List.mem_append_right _ (zaT hb e)))
     exact ⟨o,e,q.1,q.2.1⟩
    have fpD:∀b∈fp,b≠D:=fun b hb=>by
     obtain ⟨o,ho,_⟩:=T.obj 0 _ st2 b hb
     exact Nat.ne_of_lt (ltS ho)
    have eT:its.toArray.push uy=(its++[uy]).toArray:=by simp
    rw [eT] at gD'
    refine ⟨m',hm,i+1,ys++[y],H7,its++[uy],k',I9.pins_of (hpinD gD' nD7 fun v e=>by cases e),rv.append (.cons ry .nil),T.keep (i+1) _ _ st5 fun b hb o e=>?_,fun b hb=>?_,w7⟩
    ·obtain ⟨o',e1,e2,_⟩:=pinOf b hb
     rw [e] at e1
     cases e1
     exact (hsb.2 b (fpD b hb)).trans e2
    ·obtain ⟨_,_,_,q⟩:=pinOf b hb
     exact q
   | false =>
    obtain ⟨m',hm,w7⟩:=q7
    obtain ⟨gD7,nD7,_,_,_⟩:=I7.pin (D,_) (List.mem_append_right _ (List.mem_append_left _ List.mem_cons_self))
    have I9:Inv Y [] (List.replicate xs.length none++U) H7 s7:=(I7.pins_of (pins':=[]) (fun p hp=>nomatch hp)).weak wl wk
    have pinOf:∀b∈fp,∃o,s5.heap.get? b=some o/\s7.heap.get? b=some o/\H7 b=none:=fun b hb=>by
     obtain ⟨o,e,_⟩:=T.obj _ _ st5 b hb
     have q:=I7.pin (b,o) (List.mem_append_right _ (List.mem_append_right _ (zaT hb e)))
     exact ⟨o,e,q.1,q.2.1⟩
    refine ⟨m',hm,i+1,ys,H7,its,k,I9.pins_of (hpinD gD7 nD7 fun v e=>by cases e),rv,T.keep (i+1) _ _ st5 fun b hb o e=>?_,fun b hb=>?_,w7⟩
    ·obtain ⟨o',e1,e2,_⟩:=pinOf b hb
     rw [e] at e1
     cases e1
     exact e2
    ·obtain ⟨_,_,_,q⟩:=pinOf b hb
     exact q
 exact codeAny_compStart_list loop (T.self X.A 0 _ _ _ (T.keep 0 _ _ st2 (fun b hb o e=>old b o e)) loop)
theorem zl7 {X:Cx} {elt iter tg:Expr} {ifs:List Expr} {xs:List Str} {pos:Pos} {scope:Scope} {wi:TI} {gt:TG} {tt:TT} {te:TE} {N:List Str} (hc:X.calm=true) (S:CompSN X.env.scope scope xs) (eN:X.N=N) (hN0:((".0" : Str)::(xs++N)).Nodup)
  (hi:PI X tg iter wi) (hgt:∀cl C af aj fp E,PG (cxN X scope cl xs C af aj fp E) tg gt) (hif:∀cl C af aj fp,PTs (cxN X scope cl xs C af aj fp (fun _ _=>False)) ifs tt) (he:∀cl C af aj fp,PE (cxN X scope cl xs C af aj fp (fun _ _=>False)) elt te)
  (hs:∀v,foldedSetIterable iter X.env v=pure v:=by intro _;rfl):PE X (.ListComp elt [⟨tg,iter,ifs,0⟩] scope pos) (zdw wi gt tt te xs.length) :=
 zge (M:=X.N) hc S Hid.refl (by rw [eN];exact hN0) hi hgt hif he hs
theorem zl8 {X:Cx} {elt iter:Expr} {x:Str} {px pos:Pos} {scope:Scope} {wi:TI} {te:TE} {M:List Str} (hc:X.calm=true) (S:CompSc X.env.scope scope x) (eN:Hid scope M X.N) (hN0:((".0" : Str)::x::M).Nodup)
  (hi:PI X (.Name x px) iter wi) (he:∀cl C af aj fp,PE (cxH X M scope cl x C af aj fp (fun _ _=>False)) elt te)
  (hs:∀v,foldedSetIterable iter X.env v=pure v:=by intro _;rfl):PE X (.ListComp elt [⟨.Name x px,iter,[],0⟩] scope pos) (zgc wi te):=by
 have hN:([x]++M).Nodup:=(List.nodup_cons.mp hN0).2
 have S':CompSN X.env.scope scope [x]:=⟨S.kind,S.ncell,fun y hy h=>⟨(S.names y hy h).1,(S.names y hy h).2.imp (fun e=>by rw [e];exact List.mem_singleton_self _) id⟩,S.free⟩
 have pgx:∀cl C af aj fp E,PG (cxNH X M scope cl [x] C af aj fp E) (.Name x px) (wx 0):=fun cl C af aj fp E=>zal (X:=cxNH X M scope cl [x] C af aj fp E) (i:=0) hN rfl (.inl (lookup_relabel_local S.hx)) (.inr (lookup_relabel_local S.hx))
 have e:∀U Q,(fun J H1=>CompW J te U Q H1)=fun J H1=>CompWN J (wx 0) zbU te 1 U Q H1:=fun U Q=>by
  funext J H1
  exact propext (exists_congr fun W=>and_congr Iff.rfl (forall_congr' fun i=>forall_congr' fun m=>forall_congr' fun ys=>forall_congr' fun H=>imp_congr Iff.rfl (or_congr Iff.rfl (and_congr Iff.rfl (and_congr Iff.rfl (forall_congr' fun z=>forall_congr' fun H'=>imp_congr Iff.rfl
   ⟨fun h=>⟨[some z],rfl,rfl,h⟩,fun ⟨_,_,_,h⟩=>h⟩))))))
 intro pins s U H Q I h
 refine zge (te:=te) (tt:=zbU) hc S' eN hN0 hi pgx (fun cl C af aj fp=>zl4) (fun cl C af aj fp=>he cl C af aj fp) hs pins s U H Q I ?_
 show wi U H fun J H1=>CompWN J (wx 0) zbU te 1 U Q H1
 rw [<-e]
 exact h
end L2
namespace L2
open PySem PySem.Spec PyProof.Rows
def Its (z:Str):It:=⟨fun i _=>i<z.cps.size,fun i H v H'=>H'=H/\∃c,z.cps[i]?=some c/\v=.str ⟨#[c]⟩,fun i _=>z.cps.size<=i⟩
theorem zgf {P:Program} {w:World} {K:PySem.W.Frag} {tg:Expr} (z:Str) (t:Tok) (it:Addr) (ty:String) (hty:ty = "str_ascii_iterator" \/ ty = "str_iterator"):Turn P w K tg (Its z) [it] it (fun i h=>h.IsStrIter it ty z t i) where
 mem:=by simp
 obj:=fun i h st b hb=>by
  have e:b=it:=by simpa using hb
  subst e
  obtain ⟨o,e,c,d⟩:=st
  exact ⟨o,e,fun v z=>by rw [d] at z;cases z⟩
 keep:=fun i h h' st k=>by
  obtain ⟨o,e,r⟩:=st
  exact ⟨o,k it (by simp) o e,r⟩
 item:=by
  intro X hP hw hK hc i pins s U H E I hf st hg
  subst hP hw hK
  obtain ⟨f0,f1,f2,f3,f4,f5⟩:=hf it (by simp)
  have W:Walks X.prog X.w X.A it [it] [it] z.cps.size (SignAt z) (fun i h=>h.IsStrIter it ty z t i):=by
   rcases hty with e|e
   ·rw [e];exact Walks.strAscii (I.ok.hd hc) it z t
   ·rw [e];exact Walks.strWide (I.ok.hd hc) it z t
  refine W.item i s _ _ hg st fun v h' tk hv st' kk=>?_
  obtain ⟨c,u,hcx,rfl⟩:=hv
  have I1:Inv X pins U H { s with heap:=h',toks:=tk }:=I.turned (fun b o hb e=>kk b o (by simpa using hb) e) f0 f1 f3 f4 f5
  obtain ⟨o,e,cc,d⟩:=id st'
  exact ⟨_,rfl,zaS (s:={ s with heap:=h',toks:=tk }) e cc d (by rcases hty with e|e<;>rw [e]<;>decide) ⟨.str ⟨#[c]⟩,H,I1,⟨u,rfl⟩,⟨rfl,c,hcx,rfl⟩,st',fun b hb=>(hf b hb).1⟩⟩
 done:=by
  intro X hP hw hK hc i pins s U H E I hf st hg
  subst hP hw hK
  obtain ⟨f0,f1,f2,f3,f4,f5⟩:=hf it (by simp)
  have hn:z.cps[i]?=none:=by
   have hg':z.cps.size<=i:=hg
   simpa using hg'
  rcases hty with e|e
  ·rw [e] at st
   exact wpAny_pyNext_ascii_end (I.ok.hd hc) st hn fun h' eb=>⟨rfl,I.turned (t':=s.toks) (fun b o hb e=>eb b o hb e) f0 f1 f3 f4 f5⟩
  ·rw [e] at st
   exact wpAny_pyNext_wide_end (I.ok.hd hc) st hn fun h' eb=>⟨rfl,I.turned (t':=s.toks) (fun b o hb e=>eb b o hb e) f0 f1 f3 f4 f5⟩
 self:=fun A i s Q E st h=>by
  rcases hty with e|e
  ·rw [e] at st;exact wpAny_pyIter_striter_ascii st h
  ·rw [e] at st;exact wpAny_pyIter_striter_wide st h
section
variable {X:Cx}
theorem zl9:SlR X (fun x lo hi H Q=>∃z,x=.str z/\z.length<=sizeLine/\Q (.str (Txt.slice z lo hi)) H):=by
 intro pins s U H x v vl vu lo hi sl Q I rx hs pl pu h
 obtain ⟨z,rfl,hz,q⟩:=h
 obtain ⟨t,rfl⟩:=rx
 refine ⟨"str", _,F.slot_str_getitem.lookup,typeIs_str _ _ _,?_⟩
 have fin:∀t' k,EP X pins U Q (.str (Txt.slice z lo hi) t') { s with toks:=k }:=fun t' k=>⟨.str _,H,I.tok _,⟨_,rfl⟩,q⟩
 cases pl with
 | none =>
  cases pu with
  | none=>exact wpAny_getItem_str_slice (l:=none) (u:=none) (st:=none) hs rfl (post_val_or_str ⟨Nat.le_trans (Txt.slice_le z _ _) hz,fin⟩)
  | int j uj=>exact wpAny_getItem_str_slice (l:=none) (u:=some (j,uj)) (st:=none) hs rfl (post_val_or_str ⟨Nat.le_trans (Txt.slice_le z _ _) hz,fin⟩)
 | int i ui =>
  cases pu with
  | none=>exact wpAny_getItem_str_slice (l:=some (i,ui)) (u:=none) (st:=none) hs rfl (post_val_or_str ⟨Nat.le_trans (Txt.slice_le z _ _) hz,fin⟩)
  | int j uj=>exact wpAny_getItem_str_slice (l:=some (i,ui)) (u:=some (j,uj)) (st:=none) hs rfl (post_val_or_str ⟨Nat.le_trans (Txt.slice_le z _ _) hz,fin⟩)
theorem vals_strs:∀{ys:List Str}{us:List Value},Vals (ys.map V.str) us->StrsAre us ys
 | [],us,r=>by rw [List.map_nil] at r;cases r;exact .nil
 | y::ys,us,r=>by
  rw [List.map_cons] at r
  cases r with
  | cons r1 r2 =>
   obtain ⟨t,e⟩:=r1
   subst e
   exact .cons y t (vals_strs r2)
theorem zma:OpR X (compareOp .In) (fun x y H Q=>∃(c:Nat) (z:Str),x=.str ⟨#[c]⟩/\y=.str z/\Q (.bl (decide (c∈z.cps.toList))) H):=by
 intro pins s U H x y v u Q I rx ry h
 obtain ⟨c,z,rfl,rfl,q⟩:=h
 refine zkS pins s U H _ _ v u Q I rx ry ⟨_,_,rfl,rfl,?_⟩
 rw [StrLaws.found_one]
 exact q
end
section
variable {κ:Type} [DecidableEq κ]
def valV (kvs:List (κ×V)) (k:κ):Option V:=(kvs.find? fun kv=>decide (kv.1=k)).map (·.2)
def putK (kvs:List (κ×V)) (k:κ) (v:V):List (κ×V) :=
 if (kvs.any fun kv=>decide (kv.1=k))=true then kvs.map (fun kv=>if kv.1=k then (kv.1,v) else kv) else kvs++[(k,v)]
theorem zbV {p:κ×V}{r:List (κ×V)}{k:κ}(e:p.1=k):valV (p::r) k=some p.2:=by simp [valV,List.find?_cons,e]
theorem zbW {p:κ×V}{r:List (κ×V)}{k:κ}(e:¬p.1=k):valV (p::r) k=valV r k:=by simp [valV,List.find?_cons,e]
theorem zgg (k:κ):∀kvs:List (κ×V),(kvs.any fun kv=>decide (kv.1=k))=(valV kvs k).isSome
 | []=>rfl
 | p::r=>by
  rw [List.any_cons]
  by_cases e:p.1=k
  ·simp only [zbV e,decide_eq_true e,Bool.true_or,Option.isSome_some]
  ·rw [zbW e,decide_eq_false e,Bool.false_or];exact zgg k r
theorem zgh (kvs:List (κ×V)) (k:κ) (v:V):(putK kvs k v).length<=kvs.length+1:=by
 unfold putK
 split
 ·rw [List.length_map];omega
 ·rw [List.length_append,List.length_cons,List.length_nil];omega
theorem RelO.isSome_eq {o:Option V}{u:Option Value}(r:RelO o u):o.isSome=u.isSome:=by
 cases o with
 | none=>cases u with
  | none=>rfl
  | some _=>exact (show False from r).elim
 | some _=>cases u with
  | none=>exact (show False from r).elim
  | some _=>rfl
theorem KV.val {kvs:List (κ×V)}{vs:List (κ×Value)}(r:KV kvs vs) (k:κ):RelO (valV kvs k) (valueAt vs k):=by
 unfold KV at r
 induction r with
 | nil=>exact True.intro
 | @cons p q ps qs h t ih =>
  obtain ⟨h1,h2⟩:=h
  by_cases e:p.1=k
  ·have e':q.1=k:=h1.symm.trans e
   have b:valueAt (q::qs) k=some q.2:=by simp [valueAt,List.find?_cons,e']
   rw [zbV e,b];exact h2
  ·have e':¬q.1=k:=fun z=>e (h1.trans z)
   have b:valueAt (q::qs) k=valueAt qs k:=by simp [valueAt,List.find?_cons,e']
   rw [zbW e,b];exact ih
theorem KV.any {kvs:List (κ×V)}{vs:List (κ×Value)}(r:KV kvs vs) (k:κ):(kvs.any fun kv=>decide (kv.1=k))=vs.any fun kv=>decide (kv.1=k):=by
 unfold KV at r
 induction r with
 | nil=>rfl
 | cons h t ih=>rw [List.any_cons,List.any_cons,ih,h.1]
theorem KV.repl {kvs:List (κ×V)}{vs:List (κ×Value)}(r:KV kvs vs) (k:κ) {y:V}{u:Value}(ry:RelV y u) :
  KV (kvs.map fun kv=>if kv.1=k then (kv.1,y) else kv) (vs.map fun kv=>if kv.1=k then (kv.1,u) else kv):=by
 unfold KV at r ⊢
 induction r with
 | nil=>exact .nil
 | @cons p q ps qs h t ih =>
  rw [List.map_cons,List.map_cons]
  refine .cons ?_ ih
  obtain ⟨h1,h2⟩:=h
  by_cases e:p.1=k
  ·rw [if_pos e,if_pos (h1.symm.trans e)];exact ⟨h1,ry⟩
  ·rw [if_neg e,if_neg (fun z=>e (h1.trans z))];exact ⟨h1,h2⟩
theorem KV.put {kvs:List (κ×V)}{vs:List (κ×Value)}(r:KV kvs vs) (k:κ) {y:V}{u:Value}(ry:RelV y u):KV (putK kvs k y) (stored vs k u):=by
 unfold putK stored
 rw [r.any k]
 by_cases e:(vs.any fun kv=>decide (kv.1=k))=true
 ·rw [if_pos e,if_pos e];exact r.repl k ry
 ·rw [if_neg e,if_neg e];exact Paired.snoc r ⟨rfl,ry⟩
theorem KV.keys {kvs:List (κ×V)}{vs:List (κ×Value)}(r:KV kvs vs):kvs.map (·.1)=vs.map (·.1):=by
 unfold KV at r
 induction r with
 | nil=>rfl
 | cons h t ih=>rw [List.map_cons,List.map_cons,ih,h.1]
theorem KV.length {kvs:List (κ×V)}{vs:List (κ×Value)}(r:KV kvs vs):kvs.length=vs.length:=Paired.length r
end
theorem zaV {P:Program}{w:World}{k:Key}{u:Value}(r:RelV (kV k) u):(mixKind P w).is k u=true:=by
 cases k with
 | inl i=>obtain ⟨t,e⟩:=(show ∃t,u=Value.int i t from r);subst e;exact zjK P w i t
 | inr x=>obtain ⟨t,e⟩:=(show ∃t,u=Value.str x t from r);subst e;exact zjL P w x t
theorem zgi {P:Program}{w:World}:∀{ks:List Key}{us:List Value},Vals (ks.map kV) us->ItemsAre (mixKind P w) ks us
 | [],_,r=>by rw [List.map_nil] at r;cases r;exact .nil
 | k::ks,_,r=>by
  rw [List.map_cons] at r
  cases r with
  | cons h t=>exact .cons (zaV h) (zgi t)
abbrev KT (H:Hp):List (List Key×V)->List (List Key×Addr×Value)->Prop:=Paired fun p q=>p.1=q.1/\H q.2.1=some (.tup (p.1.map kV))/\RelV p.2 q.2.2
theorem KT.val {H:Hp}{kvs:List (List Key×V)}{xs:List (List Key×Addr×Value)}(r:KT H kvs xs) (k:List Key):RelO (valV kvs k) ((atKey xs k).map (·.2)):=by
 induction r with
 | nil=>exact True.intro
 | @cons p q ps qs h t ih =>
  obtain ⟨h1,_,h2⟩:=h
  by_cases e:p.1=k
  ·have e':q.1=k:=h1.symm.trans e
   have b:atKey (q::qs) k=some q.2:=by simp [atKey,List.find?_cons,e']
   rw [zbV e,b];exact h2
  ·have e':¬q.1=k:=fun z=>e (h1.trans z)
   have b:atKey (q::qs) k=atKey qs k:=by simp [atKey,List.find?_cons,e']
   rw [zbW e,b];exact ih
theorem KT.repl {H:Hp}{kvs:List (List Key×V)}{xs:List (List Key×Addr×Value)}(r:KT H kvs xs) (k:List Key) {y:V}{u:Value}(ry:RelV y u) :
  KT H (kvs.map fun kv=>if kv.1=k then (kv.1,y) else kv) (xs.map (putAt k u)):=by
 induction r with
 | nil=>exact .nil
 | @cons p q ps qs h t ih =>
  rw [List.map_cons,List.map_cons]
  refine .cons ?_ ih
  obtain ⟨h1,h2,h3⟩:=h
  unfold putAt
  by_cases e:p.1=k
  ·rw [if_pos e,if_pos (h1.symm.trans e)];exact ⟨h1,h2,ry⟩
  ·rw [if_neg e,if_neg (fun z=>e (h1.trans z))];exact ⟨h1,h2,h3⟩
theorem KT.put {H:Hp}{kvs:List (List Key×V)}{xs:List (List Key×Addr×Value)}(r:KT H kvs xs) (k:List Key) {b:Addr}{y:V}{u:Value}(hb:H b=some (.tup (k.map kV))) (ry:RelV y u) :
  KT H (putK kvs k y) (storedH xs k b u):=by
 have e:(kvs.any fun kv=>decide (kv.1=k))=(atKey xs k).isSome:=by
  rw [zgg,(r.val k).isSome_eq,Option.isSome_map]
 unfold putK storedH
 rw [e]
 by_cases q:(atKey xs k).isSome=true
 ·rw [if_pos q,if_pos q];exact r.repl k ry
 ·rw [if_neg q,if_neg q];exact Paired.snoc r ⟨rfl,hb,ry⟩
theorem KT.keeps {H H':Hp}{kvs:List (List Key×V)}{xs:List (List Key×Addr×Value)}(r:KT H kvs xs) (ht:∀b ys,H b=some (.tup ys)->H' b=some (.tup ys)):KT H' kvs xs :=
 Paired.mapP r fun _ _ z=>⟨z.1,ht _ _ z.2.1,z.2.2⟩
section
variable {P:Program}{w:World}{H:Hp}{h:Heap}{a:Addr}
theorem zgj {u:HO}(ok:HOk P w H h) (e:Rd H a u):ObjOk P w H h a u:=e.ok ok
theorem yT {kvs:List (Key×V)}(ok:HOk P w H h) (e:Rd H a (.dK kvs)):kvs.length<=sizeLine/\(a==sysModules)=false/\∃vs,KV kvs vs/\h.DictOf (mixKind P w) a vs :=
 show ObjOk P w H h a (.dK kvs) from zgj ok e
theorem zgk {kvs:List (Key×V)}(ok:HOk P w H h) (e:H a=some (.dK kvs)):kvs.length<=sizeLine/\(a==sysModules)=false/\∃vs,KV kvs vs/\h.DictOf (mixKind P w) a vs:=yT ok (.inl e)
theorem zaW {ks:List Key}(ok:HOk P w H h) (e:H a=some (.tup (ks.map kV))):(tupleKind (mixKind P w)).is h ks a:=by
 obtain ⟨_,its,r,o,h1,h2,n,h3⟩:=(show ObjOk P w H h a (.tup (ks.map kV)) from ok a _ e)
 exact ⟨o,its.toArray,n,h1,h2,h3,by simpa using zgi r⟩
theorem zaX {kvs:List (List Key×V)}(ok:HOk P w H h) (e:Rd H a (.dT kvs)):kvs.length<=sizeLine/\(a==sysModules)=false /\
  ∃xs,KT H kvs xs/\h.DictOfH (tupleKind (mixKind P w)) a xs:=by
 obtain ⟨z,y,xs,r,o,es,ep,h1,h2,h3,h4,h5⟩:=(show ObjOk P w H h a (.dT kvs) from zgj ok e)
 refine ⟨z,y,xs,r,o,es,ep,h1,h2,h3,h4,fun x hx=>?_,h5⟩
 have all:∀{l:List (List Key×V)} {m:List (List Key×Addr×Value)},KT H l m->∀x∈m,(tupleKind (mixKind P w)).is h x.1 x.2.1:=by
  intro l m q
  induction q with
  | nil=>intro x hx;exact nomatch hx
  | @cons p q ps qs hq t ih =>
   intro x hx
   rcases List.mem_cons.mp hx with e|hx
   ·subst e
    exact zaW ok (by rw [<-hq.1];exact hq.2.1)
   ·exact ih x hx
 exact all r x hx
theorem zmb {kvs:List (List Key×V)}(ok:HOk P w H h) (e:H a=some (.dT kvs)):kvs.length<=sizeLine/\(a==sysModules)=false /\
  ∃xs,KT H kvs xs/\h.DictOfH (tupleKind (mixKind P w)) a xs:=zaX ok (.inl e)
end
def DGet (H:Hp) (a:Addr) (y:V) (r:Option V):Prop :=
 (∃kvs k,Rd H a (.dK kvs)/\y=kV k/\r=valV kvs k)\/∃kvs k b,Rd H a (.dT kvs)/\y=.ref b/\H b=some (.tup (k.map kV))/\r=valV kvs k
def DPut (H:Hp) (a:Addr) (y v:V) (H':Hp):Prop :=
 (∃kvs k,H a=some (.dK kvs)/\y=kV k/\kvs.length<sizeLine/\H'=upd H a (.dK (putK kvs k v))) \/
 ∃kvs k b,H a=some (.dT kvs)/\y=.ref b/\H b=some (.tup (k.map kV))/\kvs.length<sizeLine/\H'=upd H a (.dT (putK kvs k v))
theorem DGet.k {H:Hp}{a:Addr}{kvs:List (Key×V)}{k:Key}(e:H a=some (.dK kvs)):DGet H a (kV k) (valV kvs k):=.inl ⟨kvs,k,.inl e,rfl,rfl⟩
theorem DGet.t {H:Hp}{a b:Addr}{kvs:List (List Key×V)}{k:List Key}(e:H a=some (.dT kvs)) (eb:H b=some (.tup (k.map kV))):DGet H a (.ref b) (valV kvs k):=.inr ⟨kvs,k,b,.inl e,rfl,eb,rfl⟩
theorem DPut.k {H:Hp}{a:Addr}{kvs:List (Key×V)}{k:Key}{v:V}(e:H a=some (.dK kvs)) (hl:kvs.length<sizeLine):DPut H a (kV k) v (upd H a (.dK (putK kvs k v))):=.inl ⟨kvs,k,e,rfl,hl,rfl⟩
theorem DPut.t {H:Hp}{a b:Addr}{kvs:List (List Key×V)}{k:List Key}{v:V}(e:H a=some (.dT kvs)) (eb:H b=some (.tup (k.map kV))) (hl:kvs.length<sizeLine) :
  DPut H a (.ref b) v (upd H a (.dT (putK kvs k v))):=.inr ⟨kvs,k,b,e,rfl,eb,hl,rfl⟩
section
variable {X:Cx}{pins:List (Addr×Obj)}{U:St}{H:Hp}{s:Shared}{a:Addr}{y v:V}{u r:Value}{o:Option V}{A:Around}{E:Value->Shared->Prop}
theorem Inv.big (I:Inv X pins U H s):sysModules<s.heap.objs.size:=by
 have h:mainGlobals<s.heap.objs.size:=(I.mod.glob.keeps I.bk).lt
 exact Nat.lt_trans (by decide) h
theorem zmc {Q:Value->Shared->Prop}(hu:A.units+1<cLine) (I:Inv X pins U H s) (g:DGet H a y (some v)) (ry:RelV y u) (h:∀w' s',Inv X pins U H s'->RelV v w'->Q w' s') :
  wpAny (model X.prog X.w) A (getItem (.ref a) u) Q E s:=by
 rcases g with ⟨kvs,k,e,ey,l⟩|⟨kvs,k,b,e,ey,eb,l⟩
 ·subst ey
  obtain ⟨z,hd,vs,rel,dd⟩:=yT I.hok e
  obtain ⟨w',hw,rw'⟩:=RelO.some_of (v:=v) (o:=valueAt vs k) (by rw [l];exact rel.val k)
  exact wpAny_getItem_of (zaV ry) dd.mapOf hw (h w' _ (I.tok _) rw')
 ·subst ey
  cases (show u=Value.ref b from ry)
  obtain ⟨z,hd,xs,rel,dd⟩:=zaX I.hok e
  obtain ⟨w',hw,rw'⟩:=RelO.some_of (v:=v) (o:=(atKey xs k).map (·.2)) (by rw [l];exact rel.val k)
  obtain ⟨p,hp,hp2⟩:=Option.map_eq_some_iff.mp hw
  refine wpAny_getItem_heap (tupleKind_room_in1 hu) (zaW I.hok eb) dd hp ?_
  rw [hp2]
  exact h w' _ (I.tok _) rw'
theorem zmd {Q:Value->Shared->Prop}(hu:A.units+1<cLine) (I:Inv X pins U H s) (g:DGet H a y o) (ry:RelV y u) (h:∀s',Inv X pins U H s'->Q (.bool o.isSome) s') :
  wpAny (model X.prog X.w) A (compareOp .In u (.ref a)) Q E s:=by
 rcases g with ⟨kvs,k,e,ey,l⟩|⟨kvs,k,b,e,ey,eb,l⟩
 ·subst ey
  obtain ⟨z,hd,vs,rel,dd⟩:=yT I.hok e
  refine wpAny_in_of (zaV ry) hd dd.mapOf ?_
  rw [<-(rel.val k).isSome_eq,<-l]
  exact h _ (I.tok _)
 ·subst ey
  cases (show u=Value.ref b from ry)
  obtain ⟨z,hd,xs,rel,dd⟩:=zaX I.hok e
  refine wpAny_in_heap (tupleKind_room_in1 hu) (zaW I.hok eb) hd dd ?_
  have q:=(rel.val k).isSome_eq
  rw [Option.isSome_map] at q
  rw [<-q,<-l]
  exact h _ (I.tok _)
theorem zme {Q:Value->Shared->Prop}(hu:A.units+1<cLine) (I:Inv X pins U H s) (g:DGet H a y o) (ry:RelV y u) (h:∀s',Inv X pins U H s'->Q (.bool (!o.isSome)) s') :
  wpAny (model X.prog X.w) A (compareOp .NotIn u (.ref a)) Q E s:=by
 rcases g with ⟨kvs,k,e,ey,l⟩|⟨kvs,k,b,e,ey,eb,l⟩
 ·subst ey
  obtain ⟨z,hd,vs,rel,dd⟩:=yT I.hok e
  refine wpAny_notIn_of (zaV ry) hd dd.mapOf ?_
  rw [<-(rel.val k).isSome_eq,<-l]
  exact h _ (I.tok _)
 ·subst ey
  cases (show u=Value.ref b from ry)
  obtain ⟨z,hd,xs,rel,dd⟩:=zaX I.hok e
  refine wpAny_notIn_heap (tupleKind_room_in1 hu) (zaW I.hok eb) hd dd ?_
  have q:=(rel.val k).isSome_eq
  rw [Option.isSome_map] at q
  rw [<-q,<-l]
  exact h _ (I.tok _)
theorem zgl {h':Heap}{t':Nat}{ob:HO}(I:Inv X pins U H s) (mu:Mut (H a)) (hs:Heap.SameBut a s.heap h') (he:∃q,h'.get? a=some q) (new:ObjOk X.prog X.w (upd H a ob) h' a ob) :
  Inv X pins U (upd H a ob) { s with heap:=h',toks:=t' } :=
 I.write (x:=a) (e:=a) mu (.inl rfl) (fun b q hb z=>(hs.2 b hb).trans z) he new
theorem zgm {P:Program}{w:World}{H':Hp}{h':Heap}{kvs:List (Key×V)}{vs:List (Key×Value)}(z:kvs.length<=sizeLine) (hd:(a==sysModules)=false) (rel:KV kvs vs) (dd:h'.DictOf (mixKind P w) a vs) :
  ObjOk P w H' h' a (.dK kvs):=⟨z,hd,vs,rel,dd⟩
theorem zmf {H':Hp}{Q:Unit->Shared->Prop}(hu:A.units+1<cLine) (I:Inv X pins U H s) (g:DPut H a y v H') (ry:RelV y u) (rv:RelV v r) (h:∀s',Inv X pins U H' s'->Q () s') :
  wpAny (model X.prog X.w) A (setItem (.ref a) u r) Q E s:=by
 rcases g with ⟨kvs,k,e,ey,l,eH⟩|⟨kvs,k,b,e,ey,eb,l,eH⟩
 ·subst ey eH
  obtain ⟨z,hd,vs,rel,dd⟩:=zgk I.hok e
  have hz:vs.length<=sizeLine:=by rw [<-rel.length];exact z
  have hl:(putK kvs k v).length<=sizeLine:=by have:=zgh kvs k v;omega
  refine wpAny_setItem_pairs (hsz:=hz) (zaV ry) dd fun h' dd' hs=>h _ ?_
  have he:∃q,h'.get? a=some q:=let ⟨q,_,_,hq,_⟩:=dd';⟨q,hq⟩
  exact zgl I (by rw [e];exact True.intro) hs he (zgm hl hd (rel.put k rv) dd')
 ·subst ey eH
  cases (show u=Value.ref b from ry)
  obtain ⟨z,hd,xs,rel,dd⟩:=zmb I.hok e
  have hz:xs.length<=sizeLine:=by rw [<-Paired.length rel];exact z
  have hl:(putK kvs k v).length<=sizeLine:=by have:=zgh kvs k v;omega
  refine wpAny_setItem_heap (hsz:=hz) (tupleKind_room_in1 hu) (zaW I.hok eb) dd fun h' dd' hs=>h _ ?_
  obtain ⟨q,es,ep,hq,h2,h3,h4,_,h5⟩:=dd'
  refine zgl I (by rw [e];exact True.intro) hs ⟨q,hq⟩ ⟨hl,hd,_,(rel.put k eb rv).keeps fun c ys ec=>?_,q,es,ep,hq,h2,h3,h4,h5⟩
  rw [zG (zjN ec e (fun z=>nomatch z))]
  exact ec
end
section
variable {X:Cx}{pins:List (Addr×Obj)}{U:St}{H:Hp}{s:Shared}{a:Addr}{kvs:List (Key×V)}{k:Key}{u:Value}{A:Around}{E:Value->Shared->Prop}
theorem zmg {Q:Value->Shared->Prop} (I:Inv X pins U H s) (e:Rd H a (.dK kvs)) (h:∀t s',Inv X pins U H s'->Q (.int kvs.length t) s'):wpAny (model X.prog X.w) A (call (.builtin "len") [.ref a]) Q E s:=by
 obtain ⟨z,hd,vs,rel,dd⟩:=yT I.hok e
 refine call_len_dict hd dd (by rw [<-rel.length];rw [sizeLine_eq] at z;omega) ?_
 rw [<-rel.length]
 exact h _ _ (I.tok _)
end
theorem zmh {X:Cx} {pins:List (Addr×Obj)} {U:St} {H:Hp} {s:Shared} {a:Addr} {y:V} {o:Option V} (I:Inv X pins U H s) (g:DGet H a y o):s.TypeIs (.ref a) "dict" := by
 rcases g with ⟨kvs,k,e,_,_⟩|⟨kvs,k,b,e,_,_,_⟩
 ·obtain ⟨_,_,vs,_,dd⟩:=yT I.hok e
  exact dd.typeIs
 ·obtain ⟨_,_,xs,_,dd⟩:=zaX I.hok e
  exact dd.typeIs
def zmi (td ty tv:TE):TS:=fun D U H=>tv U H fun v H1=>td U H1 fun x H2=>ty U H2 fun y H3=>∃a H4,x=.ref a/\DPut H3 a y v H4/\D.nx U H4
section
variable {X:Cx}{o i e value:Expr}{pos pos' tpos:Pos}{td ty tv:TE}
theorem zmj (hu:X.A.units+1<cLine) (ho:PE X o td) (hi:PE X i ty) (hv:PE X value tv) (hs:swapsWith value (some (.Subscript o i pos')) pos.line X.env=pure false) :
  PS X (.Assign [.Subscript o i pos'] value pos) (zmi td ty tv):=by
 intro pins s U H D I h
 refine wpAny_Assign_Subscript (thn (hv pins s U H _ I h) fun r s1 ⟨v,H1,I1,rv,q1⟩=>thn (ho pins s1 U H1 _ I1 q1) fun u s2 ⟨x,H2,I2,rx,q2⟩=>thn (hi pins s2 U H2 _ I2 q2) fun iv s3 ⟨y,H3,I3,ry,a,H4,ex,g,q3⟩=>?_) hs
 subst ex
 obtain rfl:u=Value.ref a:=rx
 exact zmf hu I3 g ry rv fun s4 I4=>⟨U,H4,I4,q3⟩
end
theorem zmk {P:Program} {w:World} {H:Hp} (h:Heap) (hb:sysModules<h.objs.size):ObjOk P w H (h.push { cls:=.type "dict", data:=.dict #[] }) h.objs.size (.dK []) :=
 ⟨Nat.zero_le _,beq_eq_false_iff_ne.mpr (Ne.symm (Nat.ne_of_lt hb)),[],.nil,Heap.DictOf.new h⟩
def zml:TE:=fun _ H Q=>∀p,H p=none->Q (.ref p) (upd H p (.dK []))
section
variable {X:Cx}{pos:Pos}
theorem zmm:PE X (.Dict [] [] pos) zml:=fun pins s U H Q I h =>
 wpAny_Dict_empty ⟨.ref s.heap.objs.size,_,I.laid (a:=s.heap.objs.size) (o:=.dK []) (t':=s.toks) (fun _ _ q=>Heap.get?_push_of_some _ q) (Nat.le_refl _) (zmk s.heap I.big),rfl,h _ (I.hok.fresh (Nat.le_refl _))⟩
end
structure M1 (X:Cx) (o:Expr) (m:Str) (apos:Pos) (e:Expr) (cpos:Pos):Prop where
 base:attributeBase o m X.env (eval o X.env)=eval o X.env
 few:((backTo cpos (starEach [e] X.env)).all (fun x=>!x.1)&&(backToKw cpos (keywordEach [] X.env)).all (fun x=>x.1.isSome)
  && decide (([e]:List Expr).length+([]:List Keyword).length+(if ([]:List Keyword).isEmpty then 0 else 1)<30))=true
 line:(apos.endLine==cpos.line)=true
 trees:backTo cpos (starEach [e] X.env)=[(false,eval e X.env)]
structure M2 (X:Cx) (o:Expr) (m:Str) (apos:Pos) (e f:Expr) (cpos:Pos):Prop where
 base:attributeBase o m X.env (eval o X.env)=eval o X.env
 few:((backTo cpos (starEach [e,f] X.env)).all (fun x=>!x.1)&&(backToKw cpos (keywordEach [] X.env)).all (fun x=>x.1.isSome)
  && decide (([e,f]:List Expr).length+([]:List Keyword).length+(if ([]:List Keyword).isEmpty then 0 else 1)<30))=true
 line:(apos.endLine==cpos.line)=true
 trees:backTo cpos (starEach [e,f] X.env)=[(false,eval e X.env),(false,eval f X.env)]
section
variable {X:Cx}{pins:List (Addr×Obj)}{U:St}{H:Hp}{s:Shared}{a:Addr}{y d:V}{u r:Value}{o:Option V}{A:Around}{E:Value->Shared->Prop}
end
section
variable {X:Cx}{o e f:Expr}{apos cpos:Pos}{td ty tx:TE}
end
section
variable {X:Cx}{pins:List (Addr×Obj)}{U:St}{H:Hp}{s:Shared}{a:Addr}{kvs:List (Key×V)}{A:Around}{E:Value->Shared->Prop}
end
section
variable {X:Cx}{pins:List (Addr×Obj)}{U:St}{H:Hp}{s:Shared}{a:Addr}{y:V}{u:Value}{A:Around}{E:Value->Shared->Prop}
end
def XO (h:Heap) (a:Addr) (C:Value) (d:Option Addr) (head:Value):Prop :=
 ∃oe vs,h.get? a=some oe/\oe.cls=C/\oe.dict=d/\oe.data=.fields vs/\vs.size=6/\vs[1]?=some head
def TB (h:Heap) (T:Addr) (fl:Value):Prop:=∃oT ts,h.get? T=some oT/\oT.data=.fields ts/\ts[3]?=some fl
theorem zmn (o:Obj) (f):(o.mapFields f).dict=o.dict:=by
 obtain ⟨c,d,dt,sl⟩:=o
 cases dt<;>rfl
theorem XO.keeps {h h':Heap}{a:Addr}{C:Value}{d:Option Addr}{head:Value}(x:XO h a C d head) (k:∀o,h.get? a=some o->h'.get? a=some o):XO h' a C d head:=by
 obtain ⟨oe,vs,e,r⟩:=x
 exact ⟨oe,vs,k _ e,r⟩
theorem TB.keeps {h h':Heap}{T:Addr}{fl:Value}(x:TB h T fl) (k:∀o,h.get? T=some o->h'.get? T=some o):TB h' T fl:=by
 obtain ⟨oT,ts,e,r⟩:=x
 exact ⟨oT,ts,k _ e,r⟩
theorem XO.set1 {h:Heap}{a:Addr}{C:Value}{d:Option Addr}{head:Value}(x:XO h a C d head) (u:Value):XO (h.update a (Obj.mapFields (·.setIfInBounds 1 u))) a C d u:=by
 obtain ⟨oe,vs,e,hc,hdi,hd,hz,h1⟩:=x
 have hd':=Obj.data_mapFields hd (·.setIfInBounds 1 u)
 refine ⟨_,_,Heap.get?_update_self _ e (Obj.isFreed_of_fields hd'),(Obj.cls_mapFields _ _).trans hc,(zmn _ _).trans hdi,hd',?_,?_⟩
 ·rw [Array.size_setIfInBounds];exact hz
 ·have:1<vs.size:=by omega
  simp [this]
theorem TB.set3 {h:Heap}{T:Addr}{fl:Value}(x:TB h T fl) (u:Value):TB (h.update T (Obj.mapFields (·.setIfInBounds 3 u))) T u:=by
 obtain ⟨oT,ts,e,hd,h3⟩:=x
 have hd':=Obj.data_mapFields hd (·.setIfInBounds 3 u)
 refine ⟨_,_,Heap.get?_update_self _ e (Obj.isFreed_of_fields hd'),hd',?_⟩
 have:3<ts.size:=(Array.getElem?_eq_some_iff.mp h3).1
 simp [this]
section
variable {M:Model}{A:Around}{E:Value->Shared->Prop}{s:Shared}{base:Heap}{env:Env}{outer:List Env}{L a:Addr}{C:Value}{d:Option Addr}{head:Value}{Q:Unit->Shared->Prop}
theorem zgn {b2:Bool}(hfr:A.frames=some (env::outer)) (hl:s.heap.FunFrames base (env::outer)) (hf:env.frame=some L) (x:XO s.heap a C d head)
  (h:∀h' T,s.heap.objs.size<=T->XO h' a C d (.ref T)->TB h' T (rawInt L)->(∀b o,b≠a->b∉frs (env::outer)->s.heap.get? b=some o->h'.get? b=some o) ->
   (∀b o,b≠a->b∈frs (env::outer)->s.heap.get? b=some o->∃sl,h'.get? b=some { o with slots:=sl })->Q () { s with heap:=h' }) :
  wpAny M A (do let fr <-frameOf env;let pl <-entryPlaceOf L b2;let tb <-EntryCells.newEntry head fr .none (rawInt L) .none pl;setField (.ref a) 1 tb) Q E s:=by
 obtain ⟨oe,vs,e,hc,hdi,hd,hz,h1⟩:=id x
 have aN:a∉frs (env::outer):=fun hm=>by
  obtain ⟨_,o,ho,nf⟩:=hl.mem hm
  rw [e] at ho
  cases ho
  exact nf vs hd
 refine wpAny_bind (wpAny_frameOf_fun hfr hl hf fun g1 sl1=>wpAny_bind (wpAny_entryPlaceOf fun pl ipl=>?_))
 unfold EntryCells.newEntry newFields
 refine wpAny_bind (wpAny_newObj_type ?_ (ipl.sizeOk5 _ _ _ _ _))
 have x1:XO g1 a C d head:=⟨oe,vs,(sl1.2.1 a aN).trans e,hc,hdi,hd,hz,h1⟩
 generalize hob:({ cls:=.type "traceback", dict:=none,data:=.fields ([head,.ref L,.none,rawInt L,.none]++(if pl.isEmpty then List.replicate 6 Value.none else pl)).toArray }:Obj)=ob
 have x2:XO (g1.push ob) a C d head:=x1.keeps fun o q=>Heap.get?_push_of_some _ q
 obtain ⟨oe2,vs2,e2,_,_,hd2,hz2,_⟩:=id x2
 refine wpAny_setField e2 hd2 (by omega) ?_
 have aT:g1.objs.size≠a:=fun z=>by
  obtain ⟨_,_,q,_⟩:=x1
  have:=Heap.lt_size q
  rw [<-z] at this
  exact Nat.lt_irrefl _ this
 have szle:s.heap.objs.size<=g1.objs.size:=Nat.le_of_eq sl1.1.symm
 refine h _ g1.objs.size szle (x2.set1 _) ?_ (fun b o nb nf q=>?_) (fun b o nb nf q=>?_)
 ·have t0:TB (g1.push ob) g1.objs.size (rawInt L):=by
   refine ⟨ob,_,Heap.get?_push_size _ (by rw [<-hob];rfl),by rw [<-hob],?_⟩
   rcases ipl with rfl|⟨_,_,_,_,_,_,_,rfl⟩<;>simp
  exact t0.keeps fun o q=>(Heap.get?_update_other _ _ (Ne.symm aT)).trans q
 ·exact (Heap.get?_update_other _ _ (Ne.symm nb)).trans (Heap.get?_push_of_some _ ((sl1.2.1 b nf).trans q))
 ·obtain ⟨sl,z⟩:=sl1.2.2 b o q
  exact ⟨sl,(Heap.get?_update_other _ _ (Ne.symm nb)).trans (Heap.get?_push_of_some _ z)⟩
theorem zmo (hfr:A.frames=some (env::outer)) (hl:s.heap.FunFrames base (env::outer)) (hf:env.frame=some L) (x:XO s.heap a C d head)
  (ht:head=.none\/∃T0,head=.ref T0/\T0≠a/\TB s.heap T0 .none)
  (h:∀h' T,s.heap.objs.size<=T->XO h' a C d (.ref T)->TB h' T (rawInt L)->(∀b o,b≠a->.ref b≠head->b∉frs (env::outer)->s.heap.get? b=some o->h'.get? b=some o) ->
   (∀b o,b∈frs (env::outer)->s.heap.get? b=some o->∃sl,h'.get? b=some { o with slots:=sl })->Q () { s with heap:=h' }) :
  wpAny M A (noteFrame (.ref a) env) Q E s:=by
 obtain ⟨oe,vs,e,hc,hdi,hd,hz,h1⟩:=id x
 have aN:a∉frs (env::outer):=fun hm=>by
  obtain ⟨_,o,ho,nf⟩:=hl.mem hm
  rw [e] at ho
  cases ho
  exact nf vs hd
 unfold noteFrame
 simp only [hf]
 refine wpAny_bind (wpAny_field e hd h1 ?_)
 rcases ht with rfl|⟨T0,rfl,nT,t0⟩
 ·rw [if_neg (by decide)]
  exact zgn hfr hl hf x fun h' T k1 k2 k3 k4 k5=>h h' T k1 k2 k3 (fun b o nb _ nf q=>k4 b o nb nf q) fun b o hb q=>k5 b o (fun z=>aN (z▸hb)) hb q
 ·obtain ⟨oT,ts,eT,hdT,h3⟩:=id t0
  have TN:T0∉frs (env::outer):=fun hm=>by
   obtain ⟨_,o,ho,nf⟩:=hl.mem hm
   rw [eT] at ho
   cases ho
   exact nf ts hdT
  rw [if_pos (show (Value.ref T0 != Value.none)=true from by simp)]
  refine wpAny_bind (wpAny_field eT hdT h3 ?_)
  rw [if_neg (show ¬((Value.none==rawInt L)=true) from by simp [rawInt])]
  refine wpAny_bind (wpAny_setField eT hdT (Array.getElem?_eq_some_iff.mp h3).1 ?_)
  have oth:∀b,b≠T0->(s.heap.update T0 (Obj.mapFields (·.setIfInBounds 3 Value.none))).get? b=s.heap.get? b:=fun b hb=>Heap.get?_update_other _ _ (Ne.symm hb)
  refine zgn (s:={ s with heap:=s.heap.update T0 (Obj.mapFields (·.setIfInBounds 3 Value.none)) }) hfr (hl.of_keeps fun b o hb nf=>⟨o,(oth b fun q=>?_).trans hb,rfl⟩) hf (x.keeps fun o q=>(oth a (Ne.symm nT)).trans q) fun h' T k1 k2 k3 k4 k5 =>
   h h' T (by simpa using k1) k2 k3 (fun b o nb nh nf q=>k4 b o nb nf ((oth b fun z=>nh (by rw [z])).trans q)) fun b o hb q=>k5 b o (fun z=>aN (z▸hb)) hb ((oth b fun z=>TN (z▸hb)).trans q)
  rw [q,eT] at hb
  cases hb
  exact nf ts hdT
theorem zmp {T:Addr}{fl:Value}(x:XO s.heap a C d (.ref T)) (t:TB s.heap T fl) (ne:T≠a)
  (h:∀h',XO h' a C d (.ref T)->TB h' T .none->(∀b o,b≠T->s.heap.get? b=some o->h'.get? b=some o)->h'.objs.size=s.heap.objs.size->Q () { s with heap:=h' }):wpAny M A (setFlight (.ref a) none) Q E s:=by
 obtain ⟨oe,vs,e,_,_,hd,_,h1⟩:=id x
 obtain ⟨oT,ts,eT,hdT,h3⟩:=id t
 unfold setFlight
 refine wpAny_bind (wpAny_field e hd h1 ?_)
 rw [if_pos (show (Value.ref T != Value.none)=true from by simp)]
 refine wpAny_setField eT hdT (Array.getElem?_eq_some_iff.mp h3).1 ?_
 exact h _ (x.keeps fun o q=>(Heap.get?_update_other _ _ ne).trans q) (t.set3 _) (fun b o nb q=>(Heap.get?_update_other _ _ (Ne.symm nb)).trans q) (by simp)
end
def OwnRec (X:Cx) (pins:List (Addr×Obj)) (H:Hp) (b:Addr):Prop :=
 H b=none/\X.s₀.heap.objs.size<=b/\b≠X.env.locals/\(∀x c,X.env.cells.lookup x=some c->c≠b)/\∀p∈X.pn++pins,p.1≠b
theorem OwnRec.new {X:Cx}{pins:List (Addr×Obj)}{U:St}{H H':Hp}{s:Shared}{b:Addr}(I:Inv X pins U H s) (hb:s.heap.objs.size<=b) (hn:H' b=none):OwnRec X pins H' b:=by
 obtain ⟨f0,f1,f2,f3,f4,f5⟩:=I.fpOk (H':=H') hb hn
 exact ⟨hn,Nat.le_trans I.sz hb,f1,f4,f5⟩
def Fly (X:Cx) (pins:List (Addr×Obj)) (H:Hp) (h:Heap) (a C:Addr) (d:Option Addr):Prop :=
 ∃head,XO h a (.ref C) d head/\OwnRec X pins H a/\(head=.none\/∃T,head=.ref T/\T≠a/\TB h T .none/\OwnRec X pins H T)
def Throws (X:Cx) (E:XK):Prop:=∀(pins:List (Addr×Obj)) (U:St) (H:Hp) (s:Shared) (a C:Addr) (d:Option Addr),Inv X pins U H s->Fly X pins H s.heap a C d->E (.ref C) d H->X.xe (.ref a) s
def CXe (P:Program) (w:World):CXT:=fun outer H s E e s'=>∃(a C T:Addr) (d:Option Addr) (H':Hp),e=.ref a/\s'.os=s.os/\AllBare s'.gens/\Un (frs outer) [] H H' s.heap s'.heap/\HOk P w H' s'.heap /\
 XO s'.heap a (.ref C) d (.ref T)/\T≠a/\TB s'.heap T .none/\(s.heap.objs.size<=a/\H' a=none)/\(s.heap.objs.size<=T/\H' T=none)/\E (.ref C) d H'
theorem zmq {X:Cx}{E:XK}(t:Throws X E):Passes (CXe X.prog X.w) X E:=by
 rintro pins U H s e s' I ⟨a,C,T,d,H',rfl,os,bare,un,hok,x,ne,tb,⟨a1,a2⟩,⟨t1,t2⟩,q⟩
 have I':Inv X pins U H' s':=I.call' (ch:=[]) os un hok bare fun b z=>absurd z (by simp)
 exact t pins U H' s' a C d I' ⟨_,x,OwnRec.new I a1 a2,.inr ⟨T,rfl,ne,tb,OwnRec.new I t1 t2⟩⟩ q
def chOf (a:Addr):Value->List Addr
 | .ref T0=>[a,T0]
 | _=>[a]
theorem zgo (a:Addr) (v:Value):a∈chOf a v:=by cases v<;>simp [chOf]
theorem zgp (a T0:Addr):T0∈chOf a (.ref T0):=by simp [chOf]
section
variable {X:Cx}{pins:List (Addr×Obj)}{U:St}{H:Hp}{s:Shared}{a C:Addr}{d:Option Addr}{A:Around}{E:Value->Shared->Prop}{Q:Unit->Shared->Prop}
theorem zgq (I:Inv X pins U H s) (hfr:A.frames=some X.stack) (hst:X.stack=X.env::X.outer) (hf:X.env.frame=some X.env.locals) (F:Fly X pins H s.heap a C d)
  (h:∀s' T,Inv X pins U H s'->XO s'.heap a (.ref C) d (.ref T)->T≠a->TB s'.heap T (rawInt X.env.locals)->OwnRec X pins H a->OwnRec X pins H T->Q () s'):wpAny (model X.prog X.w) A (noteFrame (.ref a) X.env) Q E s:=by
 obtain ⟨head,x,oa,ht⟩:=F
 have hl:s.heap.FunFrames X.base (X.env::X.outer):=hst▸I.stack
 have hfr':A.frames=some (X.env::X.outer):=hfr.trans (congrArg some hst)
 have efr:frs (X.env::X.outer)=X.env.locals::X.fs:=by
  unfold frs
  rw [List.filterMap_cons,hf]
  rfl
 have hfree:∀b∈X.env.locals::X.fs,H b=none:=fun b hb=>I.stkFree b (by rw [hst,efr];exact hb)
 have headN:∀b u,H b=some u->Value.ref b≠head:=fun b u e z=>by
  rcases ht with rfl|⟨T0,rfl,_,_,r⟩
  ·cases z
  ·cases z
   rw [r.1] at e
   cases e
 refine zmo hfr' hl hf x (ht.imp id fun ⟨T0,e1,e2,e3,_⟩=>⟨T0,e1,e2,e3⟩) fun h' T k1 k2 k3 k4 k5=>?_
 rw [efr] at k4 k5
 have oT:OwnRec X pins H T:=OwnRec.new I k1 (I.hok.fresh k1)
 have neT:T≠a:=fun z=>by
  obtain ⟨_,_,e,_⟩:=x
  have:=Heap.lt_size e
  rw [<-z] at this
  exact Nat.lt_irrefl _ (Nat.lt_of_lt_of_le this k1)
 refine h { s with heap:=h' } T ?_ k2 neT k3 oa oT
 refine I.step (g':=s.gens) (t':=s.toks) (d':=s.drawn) (ch:=chOf a head) (fun b hb=>?_) (fun b o n1 n2 n3 e n=>k4 b o (fun z=>n3 ?_) (fun z=>n3 ?_) (fun z=>(List.mem_cons.mp z).elim n1 n2) e)
  (fun b o n1 n2 n3 e n=>k5 b o (List.mem_cons_of_mem _ n2) e) (fun _ _ _ _ n=>n) (fun b o n3 e=>?_) (fun _ _ e=>e) (fun _ _ _ e=>e) (fun b ps e=>⟨#[],by rw [e];simp⟩) (fun m hm=>?_) (fun b u e=>?_) I.bare
 ·have own:OwnRec X pins H b:=by
   rcases ht with rfl|⟨T0,rfl,_,_,r⟩
   ·have z:b=a:=by simpa [chOf] using hb
    rw [z];exact oa
   ·have z:b=a\/b=T0:=by simpa [chOf] using hb
    rcases z with z|z
    ·rw [z];exact oa
    ·rw [z];exact r
  exact ⟨.inr own.2.1,own.2.2.1,own.2.2.2.1,own.2.2.2.2⟩
 ·rw [z]
  exact zgo a head
 ·rw [<-z]
  exact zgp a b
 ·by_cases hb:b∈X.env.locals::X.fs
  ·obtain ⟨sl,z⟩:=k5 b o hb e
   exact ⟨_,z⟩
  ·exact ⟨o,k4 b o (fun z=>n3 (by rw [z];exact zgo a head)) (fun z=>n3 (by rw [<-z];exact zgp a b)) hb e⟩
 ·obtain ⟨o,es,ep,ho,r⟩:=hm
  obtain ⟨sl,z⟩:=k5 _ o List.mem_cons_self ho
  exact ⟨_,es,ep,z,r⟩
 ·refine (I.hok b u e).stay (fun c v hc q=>?_) (fun _ q=>q) fun _ _ q=>q
  have tr:∃u',H c=some u':=by
   rcases hc with z|z
   ·exact ⟨u,by rw [z];exact e⟩
   ·exact ⟨_,z⟩
  obtain ⟨u',eu⟩:=tr
  exact k4 c v (fun z=>by rw [z,oa.1] at eu;cases eu) (headN c u' eu) (fun z=>by rw [hfree c z] at eu;cases eu) q
theorem zdx {T:Addr}{fl:Value}(I:Inv X pins U H s) (x:XO s.heap a (.ref C) d (.ref T)) (ne:T≠a) (tb:TB s.heap T fl) (oa:OwnRec X pins H a) (oT:OwnRec X pins H T)
  (h:∀s',Inv X pins U H s'->XO s'.heap a (.ref C) d (.ref T)->TB s'.heap T .none->Q () s'):wpAny (model X.prog X.w) A (setFlight (.ref a) none) Q E s:=by
 refine zmp x tb ne fun h' k1 k2 k3 _=>h { s with heap:=h' } ?_ k1 k2
 exact I.turned (t':=s.toks) (it:=T) (fun b o nb e=>k3 b o nb e) oT.1 oT.2.2.1 (.inr oT.2.1) oT.2.2.2.1 oT.2.2.2.2
end
section
variable {P:Program}{w:World}{K:PySem.W.Frag}{mg:Str->Option Value}{base:Heap}
theorem Fun.okX {x qual:Str}{st:Stmt}{f:Addr}{fd:FuncData}{N ps:List Str}{k:Nat}{sp:Sp}(F:Fun K x qual st f fd) (S:FnScope N ps (zB st)) (len:∀vs H Q E,sp vs H Q E->vs.length=ps.length)
  (hbody:∀(cdv:Value) (A:Around) (outer:List Env) (s:Shared) (H:Hp) (vs:List V) (Q:VK) (E:XK),Room k (A.deeper (envOfC qual (zB st) s.heap.objs.size f cdv))->sp vs H Q E ->
   ∃t,PSs (cxOf (CXe P w) P w K mg base N qual (zB st) f cdv A outer s H E) (yM st) t/\t { nx:=fun _ H'=>Q .non H',rt:=Q } (start N vs) H):FnOk P w K mg base (CXe P w) (k+1) f fd ps sp:=by
 obtain ⟨oc,od,kV,doc,pm,an,cdv,ct,osl,rfl,lk,hcd⟩:=F.ex
 exact zfU lk hcd S len fun A outer s H vs Q E hr hsp=>hbody cdv A outer s H vs Q E hr hsp
end
end L2
namespace L2
open PySem PySem.Spec PyProof.Rows PySem.W PySem.Builtin PySem.Builtin.ObjectAttr
theorem zmr (self:Value):refuseLoop self "__setattr__" [.type "ValueError", .type "Exception", .type "BaseException", .type "object"]=pure ():=by kernel_rfl
def valLine:List Value->Bool
 | [.type a,.type b,.type c,.type d]=>a == "ValueError" && b == "Exception" && c == "BaseException" && d == "object"
 | .ref _::r=>valLine r
 | _=>false
theorem zgr (self:Value):∀{l:List Value},valLine l=true->refuseLoop self "__setattr__" l=pure ()
 | [.type a,.type b,.type c,.type d],e=>by
  simp only [valLine,Bool.and_eq_true,beq_iff_eq] at e
  obtain ⟨⟨⟨rfl,rfl⟩,rfl⟩,rfl⟩:=e
  exact zmr self
 | .ref c::r,e=>by
  rw [refuseLoop_ref]
  exact zgr self (by cases r<;>first|exact e|cases e)
theorem zgs:∀{l:List Value},valLine l=true->l.contains (.type "object")=true
 | [.type a,.type b,.type c,.type d],e=>by
  simp only [valLine,Bool.and_eq_true,beq_iff_eq] at e
  obtain ⟨⟨⟨rfl,rfl⟩,rfl⟩,rfl⟩:=e
  simp
 | .ref c::r,e=>by
  rw [List.contains_cons,zgs (l:=r) (by cases r<;>first|exact e|cases e),Bool.or_true]
def lineIn (K:Frag) (C:Addr):Bool:=(clsIn K C).any fun cd=>valLine cd.mro
section
variable {prog:Program}{w:World}{A:Around}{E:Value->Shared->Prop}{K:Frag}{x C:Addr}{s:Shared}{R:Result->Shared->Prop}
theorem zms {ox:Obj}{od:Option Obj}{name:Str}{tk:Tok}{v:Value}(X:K.In s.heap) (I:InstAt s.heap x ox C od) (hp:lineIn K C=true) (ht:takerIn K C name=some none)
  (h:∀b,wpAny (model prog w) A.in1 (storeInOwnDict (.ref x) (.ref C) (.str name tk) name v b)
   (fun fin s'=>match fin with | .done f=>R (.ok f) s' | .again c'=>c'.quiet=true/\codeAny (model prog w) A c' R s') (fun e s'=>R (.error e) s') s) :
  codeAny (model prog w) A (.call (.builtin "object.__setattr__") ⟨[.ref x,.str name tk,v],[]⟩) R s:=by
 have SO:=PySem.F.store_object
 obtain ⟨cd,hc,ho⟩:=any_some hp
 have ne:cd.mro.isEmpty=false:=by
  cases q:cd.mro with
  | nil=>rw [q] at ho;cases ho
  | cons _ _=>rfl
 have isO:Looks (model prog w) s.heap (isInstance (.ref x) (.type "object")) true:=I.type.andThen (looks_mroIn X (by unfold mroIn;rw [hc,Option.bind_some,if_neg (by rw [ne];decide),zgs ho]))
 refine codeAny_call_builtin SO.slot.plain SO.entry (@check_slot (model prog w) _ _ s "object.__setattr__" "object" "__setattr__" (.ref x) [.str name tk,v] [] _ SO.kind SO.split isO (SO.args (.ref x) (.str name tk) v) ?_)
 obtain ⟨attr,ha,hr⟩:=Option.bind_eq_some_iff.mp ht
 have mr:Looks (model prog w) s.heap (mroOf (.ref C)) cd.mro:=(looks_clsIn X hc).andThen .now
 have tk0:Looks (model prog w) s.heap (storeTaker? attr) none:=by
  cases attr with
  | none=>exact .now
  | some a =>
   obtain ⟨b,hb,e⟩:=Option.map_eq_some_iff.mp hr
   refine (looks_takesIn X hb).andThen ?_
   cases b with
   | true=>cases e
   | false=>exact .now
 rw [osa_eq,refuse_eq]
 refine wpAny_bind (wpAny_bind (I.type.here (wpAny_bind (mr.here ?_))))
 rw [zgr _ ho]
 refine wpAny_pure (wpAny_bind (I.type.here (wpAny_bind ((looks_findIn X ha).here (wpAny_bind (tk0.here ?_))))))
 exact h _
theorem zmt {t:Addr}{name:Str}{v:Value}{Q:Unit->Shared->Prop}(X:K.In s.heap) (he:s.heap.get? x=some { cls:=.ref C,data:=.fields #[.ref t,.none,.none,.none,.bool false,.none] })
  (hs:findIn K (.ref C) "__setattr__" = some (some (.builtin "object.__setattr__"))) (hp:lineIn K C=true) (ht:takerIn K C name=some none) (hh:hasDictIn K C=true)
  (h:∀h',h'.get? x=some { cls:=.ref C,dict:=some s.heap.objs.size,data:=.fields #[.ref t,.none,.none,.none,.bool false,.none] }->h'.Ns1 s.heap.objs.size (fun y=>if y=name then some v else none) ->
   (∀b o,b≠x->s.heap.get? b=some o->h'.get? b=some o)->∀tk,Q () { s with heap:=h',toks:=tk }):wpAny (model prog w) A (setAttr (.ref x) name v) Q E s:=by
 have J:InstAt s.heap x { cls:=.ref C,data:=.fields #[.ref t,.none,.none,.none,.bool false,.none] } C none:=⟨he,rfl,rfl,trivial⟩
 refine set_plain X J hs (zms (s:={ s with toks:=s.toks+1 }) X J hp ht fun b=>?_)
 obtain ⟨cd,hc,hd'⟩:=any_some hh
 have xl:=Heap.lt_size he
 refine wpAny_bind (wpAny_pure (wpAny_bind (wpAny_bind (wpAny_loadPart he (wpAny_bind (Looks.here (s:={ s with toks:=s.toks+1 }) (looks_clsIn X hc) ?_))))))
 rw [hd']
 show wpAny (model prog w) A.in1 (do
  let d <-alloc { cls:=.type "dict", data:=.dict #[] }
  update x fun o=>{ o with dict:=some d }
  dictMade (.ref C) x d) _ _ _
 refine wpAny_bind (wpAny_alloc (wpAny_bind (wpAny_update (Heap.get?_push_of_some _ he) ?_)))
 refine wpAny_pure (a:=some s.heap.objs.size) (wpAny_bind (wpAny_pure (wpAny_bind ?_)))
 have xn:s.heap.objs.size≠x:=Nat.ne_of_gt xl
 have ex:((s.heap.push { cls:=.type "dict", data:=.dict #[] }).update x fun o=>{ o with dict:=some s.heap.objs.size }).get? x=some { cls:=.ref C,dict:=some s.heap.objs.size,data:=.fields #[.ref t,.none,.none,.none,.bool false,.none] } :=
  Heap.get?_update_self _ (Heap.get?_push_of_some _ he) rfl
 have ed:((s.heap.push { cls:=.type "dict", data:=.dict #[] }).update x fun o=>{ o with dict:=some s.heap.objs.size }).get? s.heap.objs.size=some { cls:=.type "dict", data:=.dict #[] } :=
  (Heap.get?_update_other _ _ (Ne.symm xn)).trans (Heap.get?_push_size _ rfl)
 have en:((s.heap.push { cls:=.type "dict", data:=.dict #[] }).update x fun o=>{ o with dict:=some s.heap.objs.size }).Ns1 s.heap.objs.size (fun _=>none) :=
  Heap.Ns1.of_empty ⟨_,#[],_,ed,rfl,(fun e he=>absurd he (by simp)),fun _=>rfl⟩
 refine wpAny_nsSet1 (s:={ s with heap:=(s.heap.push { cls:=.type "dict", data:=.dict #[] }).update x fun o=>{ o with dict:=some s.heap.objs.size },toks:=s.toks+1 }) en fun h' hn2 hs2=>?_
 obtain ⟨oD,esD,epD,hoD,hdD,hcD⟩:=hn2.count (PySem.Within.cons (ns:=[]) name v fun y hy=>absurd rfl hy)
 refine wpAny_bind (wpAny_lookBehind hoD (by rw [hdD];exact pastItsLine_dict (Nat.le_trans hcD (by simp))) ?_)
 refine wpAny_pure (h h' ((hs2.2 x (Ne.symm xn)).trans ex) hn2 (fun b o nb e=>(hs2.2 b (Nat.ne_of_lt (Heap.lt_size e))).trans ((Heap.get?_update_other _ _ (Ne.symm nb)).trans (Heap.get?_push_of_some _ e))) _)
end
section
variable {prog:Program}{w:World}{A:Around}{h:Heap}{g:Array GenState}{d:Drawn}{t:Nat}{os:OsState}{R:Result->Shared->Prop}
variable {nm q:Str}{C N f:Addr}{bs bm bmB:List Value}{hdct:Bool}{sn:List Str}{sub:List Value}{ab:Bool}{col:Option Bool}{dd:Option Addr}{k0 k1 k2 k3 k5:Option Value}{B newId initId:String}
theorem zmu (F:ExcBaseFacts B newId initId bmB) (T:OwnTail h bmB bm) {mN:Str->Option Value}{rest:List Value}
  (hC:h.get? C=some (excClassObj nm q C N bs bm hdct sn sub ab col dd k0 k1 k2 k3 k5 newId)) (hn:h.Ns N mN) (hi:mN "__init__" = some (.ref f))
  (hb:∀self,Looks (model prog w) h (bindSpecial (.ref f) self) (.ref f,[self])) (hrest:rest.length<=sizeLine)
  (hq:codeAny (model prog w) (A.under (.builtin "type.__call__" ⟨.ref C::rest,[]⟩)) (.call (.ref f) ⟨.ref (h.objs.size+1)::rest,[]⟩) (InitBack (h.objs.size+1) R)
   ⟨(h.push { cls:=.type "tuple", data:=.seq rest.toArray }).push { cls:=.ref C,data:=.fields #[.ref h.objs.size,.none,.none,.none,.bool false,.none] },g,d,t,os⟩) :
  codeAny (model prog w) A (.call (.ref C) ⟨rest,[]⟩) R ⟨h,g,d,t,os⟩:=by
 have u1:=tc_lookup
 have u2:=tc_bind (.ref C)
 have hT:(⟨h,g,d,t,os⟩:Shared).TypeIs (.ref C) "type" := ⟨_,hC,rfl⟩
 refine codeAny_of_tree ?_
 show wpAny _ _ (callAny (.ref C) _) _ _ _
 repeat (any_goals (first|assumption|with_reducible refine wpAny_loadPart_at hC ?_|wp_step))
 refine ⟨rfl,codeAny_call_builtin_at (Code.quiet_builtin _ (by decide +kernel)) entry_typeCall (wpAny_check_type_call_sub hC ?_)⟩
 repeat (first|with_reducible refine wpAny_loadPart_at hC ?_|with_reducible refine wpAny_madeBy_exc hC ?_|wp_step)
 refine codeAny_call_builtin_code (Code.quiet_builtin _ F.quiet) (wpAny_check_new_subT F T hC (codeAny_exc_new_subT F T hC ?_ hrest))
 change wpAny (model prog w) (A.under (.builtin "type.__call__" ⟨.ref C::rest,[]⟩)) _ _ _ ⟨(h.push { cls:=.type "tuple", data:=.seq rest.toArray }).push { cls:=.ref C,data:=.fields #[.ref h.objs.size,.none,.none,.none,.bool false,.none] },g,d,t,os⟩
 generalize hg2:(h.push { cls:=.type "tuple", data:=.seq rest.toArray }).push { cls:=.ref C,data:=.fields #[.ref h.objs.size,.none,.none,.none,.bool false,.none] }=h2 at hq ⊢
 have kp:∀b o,h.get? b=some o->h2.get? b=some o:=fun b o e=>hg2▸Heap.get?_push_of_some _ (Heap.get?_push_of_some _ e)
 have gx:h2.get? (h.objs.size+1)=some { cls:=.ref C,data:=.fields #[.ref h.objs.size,.none,.none,.none,.bool false,.none] }:=by
  rw [<-hg2]
  heap_get
 have C2:=kp _ _ hC
 have T2:=T.keeps kp
 have n2:=hn.keeps kp
 have cC:(Value.ref C::bm).contains (.ref C)=true:=by simp
 unfold isInstance
 repeat (first|with_reducible refine wpAny_loadPart_at gx ?_|(with_reducible refine wpAny_isSubtype_exc C2 ?_;rw [cC])|wp_step)
 show wpAny _ _ (typeLookup (.ref C) _) _ _ _
 refine wpAny_typeLookup_tail C2 n2 T2 F.mroIs F.init.lookup ?_
 rw [hi]
 refine wpAny_holding (wpAny_bind (((hb _).keeps kp).here (s:=⟨h2,g,d,t,os⟩) (wpAny_bind (wpAny_call (codeAny_mono hq fun r s' z=>?_)))))
 cases r with
 | error e=>exact z
 | ok fl =>
  cases fl with
  | ret v =>
   obtain ⟨rfl,z⟩:=z
   exact wpAny_pure (wpAny_pure z)
  | next=>exact z.elim
  | brk=>exact z.elim
  | cont=>exact z.elim
end
def exO (C t:Addr) (d:Option Addr) (a:Addr):HO:=.ext fun h=>h.get? a=some { cls:=.ref C,dict:=d,data:=.fields #[.ref t,.none,.none,.none,.bool false,.none] }
structure ExCls (K:PySem.W.Frag) (C:Addr) (f:Str):Prop where
 sa:PySem.W.findIn K (.ref C) "__setattr__" = some (some (.builtin "object.__setattr__"))
 line:lineIn K C=true
 no:PySem.W.takerIn K C f=some none
 hd:PySem.W.hasDictIn K C=true
def zgt (K:PySem.W.Frag) (ta tv:TE) (f:Str):TS:=fun D U H=>tv U H fun y H1=>ta U H1 fun x H2=>∃a C t,x=.ref a/\H2 a=some (exO C t none a)/\ExCls K C f /\
 ∀d,H2 d=none->D.nx U (upd (upd H2 d (.xd [(f,y)])) a (exO C t (some d) a))
theorem zgu {X:Cx}{o value:Expr}{f:Str}{pos pos':Pos}{ta tv:TE}(ha:PE X o ta) (hv:PE X value tv) (hs:swapsWith value (some (.Attribute o f pos')) pos.line X.env=pure false):PS X (.Assign [.Attribute o f pos'] value pos) (zgt X.K ta tv f):=by
 intro pins s U H D I h
 refine plainObj_wpAny_Assign_Attribute (thn (hv pins s U H _ I h) fun u s1 ⟨y,H1,I1,ry,q⟩=>thn (ha pins s1 U H1 _ I1 q) fun ov s2 ⟨x,H2,I2,rx,a,C,t,ex,ea,c,q2⟩=>?_) hs
 subst ex
 obtain rfl:ov=Value.ref a:=rx
 have he:s2.heap.get? a=some { cls:=.ref C,dict:=none,data:=.fields #[.ref t,.none,.none,.none,.bool false,.none] }:=(I2.hok a _ ea).1
 refine zmt I2.kIn he c.sa c.line c.no c.hd fun h' g1 g2 g3 tk=>?_
 have fr:H2 s2.heap.objs.size=none:=I2.hok.fresh (Nat.le_refl _)
 have na:a≠s2.heap.objs.size:=Nat.ne_of_lt (Heap.lt_size he)
 refine ⟨U,_,?_,q2 s2.heap.objs.size fr⟩
 have old:∀b o,s2.heap.get? b=some o->b≠s2.heap.objs.size:=fun b o e=>Nat.ne_of_lt (Heap.lt_size e)
 have ne_a:∀b,H2 b=none->b≠a:=fun b n z=>by rw [z,ea] at n;cases n
 have upEq:∀b,b≠a->b≠s2.heap.objs.size->(upd (upd H2 s2.heap.objs.size (.xd [(f,y)])) a (exO C t (some s2.heap.objs.size) a)) b=H2 b:=fun b n1 n2=>by rw [zG n1,zG n2]
 have isN:∀b u,H2 b=some u->b≠s2.heap.objs.size:=fun b u e z=>by rw [z,fr] at e;cases e
 refine I2.un (t':=tk) ⟨fun b o e n _ _=>g3 b o (ne_a b n) e,fun b o e n _ _=>⟨o.slots,g3 b o (ne_a b n) e⟩,fun b o e n _=>by rw [upEq b (ne_a b n) (old b o e)];exact n,fun b o e _=>?_,fun b xs e=>?_,fun b o u e=>?_,fun b ps e=>?_⟩ fun b uo e=>?_
 ·by_cases z:b=a
  ·exact ⟨_,z▸g1⟩
  ·exact ⟨o,g3 b o z e⟩
 ·have z:b≠a:=fun z=>by rw [z,ea] at e;cases e
  rw [upEq b z (isN b _ e)];exact e
 ·have z:b≠a:=fun z=>by rw [z,ea] at e;cases e
  rw [upEq b z (isN b _ e)];exact e
 ·have z:b≠a:=fun z=>by rw [z,ea] at e;cases e
  exact ⟨#[],by rw [upEq b z (isN b _ e),e];simp⟩
 ·by_cases z:b=a
  ·rw [z] at e ⊢
   rw [yp] at e
   cases e
   exact ⟨g1,⟨_,g1⟩,fun h1 h2 p k=>k _ p⟩
  ·rw [zG z] at e
   by_cases z2:b=s2.heap.objs.size
   ·rw [z2] at e ⊢
    rw [yp] at e
    cases e
    refine ⟨_,g2,fun n=>?_⟩
    show RelO (List.lookup n [(f,y)]) (if n=f then some u else none)
    rw [List.lookup_cons]
    by_cases w':n=f
    ·rw [if_pos w',w',beq_self_eq_true]
     exact ry
    ·rw [if_neg w',beq_eq_false_iff_ne.mpr w']
     exact True.intro
   ·rw [zG z2] at e
    refine (I2.hok b uo e).stay (fun c v hc w'=>g3 c v ?_ w') (fun c w'=>?_) fun c xs w'=>?_
    ·rcases hc with w2|w2
     ·rw [w2];exact z
     ·intro w3
      rw [w3,ea] at w2
      cases w2
    ·have n1:c≠a:=fun w3=>by rw [w3,ea] at w';cases w'
     rw [upEq c n1 (isN c _ w')];exact w'
    ·have n1:c≠a:=fun w3=>by rw [w3,ea] at w';cases w'
     rw [upEq c n1 (isN c _ w')];exact w'
abbrev veLine:List Value:=[.type "ValueError", .type "Exception", .type "BaseException", .type "object"]
theorem zmv {K:Frag}{h:Heap}{N:Addr}{mN:Str->Option Value}{n:Str}{v:Value}(X:K.In h) (G:h.Ns N mN) (e:nsIn K N n=some (some v)):mN n=some v:=by
 obtain ⟨o,es,ep,ho,hd,_,hf⟩:=G
 unfold nsIn at e
 split at e
 ·rename_i q
  have:=X _ _ q
  rw [ho] at this
  cases this
  cases hd
  split at e
  ·rename_i he
   cases e
   rw [<-hf]
   unfold nsFind findBy
   rw [<-Array.find?_toList,he]
   rfl
  ·split at e<;>cases e
 ·cases e
structure ExOf (K:Frag) (C:Addr):Prop where
 ob:∃nm q N bs bm hdct sn sub ab col dd k0 k1 k2 k3 k5,K.lookup C=some (excClassObj nm q C N bs bm hdct sn sub ab col dd k0 k1 k2 k3 k5 "ValueError.__new__")/\tailIn K veLine bm=true/\nsOkIn K N=true
 kp:keepIn K (.ref C)=true
structure ExMk (K:Frag) (C f:Addr):Prop where
 ob:∃nm q N bs bm hdct sn sub ab col dd k0 k1 k2 k3 k5,K.lookup C=some (excClassObj nm q C N bs bm hdct sn sub ab col dd k0 k1 k2 k3 k5 "ValueError.__new__")/\tailIn K veLine bm=true/\nsOkIn K N=true/\nsIn K N "__init__" = some (some (.ref f))
 fn:isFn K (.ref f)=true
 kp:keepIn K (.ref C)=true
theorem ExMk.of {K:Frag}{C f:Addr}(x:ExMk K C f):ExOf K C:=by
 obtain ⟨⟨nm,q,N,bs,bm,hdct,sn,sub,ab,col,dd,k0,k1,k2,k3,k5,a,b,c,_⟩,_,k⟩:=x
 exact ⟨⟨nm,q,N,bs,bm,hdct,sn,sub,ab,col,dd,k0,k1,k2,k3,k5,a,b,c⟩,k⟩
def del (H:Hp) (a:Addr):Hp:=fun b=>if b=a then none else H b
theorem zdy {H:Hp}{a:Addr}:del H a a=none:=if_pos rfl
theorem wT {H:Hp}{a b:Addr}(h:b≠a):del H a b=H b:=if_neg h
theorem zmw {H:Hp}{a:Addr}{o:HO}(h:H a=none):del (upd H a o) a=H:=by
 funext b
 by_cases z:b=a
 ·rw [z,zdy,h]
 ·rw [wT z,zG z]
theorem zmx {H:Hp}{a b:Addr}{o o':HO}(n:a≠b):upd (upd H a o) b o'=upd (upd H b o') a o:=by
 funext c
 by_cases z:c=a
 ·rw [z,zG n,yp,yp]
 ·by_cases z2:c=b
  ·rw [z2,yp,zG (Ne.symm n),yp]
  ·rw [zG z2,zG z,zG z,zG z2]
theorem Inv.drop {X:Cx}{pins:List (Addr×Obj)}{U:St}{H:Hp}{s:Shared}{a:Addr}{φ:Heap->Prop}(I:Inv X pins U H s) (ha:H a=some (.ext φ)):Inv X pins U (del H a) s:=by
 have ne:∀b u,H b=some u->(∀φ,u ≠ .ext φ)->b≠a:=fun b u e n z=>by
  rw [z,ha] at e
  cases e
  exact n _ rfl
 have t:Inv X pins U (del H a) { s with heap:=s.heap,toks:=s.toks }:=I.un ⟨fun b o e _ _ _=>e,fun b o e _ _ _=>⟨o.slots,e⟩,fun b o e n _=>?_,fun b o e _=>⟨o,e⟩,fun b xs e=>?_,fun b o u e=>?_,fun b ps e=>?_⟩ fun b u e=>?_
 ·exact t
 ·unfold del
  split<;>first|rfl|exact n
 ·rw [wT (ne b _ e fun _ z=>by cases z)];exact e
 ·rw [wT (ne b _ e fun _ z=>by cases z)];exact e
 ·exact ⟨#[],by rw [wT (ne b _ e fun _ z=>by cases z),e];simp⟩
 ·have z:b≠a:=fun z=>by rw [z,zdy] at e;cases e
  rw [wT z] at e
  refine (I.hok b u e).stay (fun _ _ _ q=>q) (fun c q=>?_) fun c xs q=>?_
  ·rw [wT (ne c _ q fun _ z=>by cases z)];exact q
  ·rw [wT (ne c _ q fun _ z=>by cases z)];exact q
section
variable {M:Model}{A:Around}{E:Value->Shared->Prop}{env:Env}{s:Shared}
theorem zmy {K:Frag}{x:Sem Value}{Q:Flow->Shared->Prop}(hh:A.handled=none)
  (h:wpAny M A x (fun v al=>∃e C t d,v=.ref e/\K.In al.heap/\ExOf K C/\al.heap.get? e=some { cls:=.ref C,dict:=d,data:=.fields #[.ref t,.none,.none,.none,.bool false,.none] }/\E (.ref e) al) E s):wpAny M A (raiseStmt env (some x) none) Q E s:=by
 unfold raiseStmt
 refine wpAny_bind (wpAny_mono h (fun v al aB=>?_) fun _ _ x=>x)
 obtain ⟨e,C,tt,dx,rfl,kin,⟨⟨nm,q,N,bs,bm,hdct,sn,sub,ab,col,dd,k0,k1,k2,k3,k5,hC,ht,_⟩,_⟩,he,hE⟩:=aB
 have hC:=kin _ _ hC
 have hbase:bm.contains (.type "BaseException")=true:=(tail_of_in kin ht).hasType (by decide)
 have hcB:(Value.ref C::bm).contains (.type "BaseException")=true:=by rw [List.contains_cons,hbase,Bool.or_true]
 obtain ⟨hp,g,d,tk,os⟩:=al
 repeat (first|with_reducible refine wpAny_loadPart_at he ?_|with_reducible refine wpAny_loadPart_at hC ?_|(with_reducible refine wpAny_isSubtype_exc hC ?_;rw [hcB])|wp_step)
 exact wpAny_raiseNew_none hh hE
end
section
variable {X:Cx}{CX:CXT}{k:Nat}{f C:Addr}{fd:FuncData}{ps:List Str}{sp:Sp}{E:XK}
theorem zmz {pins:List (Addr×Obj)}{U:St}{H:Hp}{s:Shared}{Q:VK}{us:List Value}{vs:List V}(M:ExMk X.K C f) (F:FnOk X.prog X.w X.K X.mg X.base CX k f fd ps sp) (hr:Room (k+1) X.A) (hb:Binds X.K fd ps [])
  (hx:Passes CX X E) (I:Inv X pins U H s) (r:Vals vs us) (hz:us.length<=sizeLine)
  (h:∀x t,OwnRec X pins H x->sp (.ref x::vs) (upd H x (exO C t none x)) (fun v H2=>v=.non/\Q (.ref x) H2) E) :
  wpAny (model X.prog X.w) X.A (call (.ref C) us) (EP X pins U Q) X.xe s:=by
 obtain ⟨⟨nm,q,N,bs,bm,hdct,sn,sub,ab,col,dd,k0,k1,k2,k3,k5,hC,ht,hok,hi⟩,hfn,_⟩:=M
 have szl:s.heap.objs.size<=s.heap.objs.size+1:=Nat.le_succ _
 have fr1:H (s.heap.objs.size+1)=none:=I.hok.fresh szl
 have hq:=h (s.heap.objs.size+1) s.heap.objs.size (OwnRec.new I szl fr1)
 let o1:Obj:={ cls:=.type "tuple", data:=.seq us.toArray }
 let o2:Obj:={ cls:=.ref C,data:=.fields #[.ref s.heap.objs.size,.none,.none,.none,.bool false,.none] }
 have e2:((s.heap.push o1).push o2).get? (s.heap.objs.size+1)=some o2:=by
  have:=Heap.get?_push_size (s.heap.push o1) (o:=o2) rfl
  rwa [Heap.size_push] at this
 have I1:Inv X pins U H { s with heap:=s.heap.push o1,toks:=s.toks }:=I.kept fun b u q=>Heap.get?_push_of_some _ q
 have I2:Inv X pins U (upd H (s.heap.objs.size+1) (exO C s.heap.objs.size none (s.heap.objs.size+1))) { s with heap:=(s.heap.push o1).push o2 } :=
  I1.laid (a:=s.heap.objs.size+1) (o:=exO C s.heap.objs.size none (s.heap.objs.size+1)) (t':=s.toks) (fun b u q=>Heap.get?_push_of_some _ q) (Nat.le_of_eq (Heap.size_push _ _)) ⟨e2,⟨_,e2⟩,fun h1 h2 p k=>k _ p⟩
 have r2:Vals (V.ref (s.heap.objs.size+1)::vs) (Value.ref (s.heap.objs.size+1)::us):=.cons rfl r
 have hl:(Value.ref (s.heap.objs.size+1)::us++[]).length=ps.length:=by
  have e:=r2.length
  rw [F.len _ _ _ _ hq] at e
  rw [List.append_nil]
  exact e.symm
 have hbd:=hb { s with heap:=(s.heap.push o1).push o2 } (Value.ref (s.heap.objs.size+1)::us) I2.kIn hl
 rw [List.append_nil] at hbd
 obtain ⟨hp,g,d,tk,os⟩:=s
 refine wpAny_call (zmu (f:=f) PySem.F.excBase_ValueError (tail_of_in I.kIn ht) (I.kIn _ _ hC) (.of_isNs (isNs_of_in I.kIn hok)) (zmv I.kIn (.of_isNs (isNs_of_in I.kIn hok)) hi)
  (fun self=>bind_fn I.kIn self (beq_iff_eq.mp hfn)) hz (codeAny_mono (F.run _ X.stack _ _ ⟨Value.ref (hp.objs.size+1)::us,[]⟩ (Value.ref (hp.objs.size+1)::us) _ _ E (hr.make C us [])
  (I2.env0.make C us []) hbd r2 hq) fun r s' hq'=>?_))
 cases r with
 | error e=>exact hx pins U _ _ e s' I2 hq'
 | ok fl =>
  cases fl with
  | ret u =>
   obtain ⟨v,H',I3,rv,ev,q3⟩:=I2.after hq'
   subst ev
   exact ⟨rv,⟨V.ref (hp.objs.size+1),H',I3,rfl,q3⟩⟩
  | next=>exact False.elim hq'
  | brk=>exact False.elim hq'
  | cont=>exact False.elim hq'
def zgv (C:Addr) (f:Str):Sp:=fun vs H Q _=>∃a t y,vs=[.ref a,y]/\H a=some (exO C t none a)/\∀d,H d=none->Q .non (upd (upd H d (.xd [(f,y)])) a (exO C t (some d) a))
def zmA (C:Addr) (f:Str) (te:TE) (Er:XK):TS:=fun _ U H=>te U H fun y H1=>∀d,H1 d=none->Er (.ref C) (some d) (upd H1 d (.xd [(f,y)]))
theorem zmB {x fld:Str}{e:Expr}{te:TE}{np cpos pos:Pos}{Er:XK}(he:PE X e te) (M:ExMk X.K C f) (F:FnOk X.prog X.w X.K X.mg X.base CX k f fd ps (zgv C fld)) (hr:Room (k+1) X.A) (hg:Gl X x) (hm:X.mg x=some (.ref C))
  (hb:Binds X.K fd ps []) (hx:Passes CX X Er) (ht:Throws X Er) (hc:X.calm=true) (hdb:(x==("__debug__" : Str))=false:=by decide)
  (hs:starEach [e] X.env=(false,eval e X.env)::starEach [] X.env:=by rfl):PS X (.Raise (some (.Call (.Name x np) [e] [] cpos)) none pos) (zmA C fld te Er):=by
 intro pins s U H D I h
 rw [arm_exec_Raise]
 refine wpAny_bind (wpAny_standAt ?_)
 refine zmy (K:=X.K) (I.ok.hd hc) ?_
 refine wpAny_bind (thn (Q:=EP X pins U fun v H2=>∃a t d,v=.ref a/\OwnRec X pins (del H2 a) a/\H2 a=some (exO C t (some d) a)/\Er (.ref C) (some d) (del H2 a)) ?_ fun u s1 ⟨v,H2,I2,rv,a,t,d,ev,ow,ha,q⟩=>wpAny_bind (wpAny_standAt (wpAny_pure ?_)))
 ·refine wpAny_Call_Name_kw (zaR I hg hm ?_ hdb)
  refine PySem.W.callWith_K (h₀:=X.base) I.ok.mod.kin M.kp (spliced_more (thn (he pins s U H _ I h) fun u s1 ⟨y,H1,I1,ry,q⟩=>?_) hs) hs rfl
  refine spliced_none ⟨I1.kIn,?_⟩
  refine zmz (vs:=[y]) M F hr hb hx I1 (.cons ry .nil) (show 1<=sizeLine by decide) fun a t ow=>⟨a,t,y,rfl,yp,fun d hd=>⟨rfl,a,t,d,rfl,?_,yp,?_⟩⟩
  ·exact ⟨zdy,ow.2⟩
  ·have n:d≠a:=fun z=>by rw [z,yp] at hd;cases hd
   rw [zG n] at hd
   have e1:del (upd (upd (upd H1 a (exO C t none a)) d (.xd [(fld,y)])) a (exO C t (some d) a)) a=upd H1 d (.xd [(fld,y)]):=by
    rw [zmx (Ne.symm n),zjM]
    exact zmw (by rw [zG (Ne.symm n)];exact ow.1)
   rw [e1]
   exact q d hd
 ·subst ev
  obtain rfl:u=Value.ref a:=rv
  have he:s1.heap.get? a=some { cls:=.ref C,dict:=some d,data:=.fields #[.ref t,.none,.none,.none,.bool false,.none] }:=(I2.hok a _ ha).1
  exact ⟨a,C,t,some d,rfl,I2.kIn,M.of,he,ht pins U _ s1 a C (some d) (Inv.drop I2 ha) ⟨.none,⟨_,_,he,rfl,rfl,rfl,rfl,rfl⟩,ow,.inl rfl⟩ q⟩
end
def XP (X:Cx) (pins:List (Addr×Obj)) (U:St) (E:XK) (u:Value) (s':Shared):Prop:=∃(a C:Addr) (d:Option Addr) (H':Hp),u=.ref a/\Inv X pins U H' s'/\Fly X pins H' s'.heap a C d/\E (.ref C) d H'
abbrev TX:=St->Hp->VK->XK->Prop
def PX (X:Cx) (e:Expr) (t:TX):Prop :=
 ∀(pins:List (Addr×Obj)) (s:Shared) (U:St) (H:Hp) (Q:VK) (E:XK),Inv X pins U H s->t U H Q E->wpAny (model X.prog X.w) X.A (eval e X.env) (EP X pins U Q) (XP X pins U E) s
section
variable {X:Cx}{k:Nat}{f C:Addr}{fd:FuncData}{ps:List Str}{sp:Sp}{dvs:List V}{ds:List Value}{E:XK}{x m:Str}{p pos apos:Pos}{e o:Expr}{es:List Expr}{ta:TE}{t:TA}
theorem zmC {pins:List (Addr×Obj)}{U:St}{H:Hp}{s:Shared}{Q:VK}{us:List Value}{vs:List V}(F:FnOk X.prog X.w X.K X.mg X.base (CXe X.prog X.w) k f fd ps sp) (hr:Room k X.A) (hb:Binds X.K fd ps ds) (hd:Vals dvs ds)
  (I:Inv X pins U H s) (r:Vals vs us) (h:sp (vs++dvs) H Q E):wpAny (model X.prog X.w) X.A (call (.ref f) us) (EP X pins U Q) (XP X pins U E) s:=by
 have r2:Vals (vs++dvs) (us++ds):=r.append hd
 have hl:(us++ds).length=ps.length:=by rw [<-r2.length];exact F.len _ _ _ _ h
 refine wpAny_call (codeAny_mono (F.run X.A X.stack s H ⟨us,[]⟩ (us++ds) (vs++dvs) Q E hr I.env0 (hb s us I.kIn hl) r2 h) fun r s' hq=>?_)
 cases r with
 | error e =>
  obtain ⟨a,C,T,d,H',rfl,os,bare,un,hok,x,ne,tb,⟨a1,a2⟩,⟨t1,t2⟩,q⟩:=hq
  have I':Inv X pins U H' s':=I.call' (ch:=[]) os un hok bare fun b z=>absurd z (by simp)
  exact ⟨a,C,d,H',rfl,I',⟨_,x,OwnRec.new I a1 a2,.inr ⟨T,rfl,ne,tb,OwnRec.new I t1 t2⟩⟩,q⟩
 | ok fl =>
  cases fl with
  | ret u=>exact I.after hq
  | next=>exact False.elim hq
  | brk=>exact False.elim hq
  | cont=>exact False.elim hq
end
def exC (C:Addr) (d:Option Addr) (a:Addr):HO:=.ext fun h=>∃T:Addr,XO h a (.ref C) d (.ref T)
abbrev Cx.caught (X:Cx) (a:Addr):Cx:={ X with A:=X.A.mark (some (.ref a)),calm:=false,xe:=fun _ _=>False }
section
variable {X:Cx}{pins:List (Addr×Obj)}{U:St}{H:Hp}{s:Shared}{a C:Addr}{d:Option Addr}
theorem Inv.caught (I:Inv X pins U H s) (a:Addr):Inv (X.caught a) pins U H s :=
 ⟨⟨I.ok.mod,I.ok.kind,I.ok.glob,I.ok.blt,I.ok.above,I.ok.inj,I.ok.has,I.ok.cab,(fun z=>nomatch z),I.ok.frames,I.ok.stk,I.ok.exf,I.ok.bs,I.ok.bsz,I.ok.noex,I.ok.exfs,I.ok.funs,I.ok.frf⟩,I.os,I.bare,I.base,I.loc,I.cell,I.free,I.freeC,I.pin,I.hok,I.len⟩
theorem Inv.uncaught (J:X.Ok) (I:Inv (X.caught a) pins U H s):Inv X pins U H s:=⟨J,I.os,I.bare,I.base,I.loc,I.cell,I.free,I.freeC,I.pin,I.hok,I.len⟩
theorem Inv.track {o:HO}(I:Inv X pins U H s) (ow:OwnRec X pins H a) (new:ObjOk X.prog X.w (upd H a o) s.heap a o):Inv X pins U (upd H a o) s:=by
 have ne:∀b u,H b=some u->b≠a:=fun b u e z=>by rw [z,ow.1] at e;cases e
 have t:=I.step (h':=s.heap) (H':=upd H a o) (g':=s.gens) (t':=s.toks) (d':=s.drawn) (ch:=[a]) (fun b hb=>?_) (fun b u _ _ _ e _=>e) (fun b u _ _ _ e _=>⟨u.slots,e⟩) (fun b u nb e n=>?_) (fun b u _ e=>⟨u,e⟩) (fun b xs e=>?_) (fun b u v e=>?_) (fun b ps e=>?_) (fun m hm=>hm) (fun b u e=>?_) I.bare
 ·exact t
 ·have z:b=a:=by simpa using hb
  rw [z]
  exact ⟨.inr ow.2.1,ow.2.2.1,ow.2.2.2.1,ow.2.2.2.2⟩
 ·rw [zG (fun z=>nb (by simp [z]))];exact n
 ·rw [zG (ne b _ e)];exact e
 ·rw [zG (ne b _ e)];exact e
 ·exact ⟨#[],by rw [zG (ne b _ e),e];simp⟩
 ·by_cases z:b=a
  ·rw [z] at e ⊢
   rw [yp] at e
   cases e
   exact new
  ·rw [zG z] at e
   exact (I.hok b u e).stay (fun _ _ _ q=>q) (fun c q=>by rw [zG (ne c _ q)];exact q) fun c xs q=>by rw [zG (ne c _ q)];exact q
theorem Inv.catch {T:Addr}(I:Inv X pins U H s) (ow:OwnRec X pins H a) (x:XO s.heap a (.ref C) d (.ref T)):Inv X pins U (upd H a (exC C d a)) s :=
 Inv.track I ow ⟨⟨T,x⟩,(let ⟨oe,_,e,_⟩:=x;⟨oe,e⟩),fun h1 h2 p k=>let ⟨T,z⟩:=p;⟨T,z.keeps fun o q=>k o q⟩⟩
theorem zmD {M:Model}{A:Around}{E:Value->Shared->Prop}{j:Nat}{n:Str}{pos:Pos}{Q:Unit->Shared->Prop}(I:Inv X pins U H s) (hN:X.N.Nodup) (hj:X.N[j]?=some n) (hk:X.env.scope.names.lookup n=some .local)
  (h:∀s',Inv X pins (U.set j none) H s'->Q () s'):wpAny M A (do bindName X.env n .none;unbindBehindTheSuite X.env n pos) Q E s:=by
 obtain ⟨m,hn,hl⟩:=id I.loc
 have hcls:(X.env.scope.kind == .class||(X.env.scope.kind == .module&&X.env.locals != X.env.globals))=false:=by rw [I.ok.kind];rfl
 have aH:j<U.length:=by rw [I.len];exact (List.getElem?_eq_some_iff.mp hj).1
 have cne:=I.cne
 obtain ⟨oL,_,_,hoL,_⟩:=id hn
 refine wpAny_nameGoes_keeps hk hn hcls fun h' v hn' hs=>?_
 refine h _ ⟨I.ok,I.os,I.bare,⟨fun b o e n hb hx=>?_,fun b o e n hb hx=>?_,I.base.free,fun b o e hx=>?_,I.base.tups,I.base.frzs,I.base.tbls⟩,⟨_,hn',fun i y v' e1 e2 e3=>?_⟩,fun y c e=>?_,I.free,I.freeC,fun p hp=>?_,fun b ob e=>?_,by simpa using I.len⟩
 ·exact (hs.2 b (Nat.ne_of_lt (Nat.lt_of_lt_of_le (Heap.lt_size e) I.ok.above))).trans (I.base.keep b o e n hb hx)
 ·obtain ⟨sl,e1⟩:=I.base.slot b o e n hb hx
  exact ⟨sl,(hs.2 b (Nat.ne_of_lt (Nat.lt_of_lt_of_le (Heap.lt_size e) I.ok.above))).trans e1⟩
 ·obtain ⟨o',e1⟩:=I.base.there b o e hx
  exact ⟨o',(hs.2 b (Nat.ne_of_lt (Nat.lt_of_lt_of_le (Heap.lt_size e) I.ok.above))).trans e1⟩
 ·by_cases hi:i=j
  ·subst hi
   rw [List.getElem?_set_self aH] at e2
   cases e2
  ·rw [List.getElem?_set_ne (Ne.symm hi)] at e2
   obtain ⟨u',r',q⟩:=hl i y v' e1 e2 e3
   refine ⟨u',r',?_⟩
   rcases q with ⟨k,e⟩|⟨k,c,e,z⟩
   ·refine .inl ⟨k,?_⟩
    have:y≠n:=fun e=>hi (zdm hN e1 (e▸hj))
    simp [this,e]
   ·exact .inr ⟨k,c,e,z.sameBut hs (cne y c e)⟩
 ·obtain ⟨w',z⟩:=I.cell y c e
  exact ⟨w',z.sameBut hs (cne y c e)⟩
 ·obtain ⟨e,n,ne,nf,d⟩:=I.pin p hp
  exact ⟨(hs.2 p.1 ne).trans e,n,ne,nf,d⟩
 ·refine (I.hok b ob e).stay (fun c w' hc q=>(hs.2 c ?_).trans q) (fun _ q=>q) fun _ _ q=>q
  rintro rfl
  rcases hc with rfl|hc
  ·rw [I.free] at e;cases e
  ·rw [I.free] at hc;cases hc
end
def zmE (C:Addr) (i j:Nat) (tv:TX) (tsu:TS):TS:=fun D U H=>tv U H (fun v H1=>D.nx (U.set i (some v)) H1)
 (fun c d H1=>c=.ref C/\∀a,H1 a=none->tsu { nx:=fun ai H'=>D.nx (ai.set j none) H',rt:=fun _ _=>False } (U.set j (some (.ref a))) (upd H1 a (exC C d a)))
theorem zmF {X:Cx}{C:Addr}{i j:Nat}{x n cls:Str}{value:Expr}{tv:TX}{tsu:TS}{b0:Stmt}{suite:List Stmt}{xp ap cp hp pos:Pos}(hN:X.N.Nodup) (hi:X.N[i]?=some x) (hx:Loc X.env.scope x) (hj:X.N[j]?=some n) (hn:X.env.scope.names.lookup n=some .local)
  (hv:PX X value tv) (hg:Gl X cls) (hm:X.mg cls=some (.ref C)) (hC:ExOf X.K C) (hsu:∀a,PSs (X.caught a) (b0::suite) tsu) (hst:X.stack=X.env::X.outer) (hfr:X.env.frame=some X.env.locals)
  (hsw:swapsWith value (some (.Name x xp)) ap.line X.env=pure false:=by rfl) (hf:X.fn x=true\/X.env.scope.names.lookup x=some .local:=by first|exact .inl rfl|exact .inr rfl|assumption) (hdb:(cls==("__debug__" : Str))=false:=by decide) :
  PS X (.Try [.Assign [.Name x xp] value ap] [.ExceptHandler (some (.Name cls cp)) (some n) (b0::suite) hp] [] [] pos) (zmE C i j tv tsu):=by
 intro pins s U H D I h
 rw [arm_exec_Try]
 refine wpAny_bind (wpAny_standAt (wpAny_tryStmt_except (wpAny_execs_cons (wpAny_Assign_Name (wpAny_mono (hv pins s U H _ _ I h) (fun v s1 ⟨y,H1,I1,r1,q1⟩=>zaj I1 hN hi hx r1 (fun s2 I2=>?_) hf) (fun u s1 ⟨a,C',d,H1,eu,I1,fly,ec,q⟩=>?_)) hsw))))
 ·exact wpAny_execs_nil (wpAny_execs_nil ⟨_,H1,I2,q1⟩)
 subst eu
 cases ec
 refine zgq I1 I.ok.frames hst hfr fly fun s2 T I2 x2 ne tb2 oa oT=>zdx I2 x2 ne tb2 oa oT fun s3 I3 x3 tb3=>?_
 refine wpAny_handleBy_cons (codeAny_handlers_test ?_) (by intro q;cases q)
 refine zaR (X:=X.caught a) (Inv.caught I3 a) hg hm ?_ hdb
 obtain ⟨⟨nm,q',N,bs,bm,hdct,sn,sub,ab,col,dd,k0,k1,k2,k3,k5,hl,ht,_⟩,_⟩:=hC
 have hCl:=I3.kIn _ _ hl
 have hbase:bm.contains (.type "BaseException")=true:=(tail_of_in I3.kIn ht).hasType (by decide)
 obtain ⟨oe,vs,he,hcls,_⟩:=id x3
 refine wpAny_excMatches_sub_self (h:=s3.heap) (g:=s3.gens) (d:=s3.drawn) (t:=s3.toks) (os:=s3.os) hCl he hcls hbase ?_
 refine codeAny_handlers_suite_as (zdx I3 x3 ne tb3 oa oT fun s4 I4 x4 tb4=>?_)
 have I5:=Inv.catch I4 oa x4
 refine zaj I5 hN hj (.inl hn) (v:=.ref a) rfl (fun s5 I6=>?_) (.inr hn)
 refine wpAny_mono (hsu a pins s5 _ _ _ (Inv.caught I6 a) (q a oa.1)) (fun f s6 z=>?_) fun _ _ z=>z.elim
 cases f with
 | next =>
  obtain ⟨ai,H',I7,q7⟩:=z
  exact zmD (Inv.uncaught I.ok I7) hN hj hn fun s7 I8=>⟨_,H',I8,q7⟩
 | brk=>obtain ⟨_,_,_,z⟩:=z;exact z.elim
 | cont=>obtain ⟨_,_,_,z⟩:=z;exact z.elim
 | ret u=>obtain ⟨_,_,_,_,_,z⟩:=z;exact z.elim
section
variable {X:Cx}{pins:List (Addr×Obj)}{U:St}{H:Hp}{s:Shared}{a C d:Addr}{fs:List (Str×V)}{A:Around}{E:Value->Shared->Prop}
theorem zgw (I:Inv X pins U H s) (ha:H a=some (exC C (some d) a)) (hd:H d=some (.xd fs)):∃ox od,InstAt s.heap a ox C (some od)/\∀n,∃o,lookIn n od=some o/\RelO (fs.lookup n) o:=by
 obtain ⟨T,oe,vs,e,hc,hdi,hdt,_⟩:=(show ObjOk X.prog X.w H s.heap a (exC C (some d) a) from I.hok a _ ha).1
 obtain ⟨mA,hn,r⟩:=(show ObjOk X.prog X.w H s.heap d (.xd fs) from I.hok d _ hd)
 obtain ⟨od,ho,hl⟩:=zfK hn
 refine ⟨oe,od,⟨e,hc,by unfold notCls;rw [hdt],by rw [hdi];exact ho⟩,fun n=>⟨mA n,hl n,r n⟩⟩
end
theorem ExMk.mk' {K:Frag}{C B N f:Addr}{nm q:Str}{bs:List Value}{hdct:Bool}{sn:List Str}{sub:List Value}{ab:Bool}{col:Option Bool}{dd:Option Addr}{k0 k1 k2 k3 k5:Option Value}{c:Value}{d:Option Addr}{es:Array DictEntry}{n:Nat}{sl:Array (Option Value)}
  (hC:K.lookup C=some (excClassObj nm q C N bs (.ref B::veLine) hdct sn sub ab col dd k0 k1 k2 k3 k5 "ValueError.__new__")) (hB:excIn K B veLine "ValueError.__new__" = true)
  (hN:K.lookup N=some ⟨c,d,.dict es n,sl⟩) (he:(es.all fun e=>match e.key with | .str _ _=>true|_=>false)=true) (hi:nsIn K N "__init__" = some (some (.ref f))) (fn:isFn K (.ref f)=true) (kp:keepIn K (.ref C)=true):ExMk K C f:=by
 refine ⟨⟨nm,q,N,bs,_,hdct,sn,sub,ab,col,dd,k0,k1,k2,k3,k5,hC,?_,?_,hi⟩,fn,kp⟩
 ·unfold excIn at hB
  split at hB
  ·rename_i dd cd sl ho
   split at hB
   ·simp only [Bool.and_eq_true,beq_iff_eq,Bool.not_eq_true'] at hB
    obtain ⟨⟨_,hok⟩,hni⟩:=hB
    unfold tailIn
    dsimp only
    rw [ho]
    have t0:tailIn K veLine veLine=true:=by unfold tailIn;rw [beq_self_eq_true,Bool.true_or]
    simp only [hok,hni,beq_self_eq_true,Bool.true_and,t0,Bool.or_true]
   ·cases hB
  ·cases hB
 ·unfold nsOkIn
  rw [hN]
  exact he
def Has (X:Cx) (CX:CXT) (k:Nat) (f:Addr) (sp:Sp):Prop:=∃fd ps,FnOk X.prog X.w X.K X.mg X.base CX k f fd ps sp/\keepIn X.K (.ref f)=true/\Binds X.K fd ps []
def zmG (X:Cx) (CX:CXT) (k:Nat) (E:XK) (tf:TE) (t:TA):TE:=fun U H Q=>tf U H fun v H0=>∃f sp,v=.ref f/\Has X CX k f sp/\t U H0 fun vs H1=>sp vs H1 Q E
theorem zmH {X:Cx}{CX:CXT}{k:Nat}{E:XK}{x:Str}{p pos:Pos}{e:Expr}{es:List Expr}{tf:TE}{t:TA}(hf:PE X (.Name x p) tf) (hr:Room k X.A) (hx:Passes CX X E) (ha:PA X (e::es) t)
  (he:starEach (e::es) X.env=(false,eval e X.env)::starEach es X.env:=by rfl) (hpl:(backTo pos (starEach es X.env)).any (·.1)=false:=by rfl):PE X (.Call (.Name x p) (e::es) [] pos) (zmG X CX k E tf t):=by
 intro pins s U H Q I h
 refine wpAny_Call_Name_kw (thn (hf pins s U H _ I h) fun u s1 ⟨v,H0,I0,rv,f,sp,ev,⟨fd,ps,F,hk,hb⟩,q⟩=>?_)
 subst ev
 obtain rfl:u=Value.ref f:=rv
 refine PySem.W.callWith_K (h₀:=X.base) I.ok.mod.kin hk (thn (ha pos pins s1 U H0 _ I0 q) fun us s2 ⟨vs,H1,I1,r,q1⟩=>⟨I1.kIn,?_⟩) he hpl
 exact zfO F hr hb .nil hx I1 r (by rw [List.append_nil];exact q1)
section
variable {prog:Program}{w:World}{A:Around}{E:Value->Shared->Prop}{h:Heap}{g:Array GenState}{d:Drawn}{t:Nat}{os:OsState}
variable {nm q:Str}{C N:Addr}{bs bm bmB:List Value}{hdct:Bool}{sn:List Str}{sub:List Value}{ab:Bool}{col:Option Bool}{dd:Option Addr}{k0 k1 k2 k3 k5:Option Value}{B newId initId:String}
end
def sRaise0 (C:Addr) (Er:XK):TS:=fun _ _ H=>Er (.ref C) none H
end L2
namespace L2
open PySem PySem.Spec PyProof.Rows PySem.W
def Noted (X:Cx) (pins:List (Addr×Obj)) (H:Hp) (h:Heap) (a C:Addr) (d:Option Addr):Prop :=
 ∃T,XO h a (.ref C) d (.ref T)/\T≠a/\TB h T (rawInt X.env.locals)/\OwnRec X pins H a/\OwnRec X pins H T
def zdz (X:Cx) (pins:List (Addr×Obj)) (H:Hp) (h:Heap) (a C:Addr) (d:Option Addr):Prop:=Fly X pins H h a C d\/Noted X pins H h a C d
def jM (X:Cx) (E:XK):Prop:=∀(pins:List (Addr×Obj)) (U:St) (H:Hp) (s:Shared) (a C:Addr) (d:Option Addr),Inv X pins U H s->zdz X pins H s.heap a C d->E (.ref C) d H->X.xe (.ref a) s
theorem jM.one {X:Cx}{E:XK}(t:jM X E):Throws X E:=fun pins U H s a C d I F q=>t pins U H s a C d I (.inl F) q
def XA (X:Cx) (Er:XK) (e:Value) (s:Shared):Prop:=∃(pins:List (Addr×Obj)) (U:St) (H:Hp) (a C:Addr) (d:Option Addr),e=.ref a/\Inv X pins U H s/\zdz X pins H s.heap a C d/\Er (.ref C) d H
section
variable {X:Cx}{pins:List (Addr×Obj)}{U:St}{H:Hp}{s:Shared}{a C:Addr}{d:Option Addr}{A:Around}{E:Value->Shared->Prop}{Q:Unit->Shared->Prop}{Er:XK}
theorem zE:jM (X.wish (XA X Er)) Er:=fun pins U H s a C d I F q=>⟨pins,U,H,a,C,d,rfl,I.unwish,F,q⟩
theorem zgx (I:Inv X pins U H s) (hfr:A.frames=some X.stack) (hst:X.stack=X.env::X.outer) (hf:X.env.frame=some X.env.locals) (F:zdz X pins H s.heap a C d)
  (h:∀s' T,Inv X pins U H s'->XO s'.heap a (.ref C) d (.ref T)->T≠a->TB s'.heap T (rawInt X.env.locals)->OwnRec X pins H a->OwnRec X pins H T->Q () s'):wpAny (model X.prog X.w) A (noteFrame (.ref a) X.env) Q E s:=by
 rcases F with F|⟨T,x,ne,tb,oa,oT⟩
 ·exact zgq I hfr hst hf F h
 ·obtain ⟨oe,vs,e,_,_,hd,_,h1⟩:=id x
  obtain ⟨ot,ts,et,hdt,h3⟩:=id tb
  unfold noteFrame
  simp only [hf]
  refine wpAny_bind (wpAny_field e hd h1 ?_)
  rw [if_pos (show (Value.ref T != Value.none)=true by simp)]
  refine wpAny_bind (wpAny_field et hdt h3 ?_)
  rw [if_pos (by simp)]
  exact wpAny_pure (h s T I x ne tb oa oT)
theorem zmI {T f:Addr}{fl:Value}(x:XO s.heap a (.ref C) d (.ref T)) (t:TB s.heap T fl) (ne:T≠a)
  (h:∀h',XO h' a (.ref C) d (.ref T)->TB h' T (rawInt f)->(∀b o,b≠T->s.heap.get? b=some o->h'.get? b=some o)->Q () { s with heap:=h' }) {M:Model}:wpAny M A (setFlight (.ref a) (some f)) Q E s:=by
 obtain ⟨oe,vs,e,_,_,hd,_,h1⟩:=id x
 obtain ⟨oT,ts,eT,hdT,h3⟩:=id t
 unfold setFlight
 refine wpAny_bind (wpAny_field e hd h1 ?_)
 rw [if_pos (show (Value.ref T != Value.none)=true by simp)]
 refine wpAny_setField eT hdT (Array.getElem?_eq_some_iff.mp h3).1 ?_
 exact h _ (x.keeps fun o q=>(Heap.get?_update_other _ _ ne).trans q) (t.set3 _) fun b o nb q=>(Heap.get?_update_other _ _ (Ne.symm nb)).trans q
theorem jW (hst:X.stack=X.env::X.outer) (hf:X.env.frame=some X.env.locals):PassesOwn (model X.prog X.w) X.A X.env (XA X Er):=by
 rintro e s ⟨pins,U,H,a,C,d,rfl,I,F,q⟩
 unfold notedBy
 refine zgx I I.ok.frames hst hf F fun s2 T I2 x2 ne tb2 oa oT=>?_
 unfold cameBackBy
 obtain ⟨oe,vs,e2,_,_,hd,_,h1⟩:=id x2
 refine wpAny_bind (wpAny_field e2 hd h1 ?_)
 rw [if_neg (show ¬((Value.ref T==Value.none)=true) by simp),hf]
 refine zmI x2 tb2 ne fun h' x3 tb3 k3=>⟨pins,U,H,a,C,d,rfl,?_,.inr ⟨T,x3,ne,tb3,oa,oT⟩,q⟩
 exact I2.turned (t':=s2.toks) (it:=T) (fun b o nb e=>k3 b o nb e) oT.1 oT.2.2.1 (.inr oT.2.1) oT.2.2.2.1 oT.2.2.2.2
theorem PSs.throwing {st:List Stmt}{t:TS}(h:PSs (X.wish (XA X Er)) st t) (ht:jM X Er):PSs X st t:=fun pins s U H D I hw =>
 wpAny_mono (h pins s U H D (I.wish _) hw) (fun _ _ q=>q.unwish) fun e s' ⟨pins,U,H,a,C,d,ee,I1,F,q⟩=>ee▸ht pins U H s' a C d I1 F q
theorem zbX (t:jM X Er):Passes (CXe X.prog X.w) X Er:=zmq t.one
end
theorem zmJ {P:Program}{w:World}{K:PySem.W.Frag}{mg:Str->Option Value}{base:Heap}{N:List Str}{qual:Str}{scope:Scope}{f:Addr}{cd:Value}{A:Around}{outer:List Env}{s:Shared}{H:Hp}{E:XK} :
  jM (cxOf (CXe P w) P w K mg base N qual scope f cd A outer s H E) E:=by
 intro pins U H1 s1 a C d I F q
 show wpAny (model P w) (A.deeper (envOfC qual scope s.heap.objs.size f cd)) (leaving (envOfC qual scope s.heap.objs.size f cd) (.ref a)) _ _ s1
 unfold leaving
 refine wpAny_bind (zgx I I.ok.frames rfl rfl F fun s2 T I2 x ne tb oa oT=>zdx I2 x ne tb oa oT fun s3 I3 x3 tb3=>?_)
 exact ⟨a,C,T,d,H1,rfl,I3.os,I3.bare,I3.base,I3.hok,x3,ne,tb3,⟨oa.2.1,oa.1⟩,⟨oT.2.1,oT.1⟩,q⟩
section
variable {P:Program}{w:World}{K:PySem.W.Frag}{mg:Str->Option Value}{base:Heap}
theorem Fun.okT {x qual:Str}{st:Stmt}{f:Addr}{fd:FuncData}{N ps:List Str}{k:Nat}{sp:Sp}(F:Fun K x qual st f fd) (S:FnScope N ps (zB st)) (len:∀vs H Q E,sp vs H Q E->vs.length=ps.length)
  (hbody:∀(cdv:Value) (A:Around) (outer:List Env) (s:Shared) (H:Hp) (vs:List V) (Q:VK) (E:XK),Room k (A.deeper (envOfC qual (zB st) s.heap.objs.size f cdv))->sp vs H Q E ->
   ∃t,PSs ((cxOf (CXe P w) P w K mg base N qual (zB st) f cdv A outer s H E).wish (XA (cxOf (CXe P w) P w K mg base N qual (zB st) f cdv A outer s H E) E)) (yM st) t/\t { nx:=fun _ H'=>Q .non H',rt:=Q } (start N vs) H):FnOk P w K mg base (CXe P w) (k+1) f fd ps sp :=
 Fun.okX F S len fun cdv A outer s H vs Q E hr hs=>let ⟨t,h1,h2⟩:=hbody cdv A outer s H vs Q E hr hs;⟨t,PSs.throwing h1 zmJ,h2⟩
end
end L2
namespace L2
open PySem PySem.Spec PyProof.Rows PySem.W PySem.Builtin PySem.Builtin.ObjectAttr
section
variable {prog:Program}{w:World}{A:Around}{E:Value->Shared->Prop}{K:Frag}{x C:Addr}{s:Shared}{ox:Obj}{od:Option Obj}{name:Str}{tk:Tok}
structure ExGa (K:Frag) (C:Addr):Prop where
 ga:findIn K (.ref C) "__getattribute__" = some (some (.builtin "BaseException.__getattribute__"))
 hk:findIn K (.ref C) "__getattr__" = some none
 hB:mroIn K C (.type "BaseException")=some true
theorem zgy {fill expr:Bool}{Q:Value->Shared->Prop}(X:K.In s.heap) (I:InstAt s.heap x ox C od) (G:ExGa K C)
  (h:wpAny (model prog w) A.in1 (Builtin.«object.__getattribute__» ⟨[.ref x,.str name tk],[]⟩) (fun fin s'=>∃v,fin=.done (.ret v)/\handedIn v=true/\Q v s') (fun _ _=>False) s) :
  wpAny (model prog w) A (getAttrBy (.ref x) (.str name tk) fill expr) Q E s:=by
 have L0:=I.type (M:=model prog w)
 have L1:=looks_findIn (M:=model prog w) X G.ga
 have L2:=looks_findIn (M:=model prog w) X G.hk
 have isB:Looks (model prog w) s.heap (isInstance (.ref x) (.type "BaseException")) true:=I.type.andThen (looks_mroIn X G.hB)
 unfold getAttrBy
 refine wpAny_holding (wpAny_bind (L0.here (wpAny_bind (L1.here ?_))))
 dsimp only
 rw [if_neg (show ¬((onTheHeap (Value.ref C)&&Value.builtin "BaseException.__getattribute__" == Value.builtin "object.__getattribute__")=true) by
  rw [show (Value.builtin "BaseException.__getattribute__" == Value.builtin "object.__getattribute__")=false by decide +kernel,Bool.and_false];exact Bool.false_ne_true)]
 unfold getAttrByItsOwn hookBefore
 rw [if_pos (show onTheHeap (Value.ref C)=true from rfl)]
 refine wpAny_bind (L2.here (wpAny_bind (wpAny_attempt (wpAny_holding ?_))))
 unfold callGetattribute
 rw [if_neg (show ¬((expr&&onTheHeap (Value.builtin "BaseException.__getattribute__"))=true) by cases expr<;>exact Bool.false_ne_true)]
 unfold boundAndCalled
 refine wpAny_bind (wpAny_of_eq (PySem.F.excAttr_ValueError.ga.bind (.ref x)) ?_)
 refine wpAny_call (codeAny_call_builtin PySem.F.excAttr_ValueError.ga.plain PySem.F.entry_bexc_ga (@check_slot (model prog w) _ _ s "BaseException.__getattribute__" "BaseException" "__getattribute__" (.ref x) [.str name tk] [] _ (by decide +kernel) (by decide +kernel) isB (PySem.F.args_bexc_ga (.ref x) (.str name tk)) ?_))
 refine wpAny_mono h (fun fin s' ⟨v,ef,hv,q⟩=>?_) fun _ _ z=>z.elim
 subst ef
 show wpAny _ _ (handedOut v) _ _ _
 rw [handedOut_of hv]
 exact wpAny_pure q
theorem zmK {v:Value}{Q:Fin->Shared->Prop}(X:K.In s.heap) (I:InstAt s.heap x ox C od) (hf:findObj K C od name=some (.value v)) (h:Q (.done (.ret v)) s) :
  wpAny (model prog w) A (Builtin.«object.__getattribute__» ⟨[.ref x,.str name tk],[]⟩) Q E s:=by
 have L0:=I.type (M:=model prog w)
 have L1:=looks_find (M:=model prog w) X I hf
 exact wpAny_bind (wpAny_pure (wpAny_bind (wpAny_pure (wpAny_bind (L0.here (wpAny_bind (L1.here (wpAny_pure h))))))))
theorem zmL {Q:Fin->Shared->Prop} (X:K.In s.heap) (I:InstAt s.heap x ox C od) (hf:findObj K C od "__class__" = some (.bind (.builtin "getset_descriptor.__get__") (.builtin "object.__class__"))) (hm:mroIn K C (.type "object")=some true)
  (h:Q (.done (.ret (.ref C))) s):wpAny (model prog w) A (Builtin.«object.__getattribute__» ⟨[.ref x,.str "__class__" tk],[]⟩) Q E s:=by
 have L0:=I.type (M:=model prog w)
 have L1:=looks_find (M:=model prog w) X I hf
 refine wpAny_bind (wpAny_pure (wpAny_bind (wpAny_pure (wpAny_bind (L0.here (wpAny_bind (L1.here ?_)))))))
 show wpAny _ _ (holding [.builtin "object.__class__"] (call (.builtin "getset_descriptor.__get__") [.builtin "object.__class__", .ref x,.ref C]) >>= ret) _ _ _
 exact wpAny_bind (wpAny_holding (wpAny_call (class_get (ox:=ox) (od:=od) X I hm (wpAny_pure h))))
end
theorem zmM {K:Frag} {x D:Addr} {ox:Obj} {od:Option Obj} (G:ExGa K D) (hcl:(clsIn K D).isSome=true) (hf:findObj K D od "__class__" = some (.bind (.builtin "getset_descriptor.__get__") (.builtin "object.__class__"))) (hm:mroIn K D (.type "object")=some true) :
  KitX K (.ref x) (.ref D) (fun h=>InstAt h x ox D od):=by
 obtain ⟨cd,hc⟩:=Option.isSome_iff_exists.mp hcl
 unfold clsIn at hc
 split at hc
 ·rename_i c' d' cd' sl' ho
  refine ⟨fun _ _ _ I=>I.type,fun M h X _=>?_,fun h tp dd its n sl X htp=>?_,fun {prog w A E Q s} X I k=>?_⟩
  ·intro A' Q' E' s' k q
   unfold isType loadHead
   exact wpAny_bind (wpAny_loadPart (k _ _ (X _ _ ho)) (wpAny_pure q))
  ·refine Bool.eq_false_iff.mpr fun q=>?_
   obtain rfl:D=tp:=Value.ref.inj (beq_iff_eq.mp q)
   have z:=(X _ _ ho).symm.trans htp
   cases z
  ·unfold getAttr? getAttrBy?
   refine wpAny_bind (wpAny_mkText (wpAny_bind (wpAny_attempt ?_)))
   exact zgy (s:={ s with toks:=s.toks+1 }) X I G (zmL (s:={ s with toks:=s.toks+1 }) X I hf hm ⟨_,rfl,rfl,wpAny_pure k⟩)
 ·cases hc
structure ExIs (K:Frag) (C:Addr):Prop where
 g:ExGa K C
 hd:hasDictIn K C=true
 ha:findIn K (.ref C) "__class__" = some (some (.builtin "object.__class__"))
 hn:specialIn K (.builtin "object.__class__") "__get__" = some (some (.builtin "getset_descriptor.__get__"))
 tk:takesIn K (.builtin "object.__class__")=some true
 hm:mroIn K C (.type "object")=some true
section
variable {X:Cx}{pins:List (Addr×Obj)}{U:St}{H:Hp}{s:Shared}{a C d:Addr}{fs:List (Str×V)}{A:Around}{E:Value->Shared->Prop}
theorem zmN {b:Bool}{f:Str}{v:V}{Q:Value->Shared->Prop}(I:Inv X pins U H s) (ha:H a=some (exC C (some d) a)) (hd:H d=some (.xd fs)) (g:ExGa X.K C) (hh:hasDictIn X.K C=true) (no:findIn X.K (.ref C) f=some none) (l:fs.lookup f=some v)
  (h:∀u s',Inv X pins U H s'->RelV v u->Q u s'):wpAny (model X.prog X.w) A (getAttr (.ref a) f b) Q E s:=by
 obtain ⟨ox,od,J,hl⟩:=zgw I ha hd
 obtain ⟨o,ho,r⟩:=hl f
 rw [l] at r
 obtain ⟨u,rfl,ru⟩:=RelO.some_of (v:=v) (o:=o) r
 unfold getAttr
 refine wpAny_bind (wpAny_mkText ?_)
 exact zgy (s:={ s with toks:=s.toks+1 }) I.kIn J g (zmK (s:={ s with toks:=s.toks+1 }) I.kIn J (findObj_own hh no rfl ho) ⟨u,rfl,zfN ru,h u _ (I.tok _) ru⟩)
theorem zmO {c:Value}{b:Bool}{Q:Value->Shared->Prop}(I:Inv X pins U H s) (ha:H a=some (exC C (some d) a)) (hd:H d=some (.xd fs)) (k:ExIs X.K C) (e:kitOne X.K (.ref C) c=some b) (h:∀tk,Q (.bool b) { s with toks:=tk }) :
  wpAny (model X.prog X.w) A (call (.builtin "isinstance") [.ref a,c]) Q E s:=by
 obtain ⟨ox,od,J,_⟩:=zgw I ha hd
 have cl:(clsIn X.K C).isSome=true:=by obtain ⟨cd,hc,_⟩:=any_some k.hd;rw [hc];rfl
 exact kia_one (zmM k.g cl (findObj_data cl k.ha k.hn k.tk) k.hm) I.kIn J e (fun z=>nomatch z) h
end
end L2
namespace L2
open PySem PySem.Spec PyProof.Rows PySem.W
structure Ste (prog:Program) (w:World) (it src:Addr) (xs:Array Value) (St:Nat->Heap->Prop):Prop where
 at_:∀{k h h'},St k h->(∀o,h.get? it=some o->h'.get? it=some o)->(∀o,h.get? src=some o->h'.get? src=some o)->St k h'
 lt:∀{k h},St k h->it<h.objs.size
 item:∀{A:Around} {E:Value->Shared->Prop} {s:Shared} {k:Nat} {x:Value} {Q:Value->Shared->Prop},St k s.heap->xs[k]?=some x->(∀h',St (k+1) h'->Heap.SameBut it s.heap h'->Q x { s with heap:=h' }) ->
  wpAny (model prog w) A (Builtin.SmallTypes.nextOf (.ref it)) Q E s
 stop:∀{A:Around} {E:Value->Shared->Prop} {s:Shared} {k:Nat} {Q:Value->Shared->Prop},A.handled=none->St k s.heap->xs[k]?=none ->
  (∀h' e,Heap.ExtBut it s.heap h'->(∃o,h'.get? e=some o/\o.cls=.type "StopIteration")->E (.ref e) { s with heap:=h' })->wpAny (model prog w) A (Builtin.SmallTypes.nextOf (.ref it)) Q E s
def StT (it t:Addr) (xs:Array Value) (k:Nat) (h:Heap):Prop:=IsTupIter h it t k/\IsTup h t xs
theorem zbY {prog:Program}{w:World}{it t:Addr}{xs:Array Value}(ne:t≠it):Ste prog w it t xs (StT it t xs) where
 at_:=fun {k h h'} q k1 k2=>by
  obtain ⟨⟨o,ho,r⟩,⟨o',ho',r'⟩⟩:=q
  exact ⟨⟨o,k1 o ho,r⟩,⟨o',k2 o' ho',r'⟩⟩
 lt:=fun q=>let ⟨⟨_,ho,_⟩,_⟩:=q;Heap.lt_size ho
 item:=fun {A E s k x Q} q hx hQ=>by
  obtain ⟨hit,ht⟩:=q
  obtain ⟨o,ho,hc,hd⟩:=id hit
  obtain ⟨ol,hol,_,nl,hdl⟩:=id ht
  unfold Builtin.SmallTypes.nextOf
  refine wpAny_bind (wpAny_callSpecial?_slot (name:=Str.ofString "__next__") hit.typeIs slot_tupleiter_next (wpAny_call_entry slot_tupleiter_next hit.typeIs entry_tupleiter_next ?_ (args_tupleiter_next _)))
  change wpAny _ _ (field (.ref it) 0 >>= _) _ _ s
  refine wpAny_bind (wpAny_field ho hd (x:=.ref t) rfl ?_)
  rw [if_neg (by simp)]
  change wpAny _ _ (field (.ref it) 1 >>= _) _ _ s
  refine wpAny_bind (wpAny_field ho hd (x:=.int k 0) rfl ?_)
  change wpAny _ _ (seqItems? (.ref t) >>= _) _ _ s
  refine wpAny_bind (wpAny_seqItems hol hdl ?_)
  simp only [hx,Int.toNat_natCast]
  have fl:=Obj.data_mapFields hd (·.setIfInBounds 1 (rawInt (k+1)))
  refine wpAny_bind (wpAny_setField ho hd (by simp) (wpAny_pure ⟨x,rfl,wpAny_pure (hQ _ ⟨⟨_,Heap.get?_update_self _ ho (Obj.isFreed_of_fields fl),(Obj.cls_mapFields ..).trans hc,?_⟩,?_⟩ (Heap.SameBut.update ..))⟩))
  ·rw [fl];simp [rawInt]
  ·exact ht.extBut (Heap.SameBut.update ..).extBut ne
 stop:=fun {A E s k Q} hh q hx hE=>by
  obtain ⟨hit,ht⟩:=q
  obtain ⟨o,ho,hc,hd⟩:=id hit
  obtain ⟨ol,hol,_,nl,hdl⟩:=id ht
  unfold Builtin.SmallTypes.nextOf
  refine wpAny_bind (wpAny_callSpecial?_slot (name:=Str.ofString "__next__") hit.typeIs slot_tupleiter_next (wpAny_call_entry slot_tupleiter_next hit.typeIs entry_tupleiter_next ?_ (args_tupleiter_next _)))
  change wpAny _ _ (field (.ref it) 0 >>= _) _ _ s
  refine wpAny_bind (wpAny_field ho hd (x:=.ref t) rfl ?_)
  rw [if_neg (by simp)]
  change wpAny _ _ (field (.ref it) 1 >>= _) _ _ s
  refine wpAny_bind (wpAny_field ho hd (x:=.int k 0) rfl ?_)
  change wpAny _ _ (seqItems? (.ref t) >>= _) _ _ s
  refine wpAny_bind (wpAny_seqItems hol hdl ?_)
  simp only [hx,Int.toNat_natCast]
  refine wpAny_bind (wpAny_rule (wpAny_bind (wpAny_setField ho hd (by simp) ?_)))
  change wpAny _ _ (newExc (.type "StopIteration") [] >>= _) _ _ _
  refine wpAny_bind ?_
  simp only [newExc,newTuple]
  refine wpAny_bind (wpAny_newObj_type (wpAny_bind (m:=firstArgMember _ _) (wpAny_of_eq (a:=Value.none) (by first|rfl|(simp only [firstArgMember];rfl)) (wpAny_newObj_type ?_ (by size_fits)))) (by size_fits))
  simp only [raiseNew]
  refine wpAny_bind (wpAny_handled ?_)
  first|rw [show A.in1.handled=none from hh]|rw [hh]
  exact wpAny_bind (wpAny_pure (wpAny_throw (hE _ _ (((Heap.SameBut.update ..).extBut.push _).push _) ⟨_,Heap.get?_push_size _ rfl,rfl⟩)))
section
variable {prog:Program}{w:World}{A:Around}{E:Value->Shared->Prop}{s:Shared}{z TI TO i1 i2 t1 t2:Addr}{k:Nat}{xs ys:Array Value}{x y a b:Value}{S1 S2:Nat->Heap->Prop}
theorem Ste.by_same (S:Ste prog w i1 t1 xs S1) {h h':Heap}{c:Addr}(q:S1 k h) (hs:Heap.SameBut c h h') (n1:i1≠c) (n2:t1≠c):S1 k h' :=
 S.at_ q (fun o e=>hs.extBut _ _ n1 e) fun o e=>hs.extBut _ _ n2 e
theorem zmP {Q:Value->Shared->Prop}(D:ZipApart z TI TO i1 i2 t1 t2) (U1:Ste prog w i1 t1 xs S1) (U2:Ste prog w i2 t2 ys S2) (hz:IsZip s.heap z TI TO .none) (hTI:IsPair s.heap TI (.ref i1) (.ref i2)) (hTO:IsPair s.heap TO a b)
  (q1:S1 k s.heap) (q2:S2 k s.heap) (hx:xs[k]?=some x) (hy:ys[k]?=some y)
  (hQ:∀h',IsZip h' z TI TO (rawInt s.heap.objs.size)->IsPair h' TO x y->S1 (k+1) h'->S2 (k+1) h'->IsPair h' s.heap.objs.size x y ->
   (∀c o,c≠z->c≠TO->c≠i1->c≠i2->s.heap.get? c=some o->h'.get? c=some o)->Q (.ref s.heap.objs.size) { s with heap:=h' }) :
  wpAny (model prog w) A (Builtin.«zip.__next__» ⟨[.ref z],[]⟩) (fun fin s'=>∃v,fin=.done (.ret v)/\Q v s') E s:=by
 change wpAny _ _ (field (.ref z) 2 >>= _) _ _ _
 refine wpAny_bind (wpAny_field hz rfl (x:=.bool false) rfl ?_)
 change wpAny _ _ (field (.ref z) 3 >>= _) _ _ _
 refine wpAny_bind (wpAny_field hz rfl (x:=.ref TI) rfl (wpAny_bind (wpAny_seqItems hTI rfl ?_)))
 change wpAny _ _ (Builtin.SmallTypes.ownedTupleIsFree (.ref z) >>= _) _ _ _
 refine wpAny_bind ?_
 unfold Builtin.SmallTypes.ownedTupleIsFree
 refine wpAny_bind (wpAny_field hz rfl (x:=.none) rfl (wpAny_pure ?_))
 rw [if_pos rfl]
 refine wpAny_bind (wpAny_rule (wpAny_bind (wpAny_field hz rfl (x:=.ref TO) rfl (wpAny_bind (wpAny_setField_rec hz (by simp) fun h1 z1 e1=>?_)))))
 replace z1:IsZip h1 z TI TO .ellipsis:=z1
 refine wpAny_bind ?_
 simp only [List.zipIdx_cons,List.zipIdx_nil,List.forIn_cons,List.forIn_nil]
 refine wpAny_bind (wpAny_bind (wpAny_onRaise ?_))
 change wpAny _ _ (Builtin.SmallTypes.nextOf (.ref i1) >>= _) _ _ _
 refine wpAny_bind (U1.item (U1.by_same q1 e1 D.i1z D.l1z) hx fun h2 p2 e2=>wpAny_pure ?_)
 have o2:IsPair h2 TO a b:=e2.extBut _ _ D.TOi1 (e1.extBut _ _ D.TOz hTO)
 refine wpAny_bind (wpAny_seqItems o2 rfl (wpAny_bind (wpAny_updateSeq_pair o2 fun h3 o3 e3=>?_)))
 replace o3:IsPair h3 TO x b:=o3
 refine wpAny_bind (wpAny_letGo (wpAny_pure (wpAny_bind (wpAny_bind (wpAny_onRaise ?_)))))
 change wpAny _ _ (Builtin.SmallTypes.nextOf (.ref i2) >>= _) _ _ _
 have r3:S2 k h3:=U2.by_same (U2.by_same (U2.by_same q2 e1 D.i2z D.l2z) e2 D.i12.symm D.l2i1) e3 D.TOi2.symm D.l2TO
 refine wpAny_bind (U2.item r3 hy fun h4 p4 e4=>wpAny_pure ?_)
 have o4:IsPair h4 TO x b:=e4.extBut _ _ D.TOi2 o3
 refine wpAny_bind (wpAny_seqItems o4 rfl (wpAny_bind (wpAny_updateSeq_pair o4 fun h5 o5 e5=>?_)))
 replace o5:IsPair h5 TO x y:=o5
 refine wpAny_bind (wpAny_letGo (wpAny_pure (wpAny_pure (wpAny_bind (wpAny_seqItems o5 rfl (wpAny_bind (wpAny_newTuple ?_)))))))
 have sz:h5.objs.size=s.heap.objs.size:=by rw [e5.1,e4.1,e3.1,e2.1,e1.1]
 have z5:IsZip h5 z TI TO .ellipsis:=e5.extBut _ _ D.TOz.symm (e4.extBut _ _ D.i2z.symm (e3.extBut _ _ D.TOz.symm (e2.extBut _ _ D.i1z.symm z1)))
 have k5:∀c o,c≠z->c≠TO->c≠i1->c≠i2->s.heap.get? c=some o->h5.get? c=some o:=fun c o c1 c2 c3 c4 e=>e5.extBut _ _ c2 (e4.extBut _ _ c4 (e3.extBut _ _ c2 (e2.extBut _ _ c3 (e1.extBut _ _ c1 e))))
 have f1:S1 (k+1) h5:=U1.by_same (U1.by_same (U1.by_same p2 e3 D.TOi1.symm D.l1TO) e4 D.i12 D.l1i2) e5 D.TOi1.symm D.l1TO
 have f2:S2 (k+1) h5:=U2.by_same p4 e5 D.TOi2.symm D.l2TO
 change wpAny _ _ (Builtin.SmallTypes.ownedTupleHandOut (.ref z) (.ref h5.objs.size) >>= _) _ _ _
 refine wpAny_bind ?_
 unfold Builtin.SmallTypes.ownedTupleHandOut
 have z6:IsZip (h5.push { cls:=.type "tuple", data:=.seq #[x,y] }) z TI TO .ellipsis:=Heap.get?_push_of_some _ z5
 refine wpAny_bind (wpAny_setField_rec z6 (by simp) fun h7 z7 e7=>?_)
 replace z7:IsZip h7 z TI TO (rawInt h5.objs.size):=z7
 refine wpAny_setField_rec z7 (by simp) fun h8 z8 e8=>?_
 replace z8:IsZip h8 z TI TO (rawInt h5.objs.size):=z8
 have up:∀c o,c≠z->h5.get? c=some o->h8.get? c=some o:=fun c o c1 e=>e8.extBut _ _ c1 (e7.extBut _ _ c1 (Heap.get?_push_of_some _ e))
 have nz:h5.objs.size≠z:=Nat.ne_of_gt (Heap.lt_size z5)
 have pT:IsPair h8 h5.objs.size x y:=e8.extBut _ _ nz (e7.extBut _ _ nz (Heap.get?_push_size _ rfl))
 rw [sz] at z8 pT
 refine wpAny_pure ⟨_,rfl,?_⟩
 change Q (.ref h5.objs.size) _
 rw [sz]
 exact hQ h8 z8 (up _ _ D.TOz o5) (U1.at_ f1 (fun o e=>up _ o D.i1z e) fun o e=>up _ o D.l1z e) (U2.at_ f2 (fun o e=>up _ o D.i2z e) fun o e=>up _ o D.l2z e) pT fun c o c1 c2 c3 c4 e=>up c o c1 (k5 c o c1 c2 c3 c4 e)
theorem zmQ {Q:Fin->Shared->Prop}(hh:A.handled=none) (D:ZipApart z TI TO i1 i2 t1 t2) (U1:Ste prog w i1 t1 xs S1) (U2:Ste prog w i2 t2 ys S2) (hz:IsZip s.heap z TI TO .none) (hTI:IsPair s.heap TI (.ref i1) (.ref i2)) (hTO:IsPair s.heap TO a b)
  (q1:S1 k s.heap) (q2:S2 k s.heap) (he:xs[k]?=none\/ys[k]?=none)
  (hE:∀h' e,(∀c o,c≠z->c≠TO->c≠i1->c≠i2->s.heap.get? c=some o->h'.get? c=some o)->(∃o,h'.get? e=some o/\o.cls=.type "StopIteration")->E (.ref e) { s with heap:=h' }) :
  wpAny (model prog w) A (Builtin.«zip.__next__» ⟨[.ref z],[]⟩) Q E s:=by
 change wpAny _ _ (field (.ref z) 2 >>= _) _ _ _
 refine wpAny_bind (wpAny_field hz rfl (x:=.bool false) rfl ?_)
 change wpAny _ _ (field (.ref z) 3 >>= _) _ _ _
 refine wpAny_bind (wpAny_field hz rfl (x:=.ref TI) rfl (wpAny_bind (wpAny_seqItems hTI rfl ?_)))
 change wpAny _ _ (Builtin.SmallTypes.ownedTupleIsFree (.ref z) >>= _) _ _ _
 refine wpAny_bind ?_
 unfold Builtin.SmallTypes.ownedTupleIsFree
 refine wpAny_bind (wpAny_field hz rfl (x:=.none) rfl (wpAny_pure ?_))
 rw [if_pos rfl]
 refine wpAny_bind (wpAny_rule (wpAny_bind (wpAny_field hz rfl (x:=.ref TO) rfl (wpAny_bind (wpAny_setField_rec hz (by simp) fun h1 z1 e1=>?_)))))
 replace z1:IsZip h1 z TI TO .ellipsis:=z1
 refine wpAny_bind ?_
 simp only [List.zipIdx_cons,List.zipIdx_nil,List.forIn_cons,List.forIn_nil]
 refine wpAny_bind (wpAny_bind (wpAny_onRaise ?_))
 change wpAny _ _ (Builtin.SmallTypes.nextOf (.ref i1) >>= _) _ _ _
 have p1:=U1.by_same q1 e1 D.i1z D.l1z
 have nez:∀{h:Heap} {e:Addr} {oe:Obj},IsZip h z TI TO .ellipsis->h.get? e=some oe->oe.cls=.type "StopIteration" -> e≠z:=fun iz ho hc x=>by
  rw [x,iz] at ho
  cases ho
  simp at hc
 cases hx:xs[k]? with
 | none =>
  refine wpAny_bind (U1.stop hh p1 hx fun h2 e e2 ⟨oe,hoe,hce⟩=>?_)
  have z2:IsZip h2 z TI TO .ellipsis:=e2 _ _ D.i1z.symm z1
  exact wpAny_setField_rec z2 (by simp) fun h3 _ e3=>hE h3 e (fun c o c1 _ c3 _ x=>e3.extBut _ _ c1 (e2 _ _ c3 (e1.extBut _ _ c1 x))) ⟨oe,e3.extBut _ _ (nez z2 hoe hce) hoe,hce⟩
 | some x =>
  have hy:ys[k]?=none:=by
   rcases he with h|h
   ·rw [hx] at h;cases h
   ·exact h
  refine wpAny_bind (U1.item p1 hx fun h2 p2 e2=>wpAny_pure ?_)
  have o2:IsPair h2 TO a b:=e2.extBut _ _ D.TOi1 (e1.extBut _ _ D.TOz hTO)
  refine wpAny_bind (wpAny_seqItems o2 rfl (wpAny_bind (wpAny_updateSeq_pair o2 fun h3 o3 e3=>?_)))
  refine wpAny_bind (wpAny_letGo (wpAny_pure (wpAny_bind (wpAny_bind (wpAny_onRaise ?_)))))
  change wpAny _ _ (Builtin.SmallTypes.nextOf (.ref i2) >>= _) _ _ _
  have r3:S2 k h3:=U2.by_same (U2.by_same (U2.by_same q2 e1 D.i2z D.l2z) e2 D.i12.symm D.l2i1) e3 D.TOi2.symm D.l2TO
  refine wpAny_bind (U2.stop hh r3 hy fun h4 e e4 ⟨oe,hoe,hce⟩=>?_)
  have z4:IsZip h4 z TI TO .ellipsis:=e4 _ _ D.i2z.symm (e3.extBut _ _ D.TOz.symm (e2.extBut _ _ D.i1z.symm z1))
  exact wpAny_setField_rec z4 (by simp) fun h5 _ e5=>hE h5 e (fun c o c1 c2 c3 c4 x=>e5.extBut _ _ c1 (e4 _ _ c4 (e3.extBut _ _ c2 (e2.extBut _ _ c3 (e1.extBut _ _ c1 x))))) ⟨oe,e5.extBut _ _ (nez z4 hoe hce) hoe,hce⟩
end
section
variable {X:Cx}{pins:List (Addr×Obj)}{U:St}{H:Hp}{s:Shared}{h':Heap}
theorem Inv.turnL {ch:List Addr}{t':Nat}(I:Inv X pins U H s) (hc:∀b∈ch,FpOk X pins H b) (k:∀b o,b∉ch->s.heap.get? b=some o->h'.get? b=some o):Inv X pins U H { s with heap:=h',toks:=t' }:=by
 have nch:∀b u,H b=some u->b∉ch:=fun b u e z=>by rw [(hc b z).1] at e;cases e
 refine I.step (g':=s.gens) (d':=s.drawn) (ch:=ch) (fun b hb=>?_) (fun b o _ _ nb e _=>k b o nb e) (fun b o _ _ nb e _=>⟨o.slots,k b o nb e⟩) (fun _ _ _ _ n=>n)
  (fun b o nb e=>⟨o,k b o nb e⟩) (fun _ _ e=>e) (fun _ _ _ e=>e) (fun b ps e=>⟨#[],by rw [e];simp⟩) (fun m hm=>?_) (fun b u e=>?_) I.bare
 ·obtain ⟨_,f1,_,f3,f4,f5⟩:=hc b hb
  exact ⟨f3,f1,f4,f5⟩
 ·obtain ⟨o,es,ep,ho,r⟩:=hm
  exact ⟨o,es,ep,k _ o (fun z=>(hc _ z).2.1 rfl) ho,r⟩
 ·refine (I.hok b u e).stay (fun c v hc' q=>k c v ?_ q) (fun _ q=>q) fun _ _ q=>q
  rcases hc' with z|z
  ·rw [z];exact nch b u e
  ·exact nch c _ z
theorem Inv.turnN {ch:List Addr}{T:Addr}{o:HO}{t':Nat}(I:Inv X pins U H s) (hc:∀b∈ch,FpOk X pins H b) (k:∀b o,b∉ch->s.heap.get? b=some o->h'.get? b=some o) (hT:s.heap.objs.size<=T)
  (new:ObjOk X.prog X.w (upd H T o) h' T o):Inv X pins U (upd H T o) { s with heap:=h',toks:=t' }:=by
 have fT:H T=none:=I.hok.fresh hT
 have nch:∀b u,H b=some u->b∉ch:=fun b u e z=>by rw [(hc b z).1] at e;cases e
 have nT:∀b u,H b=some u->b≠T:=fun b u e z=>by rw [z,fT] at e;cases e
 refine I.step (g':=s.gens) (d':=s.drawn) (ch:=ch) (fun b hb=>?_) (fun b o _ _ nb e _=>k b o nb e) (fun b o _ _ nb e _=>⟨o.slots,k b o nb e⟩) (fun b u _ e n=>?_)
  (fun b o nb e=>⟨o,k b o nb e⟩) (fun b xs e=>?_) (fun b u v e=>?_) (fun b ps e=>⟨#[],?_⟩) (fun m hm=>?_) (fun b u e=>?_) I.bare
 ·obtain ⟨_,f1,_,f3,f4,f5⟩:=hc b hb
  exact ⟨f3,f1,f4,f5⟩
 ·rw [zG (Nat.ne_of_lt (Nat.lt_of_lt_of_le (Heap.lt_size e) hT))];exact n
 ·rw [zG (nT b _ e)];exact e
 ·rw [zG (nT b _ e)];exact e
 ·rw [zG (nT b _ e),e];simp
 ·obtain ⟨o,es,ep,ho,r⟩:=hm
  exact ⟨o,es,ep,k _ o (fun z=>(hc _ z).2.1 rfl) ho,r⟩
 ·by_cases z:b=T
  ·rw [z] at e ⊢
   rw [yp] at e
   cases e
   exact new
  ·rw [zG z] at e
   refine (I.hok b u e).stay (fun c v hc' q=>k c v ?_ q) (fun c q=>by rw [zG (nT c _ q)];exact q) fun c xs q=>by rw [zG (nT c _ q)];exact q
   rcases hc' with z|z
   ·rw [z];exact nch b u e
   ·exact nch c _ z
end
def Itz (K:Frag) (a b:Addr):It :=
 ⟨fun i H=>∃xs ys x y,SqT K H a xs/\SqT K H b ys/\xs[i]?=some x/\ys[i]?=some y,
  fun i H v H'=>∃T x y,H T=none/\v=.ref T/\H'=upd H T (.tup [x,y])/\(∀xs,SqT K H a xs->xs[i]?=some x)/\∀ys,SqT K H b ys->ys[i]?=some y,
  fun i H=>∃xs ys,SqT K H a xs/\SqT K H b ys/\(xs.length<=i\/ys.length<=i)⟩
def Zst (z TI TO i1 i2 a b:Addr) (k:Nat) (h:Heap):Prop:=IsZip h z TI TO .none/\IsPair h TI (.ref i1) (.ref i2)/\(∃u v,IsPair h TO u v)/\IsTupIter h i1 a k/\IsTupIter h i2 b k
theorem zbZ {X:Cx}{pins:List (Addr×Obj)}{U:St}{H:Hp}{s:Shared}{a c:Addr}{xs:List V}(I:Inv X pins U H s) (hf:FpOk X pins H c) (hq:SqT X.K H a xs):a≠c:=by
 rintro rfl
 rcases hq with q|⟨o,its,n,hl,_⟩
 ·rcases q with q|⟨ob,q⟩<;>(rw [hf.1] at q;cases q)
 ·have e:=I.ok.mod.kin _ _ hl
  rcases hf.2.2.2.1 with z|z
  ·exact I.ok.noex _ _ e z
  ·exact absurd (Nat.lt_of_lt_of_le (Heap.lt_size (I.ok.bs _ _ e).1) z) (Nat.lt_irrefl _)
structure Five (z TI TO i1 i2:Addr):Prop where
 TIz:TI≠z
 TOz:TO≠z
 i1z:i1≠z
 i2z:i2≠z
 TITO:TI≠TO
 TIi1:TI≠i1
 TIi2:TI≠i2
 TOi1:TO≠i1
 TOi2:TO≠i2
 i12:i1≠i2
theorem zmR {P:Program}{w:World}{K:Frag}{elts:List Expr}{kt:Nat}{pos:Pos}{z TI TO i1 i2 a b:Addr}(V5:Five z TI TO i1 i2):Turn P w K (.Tuple elts kt pos) (Itz K a b) [z,TI,TO,i1,i2] z (Zst z TI TO i1 i2 a b) where
 mem:=by simp
 obj:=fun i h st c hc=>by
  obtain ⟨hz,hTI,⟨u,v,hTO⟩,⟨o1,e1,_,d1⟩,⟨o2,e2,_,d2⟩⟩:=st
  simp only [List.mem_cons,List.not_mem_nil,or_false] at hc
  rcases hc with q|q|q|q|q<;>rw [q]
  ·exact ⟨_,hz,fun v z=>by cases z⟩
  ·exact ⟨_,hTI,fun v z=>by cases z⟩
  ·exact ⟨_,hTO,fun v z=>by cases z⟩
  ·exact ⟨_,e1,fun v z=>by rw [d1] at z;cases z⟩
  ·exact ⟨_,e2,fun v z=>by rw [d2] at z;cases z⟩
 keep:=fun i h h' st k=>by
  obtain ⟨hz,hTI,⟨u,v,hTO⟩,⟨o1,e1,r1⟩,⟨o2,e2,r2⟩⟩:=st
  exact ⟨k z (by simp) _ hz,k TI (by simp) _ hTI,⟨u,v,k TO (by simp) _ hTO⟩,⟨o1,k i1 (by simp) _ e1,r1⟩,⟨o2,k i2 (by simp) _ e2,r2⟩⟩
 item:=by
  intro X hP hw hK hc i pins s U H E I hf st hg
  subst hP hw hK
  obtain ⟨xs,ys,x,y,hq1,hq2,hx,hy⟩:=hg
  obtain ⟨hz,hTI,⟨u0,v0,hTO⟩,hi1,hi2⟩:=st
  obtain ⟨its1,rv1,p1,_⟩:=I.tuple hq1
  obtain ⟨its2,rv2,p2,_⟩:=I.tuple hq2
  obtain ⟨u,hu,ru⟩:=rv1.get hx
  obtain ⟨v,hv,rv⟩:=rv2.get hy
  have n1:∀c∈[z,TI,TO,i1,i2],a≠c:=fun c h=>zbZ I (hf c h) hq1
  have n2:∀c∈[z,TI,TO,i1,i2],b≠c:=fun c h=>zbZ I (hf c h) hq2
  have D:ZipApart z TI TO i1 i2 a b:=⟨V5.TIz,V5.TOz,V5.i1z,V5.i2z,V5.TITO,V5.TIi1,V5.TIi2,V5.TOi1,V5.TOi2,V5.i12,n1 z (by simp),n1 TO (by simp),n1 i1 (by simp),n1 i2 (by simp),n2 z (by simp),n2 TO (by simp),n2 i1 (by simp),n2 i2 (by simp)⟩
  have hT:s.TypeIs (.ref z) "zip" := ⟨_,hz,rfl⟩
  unfold pyNext
  refine wpAny_bind (wpAny_attempt (wpAny_callSpecial?_slot (name:=Str.ofString "__next__") hT F.slot_zip_next (wpAny_call_entry F.slot_zip_next hT F.entry_zip_next
   (zmP D (zbY D.l1i1) (zbY D.l2i2) hz hTI hTO ⟨hi1,p1⟩ ⟨hi2,p2⟩ (by simpa using hu) (by simpa using hv) fun h1 z1 o1 f1 f2 pT kk=>wpAny_pure ⟨_,rfl,?_⟩) (F.args_zip_next_1 _))))
  refine wpAny_letOwnedTupleGo_zip (s:={ s with heap:=h1 }) z1 fun h2 z2 e2=>?_
  have fr:H s.heap.objs.size=none:=I.hok.fresh (Nat.le_refl _)
  have up:∀c o,c≠z->h1.get? c=some o->h2.get? c=some o:=fun c o n e=>e2.extBut _ _ n e
  have nz:s.heap.objs.size≠z:=Nat.ne_of_gt (Heap.lt_size hz)
  have k2:∀c o,c∉[z,TI,TO,i1,i2]->s.heap.get? c=some o->h2.get? c=some o:=fun c o nc e =>
   up c o (fun q=>nc (by simp [q])) (kk c o (fun q=>nc (by simp [q])) (fun q=>nc (by simp [q])) (fun q=>nc (by simp [q])) (fun q=>nc (by simp [q])) e)
  refine ⟨.ref s.heap.objs.size,upd H s.heap.objs.size (.tup [x,y]),?_,rfl,⟨s.heap.objs.size,x,y,fr,rfl,rfl,fun xs' h'=>by rw [I.tuple_inj h' hq1];exact hx,fun ys' h'=>by rw [I.tuple_inj h' hq2];exact hy⟩,?_,fun c hc'=>?_⟩
  ·exact Inv.turnN (s:=s) (h':=h2) (t':=s.toks) I hf k2 (Nat.le_refl _) ⟨show 2<=sizeLine by decide,[u,v],.cons ru (.cons rv .nil),_,up _ _ nz pT,rfl,_,rfl⟩
  ·exact ⟨z2,up _ _ D.TIz (kk _ _ D.TIz D.TITO D.TIi1 D.TIi2 hTI),⟨_,_,up _ _ D.TOz o1⟩,(let ⟨o,e,r⟩:=f1.1;⟨o,up _ _ D.i1z e,r⟩),(let ⟨o,e,r⟩:=f2.1;⟨o,up _ _ D.i2z e,r⟩)⟩
  ·have q:c≠s.heap.objs.size:=by
    have lt:∃o,s.heap.get? c=some o:=by
     simp only [List.mem_cons,List.not_mem_nil,or_false] at hc'
     rcases hc' with q|q|q|q|q<;>rw [q]
     ·exact ⟨_,hz⟩
     ·exact ⟨_,hTI⟩
     ·exact ⟨_,hTO⟩
     ·exact let ⟨o,e,_⟩:=hi1;⟨o,e⟩
     ·exact let ⟨o,e,_⟩:=hi2;⟨o,e⟩
    obtain ⟨o,e⟩:=lt
    exact Nat.ne_of_lt (Heap.lt_size e)
   rw [zG q]
   exact (hf c hc').1
 done:=by
  intro X hP hw hK hc i pins s U H E I hf st hg
  subst hP hw hK
  obtain ⟨xs,ys,hq1,hq2,hx⟩:=hg
  obtain ⟨hz,hTI,⟨u0,v0,hTO⟩,hi1,hi2⟩:=st
  obtain ⟨its1,rv1,p1,_⟩:=I.tuple hq1
  obtain ⟨its2,rv2,p2,_⟩:=I.tuple hq2
  have l1:=rv1.length
  have l2:=rv2.length
  have n1:∀c∈[z,TI,TO,i1,i2],a≠c:=fun c h=>zbZ I (hf c h) hq1
  have n2:∀c∈[z,TI,TO,i1,i2],b≠c:=fun c h=>zbZ I (hf c h) hq2
  have D:ZipApart z TI TO i1 i2 a b:=⟨V5.TIz,V5.TOz,V5.i1z,V5.i2z,V5.TITO,V5.TIi1,V5.TIi2,V5.TOi1,V5.TOi2,V5.i12,n1 z (by simp),n1 TO (by simp),n1 i1 (by simp),n1 i2 (by simp),n2 z (by simp),n2 TO (by simp),n2 i1 (by simp),n2 i2 (by simp)⟩
  have hT:s.TypeIs (.ref z) "zip" := ⟨_,hz,rfl⟩
  unfold pyNext
  refine wpAny_bind (wpAny_attempt (wpAny_callSpecial?_slot (name:=Str.ofString "__next__") hT F.slot_zip_next (wpAny_call_entry F.slot_zip_next hT F.entry_zip_next
   (zmQ (I.ok.hd hc) D (zbY D.l1i1) (zbY D.l2i2) hz hTI hTO ⟨hi1,p1⟩ ⟨hi2,p2⟩ (hx.imp (fun h=>by simp;omega) fun h=>by simp;omega) fun h1 e kk he=>?_) (F.args_zip_next_1 _))))
  obtain ⟨o,ho,hco⟩:=he
  refine wpAny_bind (wpAny_isInstance (T := "StopIteration") (b:=true) ⟨o,ho,hco⟩ isSubtype_stop ?_)
  exact wpAny_pure ⟨rfl,Inv.turnL (t':=s.toks) I hf fun c o nc e=>kk c o (fun q=>nc (by simp [q])) (fun q=>nc (by simp [q])) (fun q=>nc (by simp [q])) (fun q=>nc (by simp [q])) e⟩
 self:=fun _ _ _ _ _ st h=>wpAny_pyIter_zip st.1 h
abbrev zt1 (h:Heap) (a:Addr):Heap:=h.push { cls:=.type "tuple_iterator", data:=.fields #[.ref a,.int 0 0] }
abbrev zt2 (h:Heap) (a b:Addr):Heap:=(zt1 h a).push { cls:=.type "tuple_iterator", data:=.fields #[.ref b,.int 0 0] }
abbrev zt3 (h:Heap) (a b:Addr):Heap:=(zt2 h a b).push { cls:=.type "tuple", data:=.seq #[.ref h.objs.size,.ref (zt1 h a).objs.size] }
abbrev zt4 (h:Heap) (a b:Addr):Heap:=(zt3 h a b).push { cls:=.type "tuple", data:=.seq #[.none,.none] }
abbrev wc (h:Heap) (a b:Addr):Heap:=(zt4 h a b).push { cls:=.type "zip", data:=.fields #[.none,.bool false,.bool false,.ref (zt2 h a b).objs.size,.ref (zt3 h a b).objs.size] }
theorem zmS (a b:Addr) (xs ys:Array Value) :
  Meets (Builtin.«zip.__new__» ⟨[.type "zip", .ref a,.ref b],[]⟩) (fun _ R s=>IsTup s.heap a xs/\IsTup s.heap b ys/\R (.ok (.ret (.ref (zt4 s.heap a b).objs.size))) { s with heap:=wc s.heap a b }) :=
 .of_wp fun prog w A R s h=>by
  obtain ⟨hp,g,d,tk,os⟩:=s
  obtain ⟨h1,h2,h⟩:=h
  have hsub:=sub_zip
  have H1:IsTup (Shared.heap ⟨hp,g,d,tk,os⟩) a xs:=h1
  have H2:IsTup (Shared.heap ⟨hp.push { cls:=.type "tuple_iterator", data:=.fields #[.ref a,.int 0 0] },g,d,tk,os⟩) b ys:=h2.push _
  wp_walk using iter_tuple H1,iter_tuple H2
  exact ⟨_,rfl,h⟩
section
variable {prog:Program}{w:World}{A:Around}{E:Value->Shared->Prop}{s:Shared}
theorem zmT {a b:Addr}{xs ys:Array Value}{Q:Value->Shared->Prop}(h1:IsTup s.heap a xs) (h2:IsTup s.heap b ys)
  (h:Zst (s.heap.objs.size+4) (s.heap.objs.size+2) (s.heap.objs.size+3) s.heap.objs.size (s.heap.objs.size+1) a b 0 (wc s.heap a b)->Q (.ref (s.heap.objs.size+4)) { s with heap:=wc s.heap a b }) :
  wpAny (model prog w) A (call (.type "zip") [.ref a,.ref b]) Q E s:=by
 refine callType_new F.called_zip (by decide) (F.typeCall_zip_2 _ _) (F.newCall_zip_2 _ _) (fun obj=>F.args_object_init_3 obj _ _) F.entry_zip_new (zmS a b xs ys) ⟨h1,h2,?_⟩
 have z1:(zt1 s.heap a).objs.size=s.heap.objs.size+1:=Heap.size_push ..
 have z2:(zt2 s.heap a b).objs.size=s.heap.objs.size+2:=by rw [Heap.size_push,z1]
 have z3:(zt3 s.heap a b).objs.size=s.heap.objs.size+3:=by rw [Heap.size_push,z2]
 have z4:(zt4 s.heap a b).objs.size=s.heap.objs.size+4:=by rw [Heap.size_push,z3]
 have g5:(wc s.heap a b).get? (zt4 s.heap a b).objs.size=some _:=Heap.get?_push_size _ rfl
 have g4:(wc s.heap a b).get? (zt3 s.heap a b).objs.size=some _:=Heap.get?_push_of_some _ (Heap.get?_push_size _ rfl)
 have g3:(wc s.heap a b).get? (zt2 s.heap a b).objs.size=some _:=Heap.get?_push_of_some _ (Heap.get?_push_of_some _ (Heap.get?_push_size _ rfl))
 have g2:(wc s.heap a b).get? (zt1 s.heap a).objs.size=some _:=Heap.get?_push_of_some _ (Heap.get?_push_of_some _ (Heap.get?_push_of_some _ (Heap.get?_push_size _ rfl)))
 have g1:(wc s.heap a b).get? s.heap.objs.size=some _:=Heap.get?_push_of_some _ (Heap.get?_push_of_some _ (Heap.get?_push_of_some _ (Heap.get?_push_of_some _ (Heap.get?_push_size _ rfl))))
 show _/\_
 rw [z2,z3,z4] at g5
 rw [z1,z2] at g3
 rw [z3] at g4
 rw [z1] at g2
 rw [z4]
 exact ⟨⟨_,g5,rfl⟩,h ⟨g5,g3,⟨_,_,g4⟩,⟨_,g1,rfl,rfl⟩,⟨_,g2,rfl,rfl⟩⟩⟩
end
theorem zmU:bootBuiltins "zip" = some (.type "zip"):=by decide +kernel
def zmV (K:Frag) (ta:TA):TI:=fun U H R=>ta U H fun vs H1=>∃a b,vs=[.ref a,.ref b]/\(∃xs,SqT K H1 a xs)/\(∃ys,SqT K H1 b ys)/\R (Itz K a b) H1
theorem zmW {X:Cx} {elts:List Expr} {kt:Nat} {tp:Pos} {x y:Expr} {ta:TA} {p pos:Pos} (hg:Gl X "zip") (hm:X.mg "zip" = none) (ha:PA X [x,y] ta) (hs:starEach [x,y] X.env=[(false,eval x X.env),(false,eval y X.env)]:=by rfl) (hs2:starEach [y] X.env=[(false,eval y X.env)]:=by rfl) :
  PI X (.Tuple elts kt tp) (.Call (.Name "zip" p) [x,y] [] pos) (zmV X.K ta):=by
 intro pins s U H R I h
 refine Call_ (zak I hg hm zmU (PyProof.Rows.callWith_type1 (thn (ha pos pins s U H _ I h) fun us s1 ⟨vs,H1,I1,r1,q1⟩=>?_) (by rw [hs,hs2]) (by rw [hs2];rfl)))
 obtain ⟨a,b,e,⟨xs,hq1⟩,⟨ys,hq2⟩,q⟩:=q1
 subst e
 obtain ⟨u,v,rfl,ru,rv⟩:=zbQ r1
 obtain rfl:u=Value.ref a:=ru
 obtain rfl:v=Value.ref b:=rv
 obtain ⟨its1,_,p1,_⟩:=I1.tuple hq1
 obtain ⟨its2,_,p2,_⟩:=I1.tuple hq2
 refine zmT p1 p2 fun st=>wpAny_pyIter_zip st.1 ?_
 have kk:∀c o,s1.heap.get? c=some o->(wc s1.heap a b).get? c=some o:=fun c o e=>Heap.get?_push_of_some _ (Heap.get?_push_of_some _ (Heap.get?_push_of_some _ (Heap.get?_push_of_some _ (Heap.get?_push_of_some _ e))))
 refine ⟨_,[s1.heap.objs.size+4,s1.heap.objs.size+2,s1.heap.objs.size+3,s1.heap.objs.size,s1.heap.objs.size+1],_,_,H1,rfl,I1.kept (t':=s1.toks) kk,zmR ?_,st,fun c hc=>?_,q⟩
 ·have ne:∀(n i j:Nat),i≠j->n+i≠n+j:=fun n i j h z=>h (Nat.add_left_cancel z)
  have ne0:∀(n i:Nat),i≠0->n+i≠n:=fun n i h z=>h (by omega)
  exact ⟨ne _ 2 4 (by decide),ne _ 3 4 (by decide),(ne0 _ 4 (by decide)).symm,ne _ 1 4 (by decide),ne _ 2 3 (by decide),ne0 _ 2 (by decide),ne _ 2 1 (by decide),ne0 _ 3 (by decide),ne _ 3 1 (by decide),(ne0 _ 1 (by decide)).symm⟩
 ·have le:s1.heap.objs.size<=c:=by
   simp only [List.mem_cons,List.not_mem_nil,or_false] at hc
   rcases hc with q|q|q|q|q<;>rw [q]<;>first|exact Nat.le_refl _|exact Nat.le_add_right _ _
  exact I1.fpOk le (I1.hok.fresh le)
structure KD (X:Cx) (a:Addr):Prop where
 ob:∃es n,X.K.lookup a=some ⟨.type "dict", none,.dict es n,#[]⟩/\KeysLit X.w.params es.toList
 no:(a==sysModules)=false
section
variable {X:Cx}
theorem zmX:IxR X (fun x y H Q=>∃a z u v,x=.ref a/\y=.str z/\KD X a/\nsIn X.K a z=some (some u)/\RelV v u/\Q v H):=by
 intro a b pins s U H x y v u Q I rx ry h hs
 obtain ⟨p,z,u',v',rfl,rfl,⟨⟨es,n,hl,hk⟩,_⟩,e,rv,q⟩:=h
 obtain rfl:v=Value.ref p:=rx
 obtain ⟨t,rfl⟩:=ry
 obtain ⟨m,F⟩:=I.fr
 exact topItem_K F I.ok.mod.kin hl hk e ⟨v',H,I.tok _,rv,q⟩ hs
theorem zmY:OpR X (compareOp .NotIn) (fun x y H Q=>∃a z r,x=.str z/\y=.ref a/\KD X a/\nsIn X.K a z=some r/\Q (.bl (!r.isSome)) H):=by
 intro pins s U H x y v u Q I rx ry h
 obtain ⟨p,z,r,rfl,rfl,⟨⟨es,n,hl,hk⟩,no⟩,e,q⟩:=h
 obtain rfl:u=Value.ref p:=ry
 obtain ⟨t,rfl⟩:=rx
 refine wpAny_notIn_of (strKind_is X.prog X.w z t) no (mapOf_K (prog:=X.prog) I.kIn hl hk) ?_
 rw [find_K hl e]
 exact ⟨.bl (!r.isSome),H,I.tok _,rfl,q⟩
end
end L2
namespace Mi
open PySem L2 PySem.W
inductive PV where
 | non|bl (b:Bool)|int (i:Int)|str (x:Str)|ty (n:String)
 | tup (xs:List PV)|frl (xs:List PV)|ref (n:Nat)|fn (x:Str)|kd (ks:List Str) (xs:List PV)|exo (c:Str) (ks:List Str) (xs:List PV)
inductive SO where
 | lst (xs:List PV)|dic (ks:List Str) (xs:List PV)|ins (c:Str) (ks:List Str) (xs:List PV)|fdi (ks:List Str) (xs:List PV)
abbrev Sto:=List SO
inductive Res (α:Type) where
 | ok (a:α) (st:Sto)|err (c:Str) (ks:List Str) (xs:List PV) (st:Sto)|stuck
abbrev Mo (α:Type):=Sto->Res α
def Res.bind {α β:Type}:Res α->(α->Mo β)->Res β
 | .ok a st,f=>f a st
 | .err c ks xs st,_=>.err c ks xs st
 | .stuck,_=>.stuck
abbrev zd:=List (Option PV)
def KDs (K:Frag) (a:Addr) (ks:List Str) (us:List Value):Prop:=∀z,nsIn K a z=some ((ks.zip us).lookup z)
def FrL (K:Frag) (H:Hp) (a:Addr) (vs:List V):Prop :=
 (∃o,H a=some (.frz o (.lst vs)))\/∃(o:Obj) (its:Array Value) (n:Nat),K.lookup a=some o/\o.cls=.type "list" /\ o.dict=none/\o.data=.seq its n/\its.size<=sizeLine/\Vals vs its.toList
theorem FrL.sq {K:Frag}{H:Hp}{a:Addr}{vs:List V}(h:FrL K H a vs):SqL K H a vs:=by
 rcases h with ⟨o,h⟩|h
 ·exact .inl (.inr ⟨o,h⟩)
 ·exact .inr h
section
variable (K:Frag) (mg:Str->Option Value)
mutual
def R (ρ:List Addr) (H:Hp):PV->V->Prop
 | .non,v=>v=.non
 | .bl b,v=>v=.bl b
 | .int i,v=>v=.int i
 | .str x,v=>v=.str x
 | .ty n,v=>v=.ty n
 | .tup xs,v=>∃a vs,v=.ref a/\SqT K H a vs/\Rs ρ H xs vs
 | .frl xs,v=>∃a vs,v=.ref a/\FrL K H a vs/\Rs ρ H xs vs
 | .ref n,v=>∃a,v=.ref a/\ρ[n]?=some a
 | .fn x,v=>∃f,v=.ref f/\mg x=some (.ref f)
 | .kd ks xs,v=>∃a us vs,v=.ref a/\KDs K a ks us/\Vals vs us/\Rs ρ H xs vs
 | .exo c ks xs,v=>∃a C d vs,v=.ref a/\mg c=some (.ref C)/\H a=some (exC C (some d) a)/\H d=some (.xd (ks.zip vs))/\Rs ρ H xs vs/\ks.length=vs.length
def Rs (ρ:List Addr) (H:Hp):List PV->List V->Prop
 | [],vs=>vs=[]
 | x::xs,vs=>∃v r,vs=v::r/\R ρ H x v/\Rs ρ H xs r
end
def SoR (ρ:List Addr) (H:Hp):SO->Addr->Prop
 | .lst xs,a=>∃vs,H a=some (.lst vs)/\Rs K mg ρ H xs vs
 | .dic ks xs,a=>∃vs,H a=some (.dK ((ks.map Sum.inr).zip vs))/\Rs K mg ρ H xs vs/\ks.length=vs.length
 | .ins c ks xs,a=>∃C dx vs,mg c=some (.ref C)/\H a=some (.ins C dx (ks.zip vs))/\Rs K mg ρ H xs vs/\ks.length=vs.length
 | .fdi ks xs,a=>∃o vs,H a=some (.frz o (.dK ((ks.map Sum.inr).zip vs)))/\Rs K mg ρ H xs vs/\ks.length=vs.length
structure StR (ρ:List Addr) (H:Hp) (st:Sto):Prop where
 len:ρ.length=st.length
 nd:ρ.Nodup
 at_:∀(n:Nat) so,st[n]?=some so->∃a,ρ[n]?=some a/\SoR K mg ρ H so a
def Imm:HO->Bool
 | .tup _=>true
 | .frz _ _=>true
 | .xd _=>true
 | .ext _=>true
 | _=>false
structure Ext (ρ:List Addr) (H:Hp) (ah:List Addr) (H':Hp):Prop where
 pre:∃δ,ah=ρ++δ
 imm:∀a o,H a=some o->Imm o=true->H' a=some o
def XR (ρ:List Addr) (H:Hp) (c:Str) (ks:List Str) (xs:List PV) (Cv:Value) (d:Option Addr):Prop :=
 ∃C,Cv=.ref C/\mg c=some (.ref C)/\((ks=[]/\d=none)\/∃dd vs,d=some dd/\H dd=some (.xd (ks.zip vs))/\Rs K mg ρ H xs vs/\ks.length=vs.length)
def Out {α:Type}(ρ:List Addr) (H:Hp) (r:Res α) (good:List Addr->Hp->α->Sto->Prop) (E:XK):Prop :=
 match r with
 | .ok x st=>∀ah H',Ext ρ H ah H'->StR K mg ah H' st->good ah H' x st
 | .err c ks xs st=>∀ah H' C d,Ext ρ H ah H'->StR K mg ah H' st->XR K mg ah H' c ks xs C d->E C d H'
 | .stuck=>False
structure EnvR (ρ:List Addr) (H:Hp) (env:zd) (U:St):Prop where
 len:env.length=U.length
 at_:∀(i:Nat) x,env[i]?=some (some x)->∃v,U[i]?=some (some v)/\R K mg ρ H x v
def gV (Q:VK):List Addr->Hp->PV->Sto->Prop:=fun ρ H x _=>∀v,R K mg ρ H x v->Q v H
def gVs (Q:List V->Hp->Prop):List Addr->Hp->List PV->Sto->Prop:=fun ρ H x _=>∀v,Rs K mg ρ H x v->Q v H
def gB (Q:Bool->Hp->Prop):List Addr->Hp->Bool->Sto->Prop:=fun _ H x _=>Q x H
inductive Fl where
 | nx (env:zd)|rt (x:PV)|bk (env:zd)|ct (env:zd)
def gS (D:Ends):List Addr->Hp->Fl->Sto->Prop:=fun ρ H x _ =>
 match x with
 | .nx env=>∀U,EnvR K mg ρ H env U->D.nx U H
 | .rt x=>∀v,R K mg ρ H x v->D.rt v H
 | .bk env=>∀U,EnvR K mg ρ H env U->D.bk U H
 | .ct env=>∀U,EnvR K mg ρ H env U->D.ct U H
end
section
variable {K:Frag}{mg:Str->Option Value}{ρ ag ar:List Addr}{H H1 H2:Hp}
theorem Ext.refl:Ext ρ H ρ H:=⟨⟨[],by simp⟩,fun _ _ h _=>h⟩
theorem Ext.trans (a:Ext ρ H ag H1) (b:Ext ag H1 ar H2):Ext ρ H ar H2:=by
 obtain ⟨⟨d,hd⟩,i⟩:=a
 obtain ⟨⟨d',hd'⟩,i'⟩:=b
 exact ⟨⟨d++d',by rw [hd',hd,List.append_assoc]⟩,fun a o h m=>i' a o (i a o h m) m⟩
theorem Ext.get (a:Ext ρ H ag H1) {n:Nat}{p:Addr}(h:ρ[n]?=some p):ag[n]?=some p:=by
 obtain ⟨⟨d,hd⟩,_⟩:=a
 rw [hd,List.getElem?_append_left (List.getElem?_eq_some_iff.mp h).1]
 exact h
theorem Ext.sqT (e:Ext ρ H ag H1) {a:Addr}{xs:List V}(h:SqT K H a xs):SqT K H1 a xs:=by
 rcases h with (h|⟨o,h⟩)|h
 ·exact .inl (.inl (e.imm _ _ h rfl))
 ·exact .inl (.inr ⟨o,e.imm _ _ h rfl⟩)
 ·exact .inr h
theorem Ext.frl (e:Ext ρ H ag H1) {a:Addr}{xs:List V}(h:FrL K H a xs):FrL K H1 a xs:=by
 rcases h with ⟨o,h⟩|h
 ·exact .inl ⟨o,e.imm _ _ h rfl⟩
 ·exact .inr h
mutual
theorem R.ext (e:Ext ρ H ag H1):∀(x:PV) {v:V},R K mg ρ H x v->R K mg ag H1 x v
 | .non,_,h=>h
 | .bl _,_,h=>h
 | .int _,_,h=>h
 | .str _,_,h=>h
 | .ty _,_,h=>h
 | .tup xs,_,h=>by
  obtain ⟨a,vs,h1,h2,h3⟩:=h
  exact ⟨a,vs,h1,e.sqT h2,Rs.ext e xs h3⟩
 | .frl xs,_,h=>by
  obtain ⟨a,vs,h1,h2,h3⟩:=h
  exact ⟨a,vs,h1,e.frl h2,Rs.ext e xs h3⟩
 | .ref n,_,h=>by
  obtain ⟨a,h1,h2⟩:=h
  exact ⟨a,h1,e.get h2⟩
 | .fn _,_,h=>h
 | .kd ks xs,_,h=>by
  obtain ⟨a,us,vs,h1,h2,h4,h3⟩:=h
  exact ⟨a,us,vs,h1,h2,h4,Rs.ext e xs h3⟩
 | .exo c ks xs,_,h=>by
  obtain ⟨a,C,d,vs,h1,h2,h3,h4,h5,h6⟩:=h
  exact ⟨a,C,d,vs,h1,h2,e.imm _ _ h3 rfl,e.imm _ _ h4 rfl,Rs.ext e xs h5,h6⟩
theorem Rs.ext (e:Ext ρ H ag H1):∀(xs:List PV) {vs:List V},Rs K mg ρ H xs vs->Rs K mg ag H1 xs vs
 | [],_,h=>h
 | x::xs,_,h=>by
  obtain ⟨v,r,h1,h2,h3⟩:=h
  exact ⟨v,r,h1,R.ext e x h2,Rs.ext e xs h3⟩
end
theorem EnvR.ext (e:Ext ρ H ag H1) {env:zd}{U:St}(h:EnvR K mg ρ H env U):EnvR K mg ag H1 env U :=
 ⟨h.len,fun i x hx=>let ⟨v,a,b⟩:=h.at_ i x hx;⟨v,a,R.ext e x b⟩⟩
theorem Rs.len:∀{xs:List PV}{vs:List V},Rs K mg ρ H xs vs->xs.length=vs.length
 | [],_,h=>by cases h;rfl
 | x::xs,_,h=>by
  obtain ⟨v,r,rfl,_,h3⟩:=h
  simp [Rs.len h3]
theorem Rs.get:∀{xs:List PV}{vs:List V}{i:Nat}{x:PV},Rs K mg ρ H xs vs->xs[i]?=some x->∃v,vs[i]?=some v/\R K mg ρ H x v
 | [],_,_,_,_,e=>by simp at e
 | x::xs,_,0,_,h,e=>by
  obtain ⟨v,r,rfl,h2,h3⟩:=h
  simp at e
  subst e
  exact ⟨v,by simp,h2⟩
 | x::xs,_,i+1,y,h,e=>by
  obtain ⟨v,r,rfl,h2,h3⟩:=h
  simp at e
  obtain ⟨v',h4,h5⟩:=Rs.get h3 e
  exact ⟨v',by simpa using h4,h5⟩
theorem Rs.append:∀{xs ys:List PV}{vs ws:List V},Rs K mg ρ H xs vs->Rs K mg ρ H ys ws->Rs K mg ρ H (xs++ys) (vs++ws)
 | [],_,_,_,h,h'=>by cases h;exact h'
 | x::xs,_,_,_,h,h'=>by
  obtain ⟨v,r,rfl,h2,h3⟩:=h
  exact ⟨v,r++_,rfl,h2,Rs.append h3 h'⟩
theorem Rs.take:∀{xs:List PV}{vs:List V}(n:Nat),Rs K mg ρ H xs vs->Rs K mg ρ H (xs.take n) (vs.take n)
 | [],_,n,h=>by cases h;simp [Rs]
 | x::xs,_,0,h=>by simp [Rs]
 | x::xs,_,n+1,h=>by
  obtain ⟨v,r,rfl,h2,h3⟩:=h
  exact ⟨v,_,rfl,h2,Rs.take n h3⟩
theorem Rs.drop:∀{xs:List PV}{vs:List V}(n:Nat),Rs K mg ρ H xs vs->Rs K mg ρ H (xs.drop n) (vs.drop n)
 | [],_,n,h=>by cases h;simp [Rs]
 | x::xs,_,0,h=>h
 | x::xs,_,n+1,h=>by
  obtain ⟨v,r,rfl,h2,h3⟩:=h
  exact Rs.drop n h3
theorem Rs.set:∀{xs:List PV}{vs:List V}{x:PV}{v:V}(i:Nat),Rs K mg ρ H xs vs->R K mg ρ H x v->Rs K mg ρ H (xs.set i x) (vs.set i v)
 | [],_,_,_,i,h,_=>by cases h;simp [Rs]
 | x::xs,_,_,_,0,h,q=>by
  obtain ⟨v,r,rfl,h2,h3⟩:=h
  exact ⟨_,_,rfl,q,h3⟩
 | x::xs,_,_,_,i+1,h,q=>by
  obtain ⟨v,r,rfl,h2,h3⟩:=h
  exact ⟨_,_,rfl,h2,Rs.set i h3 q⟩
theorem EnvR.set {env:zd}{U:St}{x:PV}{v:V}(h:EnvR K mg ρ H env U) (i:Nat) (r:R K mg ρ H x v):EnvR K mg ρ H (env.set i (some x)) (U.set i (some v)):=by
 refine ⟨by simp [h.len],fun j y hy=>?_⟩
 rw [List.getElem?_set] at hy ⊢
 by_cases hij:i=j
 ·subst hij
  by_cases hl:i<env.length
  ·rw [if_pos rfl,if_pos hl] at hy
   rw [if_pos rfl,if_pos (by rw [<-h.len];exact hl)]
   cases hy
   exact ⟨v,rfl,r⟩
  ·rw [if_pos rfl,if_neg hl] at hy
   cases hy
 ·rw [if_neg hij] at hy ⊢
  exact h.at_ j y hy
theorem EnvR.unset {env:zd}{U:St}(h:EnvR K mg ρ H env U) (i:Nat):EnvR K mg ρ H (env.set i none) (U.set i none):=by
 refine ⟨by simp [h.len],fun j y hy=>?_⟩
 rw [List.getElem?_set] at hy ⊢
 by_cases hij:i=j
 ·subst hij
  by_cases hl:i<env.length
  ·rw [if_pos rfl,if_pos hl] at hy
   cases hy
  ·rw [if_pos rfl,if_neg hl] at hy
   cases hy
 ·rw [if_neg hij] at hy ⊢
  exact h.at_ j y hy
theorem EnvR.cons {env:zd}{U:St}{x:PV}{v:V}(h:EnvR K mg ρ H env U) (r:R K mg ρ H x v):EnvR K mg ρ H (some x::env) (some v::U):=by
 refine ⟨by simp [h.len],fun j y hy=>?_⟩
 cases j with
 | zero=>simp at hy;subst hy;exact ⟨v,by simp,r⟩
 | succ j=>simp at hy;simpa using h.at_ j y hy
theorem StR.addr {st:Sto}{n:Nat}{so:SO}(s:StR K mg ρ H st) (e:st[n]?=some so) {a:Addr}(ha:ρ[n]?=some a):SoR K mg ρ H so a:=by
 obtain ⟨b,hb,h⟩:=s.at_ n so e
 rw [ha] at hb
 cases hb
 exact h
theorem SoR.some {so:SO}{a:Addr}(h:SoR K mg ρ H so a):∃o,H a=some o/\True:=by
 cases so with
 | lst xs=>obtain ⟨vs,h,_⟩:=h;exact ⟨_,h,trivial⟩
 | dic ks xs=>obtain ⟨vs,h,_⟩:=h;exact ⟨_,h,trivial⟩
 | ins c ks xs=>obtain ⟨C,dx,vs,_,h,_⟩:=h;exact ⟨_,h,trivial⟩
 | fdi ks xs=>obtain ⟨o,vs,h,_⟩:=h;exact ⟨_,h,trivial⟩
theorem StR.in_ {st:Sto}{n:Nat}{a:Addr}(s:StR K mg ρ H st) (h:ρ[n]?=some a):∃so,st[n]?=some so/\SoR K mg ρ H so a:=by
 have hl:n<st.length:=by rw [<-s.len];exact (List.getElem?_eq_some_iff.mp h).1
 refine ⟨st[n],by simp [hl],s.addr (by simp [hl]) h⟩
theorem SoR.ext' {so:SO}{a:Addr}(e:Ext ρ H ag H1) (h:SoR K mg ρ H so a) (k:H1 a=H a):SoR K mg ag H1 so a:=by
 cases so with
 | lst xs=>obtain ⟨vs,h1,h2⟩:=h;exact ⟨vs,by rw [k];exact h1,Rs.ext e xs h2⟩
 | dic ks xs=>obtain ⟨vs,h1,h2,h3⟩:=h;exact ⟨vs,by rw [k];exact h1,Rs.ext e xs h2,h3⟩
 | ins c ks xs=>obtain ⟨C,dx,vs,h0,h1,h2,h3⟩:=h;exact ⟨C,dx,vs,h0,by rw [k];exact h1,Rs.ext e xs h2,h3⟩
 | fdi ks xs=>obtain ⟨o,vs,h1,h2,h3⟩:=h;exact ⟨o,vs,by rw [k];exact h1,Rs.ext e xs h2,h3⟩
theorem Ext.new {p:Addr}{o:HO}(hp:H p=none):Ext ρ H ρ (upd H p o) :=
 ⟨⟨[],by simp⟩,fun a o' h _=>by rw [zG (jV h hp)];exact h⟩
theorem StR.new {st:Sto}{p:Addr}{o:HO}(s:StR K mg ρ H st) (hp:H p=none):StR K mg ρ (upd H p o) st :=
 ⟨s.len,s.nd,fun n so e=>by
  obtain ⟨a,ha,h⟩:=s.at_ n so e
  obtain ⟨o',ho,_⟩:=h.some
  exact ⟨a,ha,h.ext' (Ext.new hp) (zG (jV ho hp))⟩⟩
theorem Ext.push {p:Addr}{o:HO}(hp:H p=none):Ext ρ H (ρ++[p]) (upd H p o) :=
 ⟨⟨[p],rfl⟩,fun a o' h _=>by rw [zG (jV h hp)];exact h⟩
theorem StR.push {st:Sto}{p:Addr}{o:HO}{so:SO}(s:StR K mg ρ H st) (hp:H p=none) (n:SoR K mg (ρ++[p]) (upd H p o) so p):StR K mg (ρ++[p]) (upd H p o) (st++[so]):=by
 refine ⟨by simp [s.len],?_,fun i so' e=>?_⟩
 ·refine List.nodup_append.mpr ⟨s.nd,by simp,fun a ha b hb=>?_⟩
  obtain rfl:b=p:=by simpa using hb
  obtain ⟨n,hn⟩:=List.getElem?_of_mem ha
  obtain ⟨so',_,h⟩:=s.in_ hn
  obtain ⟨o',ho,_⟩:=h.some
  exact jV ho hp
 ·by_cases hi:i<st.length
  ·rw [List.getElem?_append_left hi] at e
   obtain ⟨a,ha,h⟩:=s.at_ i so' e
   obtain ⟨o',ho,_⟩:=h.some
   exact ⟨a,(Ext.push (o:=o) hp).get ha,h.ext' (Ext.push hp) (zG (jV ho hp))⟩
  ·rw [List.getElem?_append_right (by omega)] at e
   have hi':i=st.length:=by
    have:=(List.getElem?_eq_some_iff.mp e).1
    simp at this
    omega
   subst hi'
   simp at e
   subst e
   exact ⟨p,by rw [<-s.len];simp,n⟩
theorem Ext.write {a:Addr}{o o':HO}(ha:H a=some o) (hi:Imm o=false):Ext ρ H ρ (upd H a o') :=
 ⟨⟨[],by simp⟩,fun b u h m=>by
  rw [zG]
  ·exact h
  ·intro z;subst z;rw [ha] at h;cases h;rw [hi] at m;cases m⟩
theorem StR.write {st:Sto}{n:Nat}{a:Addr}{o':HO}{so:SO}(s:StR K mg ρ H st) (hn:ρ[n]?=some a) (ew:Ext ρ H ρ (upd H a o')) (h:SoR K mg ρ (upd H a o') so a):StR K mg ρ (upd H a o') (st.set n so):=by
 refine ⟨by simp [s.len],s.nd,fun i so' e=>?_⟩
 rw [List.getElem?_set] at e
 by_cases hij:n=i
 ·subst hij
  rw [if_pos rfl] at e
  split at e
  ·cases e;exact ⟨a,hn,h⟩
  ·cases e
 ·rw [if_neg hij] at e
  obtain ⟨b,hb,q⟩:=s.at_ i so' e
  have ne:b≠a:=by
   intro z
   subst z
   obtain ⟨h1,h2⟩:=List.getElem?_eq_some_iff.mp hn
   obtain ⟨h3,h4⟩:=List.getElem?_eq_some_iff.mp hb
   have pw:=List.pairwise_iff_getElem.mp s.nd
   rcases Nat.lt_trichotomy n i with c|c|c
   ·exact pw n i h1 h3 c (h2.trans h4.symm)
   ·exact hij c
   ·exact pw i n h3 h1 c (h4.trans h2.symm)
  exact ⟨b,hb,q.ext' ew (zG ne)⟩
section
variable {α β:Type}{E:XK}{good:List Addr->Hp->α->Sto->Prop}
theorem Out.ext {r:Res α}(h:Out K mg ρ H r good E) (e:Ext ρ H ag H1):Out K mg ag H1 r good E:=by
 cases r with
 | ok x st=>exact fun ah H' e' s=>h ah H' (e.trans e') s
 | err c ks xs st=>exact fun ah H' C d e' s x=>h ah H' C d (e.trans e') s x
 | stuck=>exact h
theorem Out.mono {r:Res α}{good':List Addr->Hp->α->Sto->Prop}(h:Out K mg ρ H r good E) (g:∀ah H' x st,Ext ρ H ah H'->StR K mg ah H' st->good ah H' x st->good' ah H' x st):Out K mg ρ H r good' E:=by
 cases r with
 | ok x st=>exact fun ah H' e' s=>g ah H' x st e' s (h ah H' e' s)
 | err c ks xs st=>exact h
 | stuck=>exact h
theorem Out.bind {r:Res β}{f:β->Mo α}(h:Out K mg ρ H (r.bind f) good E):Out K mg ρ H r (fun ah H' x st=>Out K mg ah H' (f x st) good E) E:=by
 cases r with
 | ok x st=>exact fun ah H' e' s=>Out.ext h e'
 | err c ks xs st=>exact h
 | stuck=>exact h
theorem Out.then {r:Res β}{f:β->Mo α}{good':List Addr->Hp->β->Sto->Prop}(h:Out K mg ρ H (r.bind f) good E) (g:∀ah H' x st,Ext ρ H ah H'->StR K mg ah H' st->Out K mg ah H' (f x st) good E->good' ah H' x st):Out K mg ρ H r good' E:=h.bind.mono g
theorem Out.now {x:α}{st:Sto}(h:Out K mg ρ H (.ok x st) good E) (s:StR K mg ρ H st):good ρ H x st:=h ρ H Ext.refl s
end
end
end Mi
namespace Mi
open PySem L2 PySem.W PySem.Spec
abbrev lim:Nat:=1000000
theorem yQ {n:Nat}(h:n<=lim):n<=sizeLine:=by rw [sizeLine_eq];show n<=16777216;exact Nat.le_trans h (by decide)
section
variable (K:Frag) (mg:Str->Option Value)
def tM (Er:XK) (f:zd->Mo PV):TE:=fun U H Q=>∃env st ρ,EnvR K mg ρ H env U/\StR K mg ρ H st/\Out K mg ρ H (f env st) (gV K mg Q) Er
def tMB (Er:XK) (f:zd->Mo Bool):TT:=fun U H Q=>∃env st ρ,EnvR K mg ρ H env U/\StR K mg ρ H st/\Out K mg ρ H (f env st) (gB Q) Er
def tMA (Er:XK) (f:zd->Mo (List PV)):TA:=fun U H Q=>∃env st ρ,EnvR K mg ρ H env U/\StR K mg ρ H st/\Out K mg ρ H (f env st) (gVs K mg Q) Er
def sM (Er:XK) (f:zd->Mo Fl):TS:=fun D U H=>∃env st ρ,EnvR K mg ρ H env U/\StR K mg ρ H st/\Out K mg ρ H (f env st) (gS K mg D) Er
end
def ME (X:Cx) (Er:XK) (e:Expr) (f:zd->Mo PV):Prop:=PE X e (tM X.K X.mg Er f)
def MT (X:Cx) (Er:XK) (e:Expr) (f:zd->Mo Bool):Prop:=PT X e (tMB X.K X.mg Er f)
def MW (X:Cx) (Er:XK) (e:Expr) (f:zd->Mo Bool):Prop:=PW X e (tMB X.K X.mg Er f)
def MA (X:Cx) (Er:XK) (e:List Expr) (f:zd->Mo (List PV)):Prop:=PA X e (tMA X.K X.mg Er f)
def MS (X:Cx) (Er:XK) (e:Stmt) (f:zd->Mo Fl):Prop:=PS X e (sM X.K X.mg Er f)
def MSs (X:Cx) (Er:XK) (e:List Stmt) (f:zd->Mo Fl):Prop:=PSs X e (sM X.K X.mg Er f)
section
variable {X:Cx}{Er:XK}{e a b c:Expr}{es:List Expr}{pos:Pos}{t t':TE}
theorem PE.weak (h:PE X e t) (w:∀U H Q,t' U H Q->t U H Q):PE X e t':=fun pins s U H Q I q=>h pins s U H Q I (w U H Q q)
theorem PT.weak {t t':TT}(h:PT X e t) (w:∀U H Q,t' U H Q->t U H Q):PT X e t':=fun pins s U H Q I q=>h pins s U H Q I (w U H Q q)
theorem PW.weak {t t':TT}(h:PW X e t) (w:∀U H Q,t' U H Q->t U H Q):PW X e t':=fun wh pins s U H Q I q=>h wh pins s U H Q I (w U H Q q)
theorem PA.weak {t t':TA}(h:PA X es t) (w:∀U H Q,t' U H Q->t U H Q):PA X es t':=fun pos pins s U H Q I q=>h pos pins s U H Q I (w U H Q q)
theorem PS.weak {st:Stmt}{t t':TS}(h:PS X st t) (w:∀D U H,t' D U H->t D U H):PS X st t':=fun pins s U H D I q=>h pins s U H D I (w D U H q)
theorem PSs.weak {st:List Stmt}{t t':TS}(h:PSs X st t) (w:∀D U H,t' D U H->t D U H):PSs X st t':=fun pins s U H D I q=>h pins s U H D I (w D U H q)
def zc (i:Nat):zd->Mo PV:=fun env st=>match env[i]? with
 | some (some x)=>.ok x st
 | _=>.stuck
def mC (x:PV):zd->Mo PV:=fun _ st=>.ok x st
theorem zf (i:Nat) {x:Str} {pos:Pos} (hN:X.N[i]?=some x:=by rfl) (hv:Vis X.env.scope x:=by first|exact Or.inl rfl|exact Or.inr (Or.inl rfl)|exact Or.inr (Or.inr rfl)) (hd:(x==("__debug__" : Str))=false:=by decide)
  (hcd:(x==("__classdict__" : Str))=false:=by decide):ME X Er (.Name x pos) (zc i):=PE.weak (zfC hN hv hd hcd) fun U H Q ⟨env,st,ρ,re,rs,h⟩=>by
 unfold zc at h
 split at h
 ·rename_i x' hx
  obtain ⟨v,h1,h2⟩:=re.at_ i x' hx
  exact ⟨v,h1,h.now rs v h2⟩
 ·exact h.elim
theorem zam {x:PV}{v:V}(hp:PE X e (tC v)) (hr:∀ρ H,R X.K X.mg ρ H x v):ME X Er e (mC x):=PE.weak hp fun U H Q ⟨env,st,ρ,re,rs,h⟩=>h.now rs v (hr ρ H)
theorem zm {i:Int}{j}:ME X Er (.Constant (.int i) j pos) (mC (.int i)):=zam zjS fun _ _=>rfl
theorem zW {x:Str}{j}:ME X Er (.Constant (.str x) j pos) (mC (.str x)):=zam zjV fun _ _=>rfl
theorem wB {b:Bool}{j}:ME X Er (.Constant (.bool b) j pos) (mC (.bl b)):=zam zjT fun _ _=>rfl
theorem zdA {j}:ME X Er (.Constant .none j pos) (mC .non):=zam zjU fun _ _=>rfl
theorem zm1 {x:Str} {p:PV} {v:V} {u:Value} (hm:X.mg x=some u) (r:RelV v u) (hr:∀ρ H,R X.K X.mg ρ H p v) (hg:Gl X x:=by rfl) (hd:(x==("__debug__" : Str))=false:=by decide):ME X Er (.Name x pos) (mC p):=zam (zdn hg hm r hd) hr
def OpM (K:Frag) (mg:Str->Option Value) (r:R2) (op:PV->PV->Mo PV):Prop:=∀ρ H st x y v w (Q:VK) (E:XK),StR K mg ρ H st->R K mg ρ H x v->R K mg ρ H y w->Out K mg ρ H (op x y st) (gV K mg Q) E->r v w H Q
def zg (op:PV->PV->Mo PV) (fa fb:zd->Mo PV):zd->Mo PV:=fun env st=>(fa env st).bind fun x st1=>(fb env st1).bind fun y st2=>op x y st2
variable {fa fb fc:zd->Mo PV}
theorem zb4 {r:R2}{op:PV->PV->Mo PV}{K:Frag}{mg:Str->Option Value}(hm:OpM K mg r op) {U:St}{H:Hp}{Q:VK}(h:tM K mg Er (zg op fa fb) U H Q):tOp r (tM K mg Er fa) (tM K mg Er fb) U H Q:=by
 obtain ⟨env,st,ρ,re,rs,h⟩:=h
 exact ⟨env,st,ρ,re,rs,h.then fun ag H1 x st1 e1 s1 h1 v rv=>⟨env,st1,ag,re.ext e1,s1,h1.then fun ar H2 y st2 e2 s2 h2 w rw=>hm ar H2 st2 x y v w Q Er s2 (R.ext e2 x rv) rw h2⟩⟩
theorem zm2 {o:Operator}{r:R2}{op:PV->PV->Mo PV}(ho:OpR X (binaryOp o) r) (hm:OpM X.K X.mg r op) (ha:ME X Er a fa) (hb:ME X Er b fb):ME X Er (.BinOp a o b pos) (zg op fa fb) :=
 PE.weak (zkH ho ha hb) fun U H Q h=>zb4 hm h
theorem zm3 {o:CmpOp}{r:R2}{op:PV->PV->Mo PV}(ho:OpR X (compareOp o) r) (hm:OpM X.K X.mg r op) (ha:ME X Er a fa) (hb:ME X Er b fb) (hk:behindInMarks o b=false):ME X Er (.Compare a [o] [b] pos) (zg op fa fb) :=
 PE.weak (zkU ho ha hb hk) fun U H Q h=>zb4 hm h
def asB:PV->Mo Bool
 | .bl b,st=>.ok b st
 | _,_=>.stuck
def mB (f:zd->Mo PV):zd->Mo Bool:=fun env st=>(f env st).bind asB
theorem zm4 {K:Frag}{mg:Str->Option Value}{ρ:List Addr}{H:Hp}{x:PV}{st:Sto}{Q:Bool->Hp->Prop}(s:StR K mg ρ H st) (h:Out K mg ρ H (asB x st) (gB Q) Er) {v:V}(r:R K mg ρ H x v):∃k,v=.bl k/\Q k H:=by
 unfold asB at h
 split at h
 ·cases r;exact ⟨_,rfl,h.now s⟩
 ·exact h.elim
theorem zdB {α:Type}{K:Frag}{mg:Str->Option Value}{ρ:List Addr}{H:Hp}{x:PV}{st:Sto}{f:Bool->Mo α}{good:List Addr->Hp->α->Sto->Prop}(h:Out K mg ρ H ((asB x st).bind f) good Er):∃k,x=.bl k/\Out K mg ρ H (f k st) good Er:=by
 cases x with
 | bl k=>exact ⟨k,rfl,h⟩
 | _=>exact False.elim h
theorem zb5 {f:zd->Mo PV}{K:Frag}{mg:Str->Option Value}{U:St}{H:Hp}{Q:Bool->Hp->Prop}(h:tMB K mg Er (mB f) U H Q):tM K mg Er f U H fun x H1=>∃c,x=.bl c/\Q c H1:=by
 obtain ⟨env,st,ρ,re,rs,h⟩:=h
 exact ⟨env,st,ρ,re,rs,h.then fun ag H1 x st1 e1 s1 h1 v rv=>zm4 s1 h1 rv⟩
theorem zm5 {o:CmpOp}{r:R2}{op:PV->PV->Mo PV}(ho:OpR X (compareOp o) r) (hm:OpM X.K X.mg r op) (ha:ME X Er a fa) (hb:ME X Er b fb) (hk:behindInMarks o b=false):MT X Er (.Compare a [o] [b] pos) (mB (zg op fa fb)) :=
 PT.weak (zfI ho ha hb hk) fun U H Q h=>zb4 hm (zb5 h)
theorem jp (h:ME X Er e fa) (he:∀whole,isTrue e X.env whole=(do let v <-whole;standAt e.pos;holding [v] (truthy v)):=by intro _;rfl):MT X Er e (mB fa) :=
 PT.weak (zjX h he) fun U H Q h=>zb5 h
def we (op op':PV->PV->Mo PV) (fa fb fc:zd->Mo PV):zd->Mo PV:=fun env st=>(fa env st).bind fun x st1=>(fb env st1).bind fun y st2=>(op x y st2).bind fun k st3=>(asB k st3).bind fun b st4 =>
 if b=true then (fc env st4).bind fun z st5=>op' y z st5 else .ok (.bl false) st4
theorem zm6 {r r':R2}{op op':PV->PV->Mo PV}{K:Frag}{mg:Str->Option Value}(hm:OpM K mg r op) (hm':OpM K mg r' op') {U:St}{H:Hp}{Q:VK}(h:tM K mg Er (we op op' fa fb fc) U H Q):zfJ r r' (tM K mg Er fa) (tM K mg Er fb) (tM K mg Er fc) U H Q:=by
 obtain ⟨env,st,ρ,re,rs,h⟩:=h
 refine ⟨env,st,ρ,re,rs,h.then fun ag H1 x st1 e1 s1 h1 v rv=>⟨env,st1,ag,re.ext e1,s1,h1.then fun ar H2 y st2 e2 s2 h2 w rw=>?_⟩⟩
 refine hm ar H2 st2 x y v w _ Er s2 (R.ext e2 x rv) rw (h2.then fun aq H3 z st3 e3 s3 h3 u ru=>?_)
 obtain ⟨b,rfl,h4⟩:=zdB h3
 cases ru
 refine ⟨b,rfl,?_⟩
 cases b with
 | true=>exact ⟨env,st3,aq,((re.ext e1).ext e2).ext e3,s3,Out.then (f:=fun z st5=>op' y z st5) h4 fun aR H5 z st5 e5 s5 h5 w' rw'=>hm' aR H5 st5 y z w w' Q Er s5 (R.ext e5 y (R.ext e3 y rw)) rw' h5⟩
 | false=>exact Out.now (x:=PV.bl false) h4 s3 _ rfl
theorem zm7 {o o':CmpOp}{r r':R2}{op op':PV->PV->Mo PV}(ho:OpR X (compareOp o) r) (hm:OpM X.K X.mg r op) (ho':OpR X (compareOp o') r') (hm':OpM X.K X.mg r' op') (ha:ME X Er a fa) (hb:ME X Er b fb) (hc:ME X Er c fc)
  (hk:lastMarks [o,o'] [b,c]=false:=by with_unfolding_all rfl):MT X Er (.Compare a [o,o'] [b,c] pos) (mB (we op op' fa fb fc)):=PT.weak (zkV ho ho' ha hb hc hk) fun U H Q h=>zm6 hm hm' (zb5 h)
def UnM (K:Frag) (mg:Str->Option Value) (r:V->Hp->VK->Prop) (op:PV->Mo PV):Prop:=∀ρ H st x v (Q:VK) (E:XK),StR K mg ρ H st->R K mg ρ H x v->Out K mg ρ H (op x st) (gV K mg Q) E->r v H Q
def jc (op:PV->Mo PV) (fa:zd->Mo PV):zd->Mo PV:=fun env st=>(fa env st).bind op
theorem zm8 {o:UnaryOp}{r:V->Hp->VK->Prop}{op:PV->Mo PV}(ho:UnR X (unaryOp o) r) (hm:UnM X.K X.mg r op) (ha:ME X Er a fa):ME X Er (.UnaryOp o a pos) (jc op fa) :=
 PE.weak (zkI ho ha) fun U H Q ⟨env,st,ρ,re,rs,h⟩=>⟨env,st,ρ,re,rs,h.then fun ag H1 x st1 e1 s1 h1 v rv=>hm ag H1 st1 x v Q Er s1 rv h1⟩
variable {ga gb:zd->Mo Bool}{rest:List Expr}
def jd (ga gb:zd->Mo Bool):zd->Mo Bool:=fun env st=>(ga env st).bind fun c st1=>if c=true then gb env st1 else .ok false st1
def jN (ga gb:zd->Mo Bool):zd->Mo Bool:=fun env st=>(ga env st).bind fun c st1=>if c=true then .ok true st1 else gb env st1
def je (ga:zd->Mo Bool):zd->Mo Bool:=fun env st=>(ga env st).bind fun c st1=>.ok (!c) st1
theorem zan (ha:MT X Er a ga):MW X Er (.BoolOp .And [a] pos) ga:=zj1 ha
theorem zb6 (ha:MT X Er a ga):MW X Er (.BoolOp .Or [a] pos) ga:=zj2 ha
theorem zao (ha:MT X Er a ga) (hb:MW X Er (.BoolOp .And (b::rest) pos) gb):MW X Er (.BoolOp .And (a::b::rest) pos) (jd ga gb) :=
 PW.weak (zj3 ha hb) fun U H Q ⟨env,st,ρ,re,rs,h⟩=>⟨env,st,ρ,re,rs,h.then fun ag H1 k st1 e1 s1 h1=>by
  cases k with
  | true=>exact ⟨env,st1,ag,re.ext e1,s1,h1⟩
  | false=>exact h1.now s1⟩
theorem zb7 (ha:MT X Er a ga) (hb:MW X Er (.BoolOp .Or (b::rest) pos) gb):MW X Er (.BoolOp .Or (a::b::rest) pos) (jN ga gb) :=
 PW.weak (zj4 ha hb) fun U H Q ⟨env,st,ρ,re,rs,h⟩=>⟨env,st,ρ,re,rs,h.then fun ag H1 k st1 e1 s1 h1=>by
  cases k with
  | false=>exact ⟨env,st1,ag,re.ext e1,s1,h1⟩
  | true=>exact h1.now s1⟩
theorem jX {op:BoolOp}(h:MW X Er (.BoolOp op es pos) ga):MT X Er (.BoolOp op es pos) ga:=PW.pt h
theorem wC (ha:MT X Er a ga):MT X Er (.UnaryOp .Not a pos) (je ga):=PT.weak (zj5 ha) fun U H Q ⟨env,st,ρ,re,rs,h⟩=>⟨env,st,ρ,re,rs,h.then fun ag H1 k st1 e1 s1 h1=>h1.now s1⟩
def jY (fa fb:zd->Mo PV):zd->Mo PV:=fun env st=>(fa env st).bind fun x st1=>(asB x st1).bind fun c st2=>if c=true then fb env st2 else .ok (.bl false) st2
def zdC (fa:zd->Mo PV):zd->Mo PV:=fun env st=>(fa env st).bind fun x st1=>(asB x st1).bind fun c st2=>.ok (.bl (!c)) st2
theorem zb8 {op}(h:ME X Er a fa):ME X Er (.BoolOp op [a] pos) fa:=zj8 h
theorem wU (ha:ME X Er a fa) (hb:ME X Er (.BoolOp .And (b::rest) pos) fb):ME X Er (.BoolOp .And (a::b::rest) pos) (jY fa fb) :=
 PE.weak (zj9 ha hb) fun U H Q ⟨env,st,ρ,re,rs,h⟩=>⟨env,st,ρ,re,rs,h.then fun ag H1 x st1 e1 s1 h1 v rv=>by
  obtain ⟨k,rfl,h1⟩:=zdB h1
  cases rv
  refine ⟨k,rfl,?_⟩
  cases k with
  | true=>exact ⟨env,st1,ag,re.ext e1,s1,h1⟩
  | false=>exact Out.now (x:=PV.bl false) h1 s1 _ rfl⟩
theorem zm9 (ha:ME X Er a fa):ME X Er (.UnaryOp .Not a pos) (zdC fa) :=
 PE.weak (zka ha) fun U H Q ⟨env,st,ρ,re,rs,h⟩=>⟨env,st,ρ,re,rs,h.then fun ag H1 x st1 e1 s1 h1 v rv=>by
  obtain ⟨k,rfl,h1⟩:=zdB h1
  cases rv
  exact ⟨k,rfl,Out.now (x:=PV.bl (!k)) h1 s1 _ rfl⟩⟩
def zj:zd->Mo (List PV):=fun _ st=>.ok [] st
def ze (f:zd->Mo PV) (fs:zd->Mo (List PV)):zd->Mo (List PV):=fun env st=>(f env st).bind fun x st1=>(fs env st1).bind fun xs st2=>.ok (x::xs) st2
variable {fs:zd->Mo (List PV)}
theorem zn:MA X Er [] zj:=PA.weak zbS fun U H Q ⟨env,st,ρ,re,rs,h⟩=>h.now rs [] rfl
theorem zgz (ha:ME X Er e fa) (hr:MA X Er es fs) (hs:starEach (e::es) X.env=(false,eval e X.env)::starEach es X.env:=by rfl):MA X Er (e::es) (ze fa fs) :=
 PA.weak (zbT ha hr hs) fun U H Q ⟨env,st,ρ,re,rs,h⟩=>⟨env,st,ρ,re,rs,h.then fun ag H1 x st1 e1 s1 h1 v rv=>⟨env,st1,ag,re.ext e1,s1,h1.then fun ar H2 xs st2 e2 s2 h2 vs rvs =>
  h2.now s2 (v::vs) ⟨v,vs,rfl,R.ext e2 x rv,rvs⟩⟩⟩
def yb (fs:zd->Mo (List PV)):zd->Mo PV:=fun env st=>(fs env st).bind fun xs st1=>if xs.length<=lim then .ok (.tup xs) st1 else .stuck
def ji (fs:zd->Mo (List PV)):zd->Mo PV:=fun env st=>(fs env st).bind fun xs st1=>if xs.length<=lim then .ok (.ref st1.length) (st1++[.lst xs]) else .stuck
theorem R.tup_of {K:Frag}{mg:Str->Option Value}{ρ:List Addr}{H:Hp}{xs:List PV}{vs:List V}{p:Addr}(r:Rs K mg ρ H xs vs) (hp:H p=none):R K mg ρ (upd H p (.tup vs)) (.tup xs) (.ref p) :=
 ⟨p,vs,rfl,SqT.of yp,Rs.ext (Ext.new hp) xs r⟩
theorem yn {x1}(h:MA X Er es fs):ME X Er (.Tuple es x1 pos) (yb fs) :=
 PE.weak (zlh h) fun U H Q ⟨env,st,ρ,re,rs,h⟩=>⟨env,st,ρ,re,rs,h.then fun ag H1 xs st1 e1 s1 h1 vs rv=>by
  split at h1
  ·rename_i hl
   exact ⟨by rw [<-rv.len];exact yQ hl,fun p hp=>h1 ag _ (Ext.new hp) (s1.new hp) _ (R.tup_of rv hp)⟩
  ·exact h1.elim⟩
theorem Out.newList {K:Frag}{mg:Str->Option Value}{ρ:List Addr}{H:Hp}{st:Sto}{xs:List PV}{vs:List V}{p:Addr}{Q:VK}(h:Out K mg ρ H (.ok (.ref st.length) (st++[.lst xs])) (gV K mg Q) Er) (s:StR K mg ρ H st) (r:Rs K mg ρ H xs vs) (hp:H p=none):Q (.ref p) (upd H p (.lst vs)) :=
 h (ρ++[p]) _ (Ext.push hp) (s.push hp ⟨vs,yp,Rs.ext (Ext.push hp) xs r⟩) _ ⟨p,rfl,by rw [<-s.len];simp⟩
theorem jO (h:MA X Er es fs):ME X Er (.List es pos) (ji fs) :=
 PE.weak (zli h) fun U H Q ⟨env,st,ρ,re,rs,h⟩=>⟨env,st,ρ,re,rs,h.then fun ag H1 xs st1 e1 s1 h1 vs rv=>by
  split at h1
  ·rename_i hl
   exact ⟨by rw [<-rv.len];exact yQ hl,fun p hp=>Out.newList h1 s1 rv hp⟩
  ·exact h1.elim⟩
theorem zna {r:R2}{op:PV->PV->Mo PV}(ho:IxR X r) (hm:OpM X.K X.mg r op) (ha:ME X Er a fa) (hb:ME X Er b fb) (hs:PlainIx b:=by exact fun _ _=>rfl):ME X Er (.Subscript a b pos) (zg op fa fb) :=
 PE.weak (zf0 ho ha hb hs) fun U H Q h=>zb4 hm h
end
end Mi
namespace HT
open PySem PySem.Spec PyProof.Rows
section
variable {prog:Program}{w:World}{A:Around}{E:Value->Shared->Prop}{s:Shared}
theorem getItem_tuple_all {t sl:Addr}{items:Array Value}{vl vu:Value}{lo hi:Option Int}{Q:Value->Shared->Prop}(ht:IsTup s.heap t items) (hs:s.heap.IsSliceOf sl vl vu .none) (pl:IsPart vl lo) (pu:IsPart vu hi)
  (hw:sIx items.size 0 lo=0/\sIx items.size items.size hi=items.size) (h:Q (.ref t) s)
  (hsz:items.size<=sizeLine):wpAny (model prog w) A (getItem (.ref t) (.ref sl)) Q E s:=by
 obtain ⟨os,hos,hcs,hds⟩:=id hs
 have hTs:s.TypeIs (.ref sl) "slice" := ⟨os,hos,hcs⟩
 unfold getItem
 try with_reducible refine wpAny_holding ?_
 first|refine wpAny_bind (wpAny_pure ?_)|skip
 refine wpAny_bind (wpAny_sequenceKey ht.typeIs (by decide) ?_)
 refine wpAny_bind (wpAny_callSpecial?_slot (name:=Str.ofString "__getitem__") ht.typeIs PyProof.Rows.slot_tuple_getitem
  (wpAny_call_entry PyProof.Rows.slot_tuple_getitem ht.typeIs entry_tuple_getitem ?_ (args_tuple_getitem _ _)))
 show wpAny _ _ (Builtin.Tuple.tupleItemsOf (.ref t) >>= _) _ _ s
 refine wpAny_bind (tupleItemsOf_ ht ?_)
 refine wpAny_bind (wpAny_typeOf hTs ?_)
 rw [if_pos (by decide)]
 refine wpAny_bind (zfY hs pl pu ?_)
 have hyes:(((sIx items.size 0 lo:Nat):Int)==0&&(1:Int)==1&&(sIx items.size items.size hi-sIx items.size 0 lo)==items.size)=true:=by
  rw [hw.1,hw.2];simp
 show wpAny _ _ (if (((sIx items.size 0 lo:Nat):Int)==0&&(1:Int)==1&&(sIx items.size items.size hi-sIx items.size 0 lo)==items.size)=true then _ else _) _ _ s
 rw [if_pos hyes]
 unfold Builtin.Tuple.tupleIsExact
 refine wpAny_bind (wpAny_bind (wpAny_typeOf ht.typeIs (wpAny_pure ?_)))
 rw [if_pos (by decide)]
 exact wpAny_bind (wpAny_rule (wpAny_pure ⟨_,rfl,wpAny_pure h⟩))
theorem cat_tup0 {t b:Addr}{ws:List Value}{Q:Value->Shared->Prop}(ht:IsTup s.heap t #[]) (hb:IsTup s.heap b ws.toArray) (h1:Q (.ref b) s):wpAny (model prog w) A (binaryOp .Add (.ref t) (.ref b)) Q E s:=by
 obtain ⟨⟨cls,dd,data,sl⟩,ho,hc,n,hd⟩:=id ht
 obtain ⟨⟨cls2,dd2,data2,sl2⟩,ho2,hc2,n2,hd2⟩:=id hb
 simp only at hc hd hc2 hd2
 subst hc hd hc2 hd2
 exact concat_meets ⟨_,ho,rfl⟩ ⟨_,ho2,rfl⟩ noFill_tuple_add seq_tuple_add PySem.F.slot_tuple_add PySem.F.entry_tuple_add (PySem.F.args_tuple_add_2 _ _)
   (tuple_addW0 t b #[] ws.toArray n n2 dd dd2 sl sl2 (by simp)) ⟨ho,ho2,h1⟩
end
end HT
namespace Mi
open PySem L2 PySem.W PySem.Spec
section
variable {X:Cx}{Er:XK}{K:Frag}{mg:Str->Option Value}
def BinOk (X:Cx) (o:Operator) (op:PV->PV->Mo PV):Prop:=∃r,OpR X (binaryOp o) r/\OpM X.K X.mg r op
def CmpOk (X:Cx) (o:CmpOp) (op:PV->PV->Mo PV):Prop:=∃r,OpR X (compareOp o) r/\OpM X.K X.mg r op
def IxOk (X:Cx) (op:PV->PV->Mo PV):Prop:=∃r,IxR X r/\OpM X.K X.mg r op
def UnOk (X:Cx) (o:UnaryOp) (op:PV->Mo PV):Prop:=∃r,UnR X (unaryOp o) r/\UnM X.K X.mg r op
variable {a b c e:Expr}{es:List Expr}{pos:Pos}{fa fb fc:zd->Mo PV}{fs:zd->Mo (List PV)}
theorem zu {o:Operator}{op:PV->PV->Mo PV}(h:BinOk X o op) (ha:ME X Er a fa) (hb:ME X Er b fb):ME X Er (.BinOp a o b pos) (zg op fa fb):=let ⟨_,h1,h2⟩:=h;zm2 h1 h2 ha hb
theorem zdD {o:CmpOp}{op:PV->PV->Mo PV}(h:CmpOk X o op) (ha:ME X Er a fa) (hb:ME X Er b fb) (hk:behindInMarks o b=false:=by first|exact nomark _|with_unfolding_all rfl):ME X Er (.Compare a [o] [b] pos) (zg op fa fb):=let ⟨_,h1,h2⟩:=h;zm3 h1 h2 ha hb hk
theorem yd {o:CmpOp}{op:PV->PV->Mo PV}(h:CmpOk X o op) (ha:ME X Er a fa) (hb:ME X Er b fb) (hk:behindInMarks o b=false:=by first|exact nomark _|with_unfolding_all rfl):MT X Er (.Compare a [o] [b] pos) (mB (zg op fa fb)):=let ⟨_,h1,h2⟩:=h;zm5 h1 h2 ha hb hk
theorem zdE {o o':CmpOp}{op op':PV->PV->Mo PV}(h:CmpOk X o op) (h':CmpOk X o' op') (ha:ME X Er a fa) (hb:ME X Er b fb) (hc:ME X Er c fc)
  (hk:lastMarks [o,o'] [b,c]=false:=by with_unfolding_all rfl):MT X Er (.Compare a [o,o'] [b,c] pos) (mB (we op op' fa fb fc)):=let ⟨_,h1,h2⟩:=h;let ⟨_,h3,h4⟩:=h';zm7 h1 h2 h3 h4 ha hb hc hk
theorem zK {op:PV->PV->Mo PV}(h:IxOk X op) (ha:ME X Er a fa) (hb:ME X Er b fb) (hs:PlainIx b:=by exact fun _ _=>rfl):ME X Er (.Subscript a b pos) (zg op fa fb):=let ⟨_,h1,h2⟩:=h;zna h1 h2 ha hb hs
theorem znb {o:UnaryOp}{op:PV->Mo PV}(h:UnOk X o op) (ha:ME X Er a fa):ME X Er (.UnaryOp o a pos) (jc op fa):=let ⟨_,h1,h2⟩:=h;zm8 h1 h2 ha
theorem Out.ifp {α:Type}{ρ:List Addr}{H:Hp}{p:Prop} [Decidable p] {r:Res α}{good:List Addr->Hp->α->Sto->Prop}(h:Out K mg ρ H (if p then r else .stuck) good Er):p/\Out K mg ρ H r good Er:=by
 split at h
 ·rename_i hp;exact ⟨hp,h⟩
 ·exact False.elim h
def ye {α:Type}(st:Sto) (n:Nat) (k:List PV->Res α):Res α:=match st[n]? with
 | some (.lst xs)=>k xs
 | _=>.stuck
def yU {α:Type}(st:Sto) (n:Nat) (k:List Str->List PV->Res α):Res α:=match st[n]? with
 | some (.dic ks xs)=>k ks xs
 | _=>.stuck
def jj {α:Type}(st:Sto) (n:Nat) (k:Str->List Str->List PV->Res α):Res α:=match st[n]? with
 | some (.ins c ks xs)=>k c ks xs
 | _=>.stuck
theorem jf {α:Type}{ρ:List Addr}{H:Hp}{st:Sto}{n:Nat}{k:List PV->Res α}{good:List Addr->Hp->α->Sto->Prop}(h:Out K mg ρ H (ye st n k) good Er):∃xs,st[n]?=some (.lst xs)/\Out K mg ρ H (k xs) good Er:=by
 unfold ye at h
 split at h
 ·rename_i xs e;exact ⟨xs,e,h⟩
 ·exact False.elim h
theorem zb9 {α:Type}{ρ:List Addr}{H:Hp}{st:Sto}{n:Nat}{k:List Str->List PV->Res α}{good:List Addr->Hp->α->Sto->Prop}(h:Out K mg ρ H (yU st n k) good Er):∃ks xs,st[n]?=some (.dic ks xs)/\Out K mg ρ H (k ks xs) good Er:=by
 unfold yU at h
 split at h
 ·rename_i ks xs e;exact ⟨ks,xs,e,h⟩
 ·exact False.elim h
theorem zgA {α:Type}{ρ:List Addr}{H:Hp}{st:Sto}{n:Nat}{k:Str->List Str->List PV->Res α}{good:List Addr->Hp->α->Sto->Prop}(h:Out K mg ρ H (jj st n k) good Er):∃c ks xs,st[n]?=some (.ins c ks xs)/\Out K mg ρ H (k c ks xs) good Er:=by
 unfold jj at h
 split at h
 ·rename_i c ks xs e;exact ⟨c,ks,xs,e,h⟩
 ·exact False.elim h
def opI (C:Int->Int->Bool) (g:Int->Int->Int):PV->PV->Mo PV
 | .int i,.int j,st=>if C i j=true then .ok (.int (g i j)) st else .stuck
 | _,_,_=>.stuck
theorem zaZ {C:Int->Int->Bool}{g:Int->Int->Int}{P:Int->Int->Prop}(hC:∀i j,C i j=true->P i j):OpM K mg (rI P fun i j=>.int (g i j)) (opI C g):=by
 intro ρ H st x y v w Q E s rx ry h
 cases x with
 | int i =>
  cases y with
  | int j =>
   cases rx;cases ry
   obtain ⟨c,h⟩:=Out.ifp h
   exact ⟨i,j,rfl,rfl,hC i j c,h.now s _ rfl⟩
  | _=>exact False.elim h
 | _=>exact False.elim h
abbrev c0:Int->Int->Bool:=fun _ _=>true
theorem znc {g:Int->Int->V}{f:Value->Value->Sem Value}(h:OpR X f (wa g)):OpR X f (rI (fun _ _=>True) g):=fun pins s U H x y v u Q I rx ry ⟨i,j,h1,h2,_,q⟩=>h pins s U H x y v u Q I rx ry ⟨i,j,h1,h2,q⟩
abbrev yD:=opI c0 fun i j=>i-j
abbrev cMul:Int->Int->Bool:=fun i j=>(decide (-(2 ^ 64)<i)&&decide (i<2 ^ 64))||(decide (-(2 ^ 64)<j)&&decide (j<2 ^ 64))
abbrev zgB:=opI cMul fun i j=>i*j
abbrev cPow:Int->Int->Bool:=fun i j=>decide (0<=j)&&decide (j<=1000000)&&decide (i.natAbs<2 ^ 64)
abbrev za0:=opI cPow fun i j=>i ^ j.toNat
abbrev cNz:Int->Int->Bool:=fun _ j=>decide (j≠0)
def yc (i j:Int):Int:=if 0<j then i%j else i.fmod j
abbrev zR:=opI cNz yc
abbrev cDv:Int->Int->Bool:=fun _ j=>decide (j≠0)&&decide (j.natAbs<2 ^ 200)
def z0 (i j:Int):Int:=if 0<j then i/j else i.fdiv j
abbrev yf:=opI cDv z0
theorem zne (i j:Int):yc i j=i.fmod j:=by
 unfold yc;split
 ·rename_i h;rw [Int.fmod_eq_emod_of_nonneg _ (by omega)]
 ·rfl
theorem znf (i j:Int):z0 i j=i.fdiv j:=by
 unfold z0;split
 ·rename_i h;rw [Int.fdiv_eq_ediv_of_nonneg _ (by omega)]
 ·rfl
theorem jq:BinOk X .Sub yD:=⟨_,znc zkK,zaZ fun _ _ _=>trivial⟩
theorem zng:BinOk X .Mult zgB:=⟨_,zkL,zaZ fun i j h=>by simpa [cMul,CMul] using h⟩
theorem zdF:BinOk X .Pow za0:=⟨_,zkN,zaZ fun i j h=>by simp [cPow] at h;exact ⟨h.1.1,h.1.2,h.2⟩⟩
theorem yi:BinOk X .Mod zR:=⟨_,zkM,by
 have h:(fun i j=>V.int (i.fmod j))=fun i j=>V.int (yc i j):=by funext i j;rw [zne]
 rw [h];exact zaZ fun i j h=>by simpa [cNz] using h⟩
theorem znh {y:Int}(h:y.natAbs<2 ^ 200):y.natAbs.log2<9000:=by
 by_cases h0:y.natAbs=0
 ·rw [h0];decide
 ·have:=(Nat.log2_lt h0).mpr h
  omega
theorem zni:OpR X (binaryOp .FloorDiv) (rI (fun _ j=>j≠0/\j.natAbs<2 ^ 200) fun i j=>.int (i.fdiv j)):=L2.opI fun _ _ _ _ _ _ _ hc q=>PyProof.Rows.floordiv_int hc.1 q (.inl (PyProof.noPylong_of_log2 (znh hc.2)))
theorem yE:BinOk X .FloorDiv yf:=⟨_,zni,by
 have h:(fun i j=>V.int (i.fdiv j))=fun i j=>V.int (z0 i j):=by funext i j;rw [znf]
 rw [h];exact zaZ fun i j h=>by simpa [cDv] using h⟩
def zgC:PV->Mo PV
 | .int i,st=>.ok (.int (-i)) st
 | _,_=>.stuck
theorem znj:UnOk X .USub zgC:=⟨_,zkO,by
 intro ρ H st x v Q E s rx h
 cases x with
 | int i=>cases rx;exact ⟨i,rfl,Out.now (x:=PV.int (-i)) h s _ rfl⟩
 | _=>exact False.elim h⟩
def zP:PV->PV->Mo PV
 | .int i,.int j,st=>.ok (.int (i+j)) st
 | .str x,.str y,st=>if x.length+y.length<=lim then .ok (.str (x++y)) st else .stuck
 | .tup xs,.tup ys,st=>if xs.length+ys.length<=lim then .ok (.tup (xs++ys)) st else .stuck
 | .ref n,.ref m,st=>ye st n fun xs=>ye st m fun ys=>if xs.length+ys.length<=lim then .ok (.ref st.length) (st++[.lst (xs++ys)]) else .stuck
 | _,_,_=>.stuck
def znk (K:Frag):R2:=fun x y H Q=>∃a b ys,x=.ref a/\y=.ref b/\SqT K H a []/\SqT K H b ys/\Q (.ref b) H
theorem znl:OpR X (binaryOp .Add) (znk X.K):=by
 intro pins s U H x y v u Q I rx ry h
 obtain ⟨a,b,ys,rfl,rfl,h1,h2,q⟩:=h
 cases rx;cases ry
 obtain ⟨i1,r1,p1,_⟩:=I.tuple h1
 obtain ⟨i2,r2,p2,_⟩:=I.tuple h2
 cases r1
 exact HT.cat_tup0 p1 p2 ⟨.ref b,H,I,rfl,q⟩
theorem yg:BinOk X .Add zP:=⟨_,zkJ.or (zkW.or (znl.or (zlE.or zlX))),by
 intro ρ H st x y v w Q E s rx ry h
 cases x with
 | int i =>
  cases y with
  | int j=>cases rx;cases ry;exact .inl ⟨i,j,rfl,rfl,Out.now (x:=PV.int (i+j)) h s _ rfl⟩
  | _=>exact False.elim h
 | str i =>
  cases y with
  | str j =>
   cases rx;cases ry
   obtain ⟨c,h⟩:=Out.ifp h
   exact .inr (.inl ⟨i,j,rfl,rfl,yQ c,h.now s _ rfl⟩)
  | _=>exact False.elim h
 | tup xs =>
  cases y with
  | tup ys =>
   obtain ⟨p,vs,rfl,h1,h2⟩:=rx
   obtain ⟨q,ws,rfl,h3,h4⟩:=ry
   obtain ⟨c,h⟩:=Out.ifp h
   cases xs with
   | nil =>
    cases h2
    exact .inr (.inr (.inl ⟨p,q,ws,rfl,rfl,h1,h3,h.now s _ ⟨q,ws,rfl,h3,h4⟩⟩))
   | cons x0 xs0 =>
    refine .inr (.inr (.inr (.inl ⟨p,q,vs,ws,rfl,rfl,h1,h3,?_,?_,fun e=>?_,fun _ l hl=>?_⟩)))
    ·obtain ⟨v0,r0,e0,_⟩:=h2;rw [e0];simp
    ·rw [<-h2.len,<-h4.len];exact yQ c
    ·subst e
     have:ys=[]:=by have:=h4.len;simpa using this
     subst this
     exact h.now s _ ⟨p,vs,rfl,h1,by simpa using h2⟩
    ·exact h ρ _ (Ext.new hl) (s.new hl) _ (R.tup_of (h2.append h4) hl)
  | _=>exact False.elim h
 | ref n =>
  cases y with
  | ref m =>
   obtain ⟨p,rfl,hp⟩:=rx
   obtain ⟨q,rfl,hq⟩:=ry
   obtain ⟨xs,e1,h⟩:=jf h
   obtain ⟨ys,e2,h⟩:=jf h
   obtain ⟨c,h⟩:=Out.ifp h
   obtain ⟨vs,h1,h2⟩:=s.addr e1 hp
   obtain ⟨ws,h3,h4⟩:=s.addr e2 hq
   exact .inr (.inr (.inr (.inr ⟨p,q,vs,ws,rfl,rfl,h1,h3,by rw [<-h2.len,<-h4.len];exact yQ c,fun l hl=>Out.newList h s (h2.append h4) hl⟩)))
  | _=>exact False.elim h
 | _=>exact False.elim h⟩
def opB (g:Int->Int->Bool):PV->PV->Mo PV
 | .int i,.int j,st=>.ok (.bl (g i j)) st
 | _,_,_=>.stuck
theorem zdG {g:Int->Int->Bool}:OpM K mg (wa fun i j=>.bl (g i j)) (opB g):=by
 intro ρ H st x y v w Q E s rx ry h
 cases x with
 | int i =>
  cases y with
  | int j=>cases rx;cases ry;exact ⟨i,j,rfl,rfl,Out.now (x:=PV.bl (g i j)) h s _ rfl⟩
  | _=>exact False.elim h
 | _=>exact False.elim h
abbrev jg:=opB fun i j=>decide (i<j)
abbrev oLe:=opB fun i j=>decide (i<=j)
abbrev wV:=opB fun i j=>decide (j<i)
theorem wD:CmpOk X .Lt jg:=⟨_,zkP,zdG⟩
theorem zdH:CmpOk X .LtE oLe:=⟨_,zkQ,zdG⟩
theorem zca:CmpOk X .Gt wV:=⟨_,zkR,zdG⟩
def isNon:PV->Bool
 | .non=>true
 | _=>false
def oIs:PV->PV->Mo PV
 | x,.non,st=>.ok (.bl (isNon x)) st
 | _,_,_=>.stuck
theorem znm {ρ:List Addr}{H:Hp}{x:PV}{v:V}(r:R K mg ρ H x v):decide (v=.non)=isNon x:=by
 cases x with
 | non=>cases r;rfl
 | bl _=>cases r;rfl
 | int _=>cases r;rfl
 | str _=>cases r;rfl
 | ty _=>cases r;rfl
 | tup _=>obtain ⟨_,_,rfl,_⟩:=r;rfl
 | frl _=>obtain ⟨_,_,rfl,_⟩:=r;rfl
 | ref _=>obtain ⟨_,rfl,_⟩:=r;rfl
 | fn _=>obtain ⟨_,rfl,_⟩:=r;rfl
 | kd _ _=>obtain ⟨_,_,_,rfl,_⟩:=r;rfl
 | exo _ _ _=>obtain ⟨_,_,_,_,rfl,_⟩:=r;rfl
theorem znn:CmpOk X .Is oIs:=⟨_,zkT,by
 intro ρ H st x y v w Q E s rx ry h
 cases y with
 | non=>cases ry;exact ⟨rfl,by rw [znm rx];exact Out.now (x:=PV.bl (isNon x)) h s _ rfl⟩
 | _=>exact False.elim h⟩
theorem zdI {ρ:List Addr}{H:Hp}{xs:List PV}{vs:List V}{i:Int}{x:PV}(r:Rs K mg ρ H xs vs) (h:atI xs i=some x):∃v,atI vs i=some v/\R K mg ρ H x v:=by
 unfold atI at h ⊢
 rw [<-r.len]
 cases hj:ixN xs.length i with
 | none=>rw [hj] at h;cases h
 | some j =>
  rw [hj] at h
  obtain ⟨v,h1,h2⟩:=r.get (show xs[j]?=some x from h)
  exact ⟨v,h1,h2⟩
def optR:Option PV->Mo PV
 | some x,st=>.ok x st
 | none,_=>.stuck
def oIx:PV->PV->Mo PV
 | .tup xs,.int i,st=>optR (atI xs i) st
 | .frl xs,.int i,st=>optR (atI xs i) st
 | .str z,.int i,st=>if z.length<=lim then optR ((atI z.cps.toList i).map fun c=>.str ⟨#[c]⟩) st else .stuck
 | .ref n,.int i,st=>ye st n fun xs=>optR (atI xs i) st
 | _,_,_=>.stuck
theorem wf {ρ:List Addr}{H:Hp}{o:Option PV}{st:Sto}{good}(h:Out K mg ρ H (optR o st) good Er):∃x,o=some x/\Out K mg ρ H (.ok x st) good Er:=by
 cases o with
 | some x=>exact ⟨x,rfl,h⟩
 | none=>exact False.elim h
theorem zno:IxOk X oIx:=⟨_,zlJ,by
 intro ρ H st x y v w Q E s rx ry h
 cases x with
 | tup xs =>
  cases y with
  | int i =>
   cases ry
   obtain ⟨p,vs,rfl,h1,h2⟩:=rx
   obtain ⟨x,e,h⟩:=wf h
   obtain ⟨v,h3,h4⟩:=zdI h2 e
   exact .inr (.inl ⟨p,vs,i,v,rfl,rfl,h1,h3,h.now s _ h4⟩)
  | _=>exact False.elim h
 | frl xs =>
  cases y with
  | int i =>
   cases ry
   obtain ⟨p,vs,rfl,h1,h2⟩:=rx
   obtain ⟨x,e,h⟩:=wf h
   obtain ⟨v,h3,h4⟩:=zdI h2 e
   exact .inl ⟨p,vs,i,v,rfl,rfl,h1.sq,h3,h.now s _ h4⟩
  | _=>exact False.elim h
 | str z =>
  cases y with
  | int i =>
   cases ry;cases rx
   obtain ⟨c,h⟩:=Out.ifp h
   obtain ⟨x,e,h⟩:=wf h
   cases hc:atI z.cps.toList i with
   | none=>rw [hc] at e;cases e
   | some k =>
    rw [hc] at e
    cases e
    exact .inr (.inr ⟨z,i,k,rfl,rfl,yQ c,hc,h.now s _ rfl⟩)
  | _=>exact False.elim h
 | ref n =>
  cases y with
  | int i =>
   cases ry
   obtain ⟨p,rfl,hp⟩:=rx
   obtain ⟨xs,e1,h⟩:=jf h
   obtain ⟨vs,h1,h2⟩:=s.addr e1 hp
   obtain ⟨x,e,h⟩:=wf h
   obtain ⟨v,h3,h4⟩:=zdI h2 e
   exact .inl ⟨p,vs,i,v,rfl,rfl,SqL.of h1,h3,h.now s _ h4⟩
  | _=>exact False.elim h
 | _=>exact False.elim h⟩
end
mutual
def plain:PV->Bool
 | .non=>true
 | .bl _=>true
 | .int _=>true
 | .str _=>true
 | .tup xs=>plains xs
 | _=>false
def plains:List PV->Bool
 | []=>true
 | x::xs=>plain x&&plains xs
end
mutual
def dep:PV->Nat
 | .tup xs=>deps xs+1
 | _=>0
def deps:List PV->Nat
 | []=>0
 | x::xs=>max (dep x) (deps xs)
end
mutual
def eqP:PV->PV->Bool
 | .non,.non=>true
 | .bl a,.bl b=>a==b
 | .bl a,.int b=>(if a then 1 else 0)==b
 | .int a,.bl b=>a==(if b then 1 else 0)
 | .int a,.int b=>a==b
 | .str a,.str b=>a==b
 | .tup xs,.tup ys=>eqPs xs ys
 | _,_=>false
def eqPs:List PV->List PV->Bool
 | [],[]=>true
 | x::xs,y::ys=>eqP x y&&eqPs xs ys
 | _,_=>false
end
section
variable {X:Cx}{Er:XK}{K:Frag}{mg:Str->Option Value}{ρ:List Addr}{pins:List (Addr×Obj)}{U:L2.St}{H:Hp}{s:Shared}
mutual
theorem zcc (I:Inv X pins U H s):∀(x y:PV) {v:V},plain x=true->plain y=true->R X.K mg ρ H x v->R X.K mg ρ H y v->eqP x y=true
 | .non,y,v,_,py,rx,ry=>by
  cases rx
  cases y with
  | non=>rfl
  | tup ys=>obtain ⟨_,_,e,_⟩:=ry;cases e
  | bl _=>cases ry
  | int _=>cases ry
  | str _=>cases ry
  | _=>cases py
 | .bl a,y,v,_,py,rx,ry=>by
  cases rx
  cases y with
  | bl b=>cases ry;simp [eqP]
  | tup ys=>obtain ⟨_,_,e,_⟩:=ry;cases e
  | non=>cases ry
  | int _=>cases ry
  | str _=>cases ry
  | _=>cases py
 | .int a,y,v,_,py,rx,ry=>by
  cases rx
  cases y with
  | int b=>cases ry;simp [eqP]
  | tup ys=>obtain ⟨_,_,e,_⟩:=ry;cases e
  | non=>cases ry
  | bl _=>cases ry
  | str _=>cases ry
  | _=>cases py
 | .str a,y,v,_,py,rx,ry=>by
  cases rx
  cases y with
  | str b=>cases ry;simp [eqP]
  | tup ys=>obtain ⟨_,_,e,_⟩:=ry;cases e
  | non=>cases ry
  | bl _=>cases ry
  | int _=>cases ry
  | _=>cases py
 | .tup xs,y,v,px,py,rx,ry=>by
  obtain ⟨a,vs,rfl,h1,h2⟩:=rx
  cases y with
  | tup ys =>
   obtain ⟨b,ws,e,h3,h4⟩:=ry
   cases e
   have:=I.tuple_inj h1 h3
   subst this
   exact same_Ps I xs ys px py h2 h4
  | non=>cases ry
  | bl _=>cases ry
  | int _=>cases ry
  | str _=>cases ry
  | _=>cases py
 | .ty _,_,_,px,_,_,_=>by cases px
 | .frl _,_,_,px,_,_,_=>by cases px
 | .ref _,_,_,px,_,_,_=>by cases px
 | .fn _,_,_,px,_,_,_=>by cases px
 | .kd _ _,_,_,px,_,_,_=>by cases px
 | .exo _ _ _,_,_,px,_,_,_=>by cases px
theorem same_Ps (I:Inv X pins U H s):∀(xs ys:List PV) {vs:List V},plains xs=true->plains ys=true->Rs X.K mg ρ H xs vs->Rs X.K mg ρ H ys vs->eqPs xs ys=true
 | [],ys,vs,_,py,rx,ry=>by
  cases rx
  cases ys with
  | nil=>rfl
  | cons y ys=>obtain ⟨_,_,e,_⟩:=ry;cases e
 | x::xs,ys,vs,px,py,rx,ry=>by
  obtain ⟨v,r,rfl,h1,h2⟩:=rx
  cases ys with
  | nil=>cases ry
  | cons y ys =>
   obtain ⟨v',r',e,h3,h4⟩:=ry
   cases e
   simp only [plains,Bool.and_eq_true] at px py
   simp only [eqPs,Bool.and_eq_true]
   exact ⟨zcc I x y px.1 py.1 h1 h3,same_Ps I xs ys px.2 py.2 h2 h4⟩
end
def eqJp (xs ys:List PV) (j:Nat):Bool:=match xs[j]?,ys[j]? with
 | some x,some y=>eqP x y
 | _,_=>true
theorem zgD:∀(xs ys:List PV),((List.range (min xs.length ys.length)).all (eqJp xs ys)&&xs.length==ys.length)=eqPs xs ys
 | [],[]=>rfl
 | [],y::ys=>by simp [eqPs]
 | x::xs,[]=>by simp [eqPs]
 | x::xs,y::ys=>by
  have ih:=zgD xs ys
  have e1:min (x::xs).length (y::ys).length=min xs.length ys.length+1:=by simp only [List.length_cons];omega
  have e2:((x::xs).length==(y::ys).length)=(xs.length==ys.length):=by
   rw [Bool.eq_iff_iff];simp
  rw [e1,e2,List.range_succ_eq_map,List.all_cons,List.all_map]
  have e3:(eqJp (x::xs) (y::ys)∘Nat.succ)=eqJp xs ys:=by
   funext j
   simp [eqJp]
  rw [e3,Bool.and_assoc,ih]
  simp [eqPs,eqJp]
theorem zdK:∀{xs:List PV}{i:Nat}{x:PV},xs[i]?=some x->dep x<=deps xs
 | [],_,_,e=>by simp at e
 | y::xs,0,x,e=>by simp at e;subst e;simp only [deps];omega
 | y::xs,i+1,x,e=>by
  simp at e
  have:=zdK e
  simp only [deps];omega
theorem zcd:∀{xs:List PV}{i:Nat}{x:PV},plains xs=true->xs[i]?=some x->plain x=true
 | [],_,_,_,e=>by simp at e
 | y::xs,0,x,p,e=>by simp at e;subst e;simp only [plains,Bool.and_eq_true] at p;exact p.1
 | y::xs,i+1,x,p,e=>by
  simp at e
  simp only [plains,Bool.and_eq_true] at p
  exact zcd p.2 e
theorem wW (A:Around):A.in1.units=A.units+1:=rfl
theorem zce (I:Inv X pins U H s):∀(n:Nat) (x y:PV) {v w:V}{u u':Value}(A:Around),dep x<=n->plain x=true->plain y=true->R X.K mg ρ H x v->R X.K mg ρ H y w->RelV v u->RelV w u'->A.units+n<cLine ->
  SeqAt.EqAt A s u u' (eqP x y)/\SeqAt.RcAt A s u u' (eqP x y)/\SeqAt.RcNeAt A s u u' (!eqP x y):=by
 intro n
 induction n with
 | zero =>
  intro x y v w u u' A hd px py rx ry rv rw hu
  cases x with
  | tup xs=>simp only [dep] at hd;omega
  | non =>
   cases rx;cases rv
   cases y with
   | non=>cases ry;cases rw;exact ⟨.same _,.none_none,.none_none⟩
   | bl b=>cases ry;cases rw;exact ⟨.none_bool b,.none_bool b,.none_bool b⟩
   | int b=>cases ry;obtain ⟨t,rfl⟩:=rw;exact ⟨.none_int b t,.none_int b t,.none_int b t⟩
   | str b=>cases ry;obtain ⟨t,rfl⟩:=rw;exact ⟨.none_str b t,.none_str b t,.none_str b t⟩
   | tup ys =>
    obtain ⟨p,ws,rfl,h1,h2⟩:=ry
    cases rw
    obtain ⟨its,_,pl,_⟩:=I.tuple h1
    exact ⟨.none_tuple pl (by omega),.none_tuple pl (by omega),.none_tuple pl (by omega)⟩
   | _=>cases py
  | bl a =>
   cases rx;cases rv
   cases y with
   | non=>cases ry;cases rw;exact ⟨.bool_none a,.bool_none a,.bool_none a⟩
   | bl b=>cases ry;cases rw;exact ⟨.bool_bool a b,.bool_bool a b,.bool_bool a b⟩
   | int b=>cases ry;obtain ⟨t,rfl⟩:=rw;exact ⟨.bool_int a b t,.bool_int a b t,.bool_int a b t⟩
   | str b=>cases ry;obtain ⟨t,rfl⟩:=rw;exact ⟨.bool_str a b t,.bool_str a b t,.bool_str a b t⟩
   | tup ys =>
    obtain ⟨p,ws,rfl,h1,h2⟩:=ry
    cases rw
    obtain ⟨its,_,pl,_⟩:=I.tuple h1
    exact ⟨.bool_tuple a pl (by omega),.bool_tuple a pl (by omega),.bool_tuple a pl (by omega)⟩
   | _=>cases py
  | int a =>
   cases rx;obtain ⟨t0,rfl⟩:=rv
   cases y with
   | non=>cases ry;cases rw;exact ⟨.int_none a t0,.int_none a t0,.int_none a t0⟩
   | bl b=>cases ry;cases rw;exact ⟨.int_bool a t0 b,.int_bool a t0 b,.int_bool a t0 b⟩
   | int b=>cases ry;obtain ⟨t,rfl⟩:=rw;exact ⟨.int_int a t0 b t,.int_int a t0 b t,.int_int a t0 b t⟩
   | str b=>cases ry;obtain ⟨t,rfl⟩:=rw;exact ⟨.int_str a t0 b t,.int_str a t0 b t,.int_str a t0 b t⟩
   | tup ys =>
    obtain ⟨p,ws,rfl,h1,h2⟩:=ry
    cases rw
    obtain ⟨its,_,pl,_⟩:=I.tuple h1
    exact ⟨.int_tuple a t0 pl (by omega),.int_tuple a t0 pl (by omega),.int_tuple a t0 pl (by omega)⟩
   | _=>cases py
  | str a =>
   cases rx;obtain ⟨t0,rfl⟩:=rv
   cases y with
   | non=>cases ry;cases rw;exact ⟨.str_none a t0,.str_none a t0,.str_none a t0⟩
   | bl b=>cases ry;cases rw;exact ⟨.str_bool a t0 b,.str_bool a t0 b,.str_bool a t0 b⟩
   | int b=>cases ry;obtain ⟨t,rfl⟩:=rw;exact ⟨.str_int a t0 b t,.str_int a t0 b t,.str_int a t0 b t⟩
   | str b=>cases ry;obtain ⟨t,rfl⟩:=rw;exact ⟨.str_str a t0 b t,.str_str a t0 b t,.str_str a t0 b t⟩
   | tup ys =>
    obtain ⟨p,ws,rfl,h1,h2⟩:=ry
    cases rw
    obtain ⟨its,_,pl,_⟩:=I.tuple h1
    exact ⟨.str_tuple a t0 pl (by omega),.str_tuple a t0 pl (by omega),.str_tuple a t0 pl (by omega)⟩
   | _=>cases py
  | _=>cases px
 | succ n ih =>
  intro x y v w u u' A hd px py rx ry rv rw hu
  cases x with
  | tup xs =>
   obtain ⟨a,vs,rfl,h1,h2⟩:=id rx
   cases rv
   obtain ⟨its,r1,p1,_⟩:=I.tuple h1
   cases y with
   | non=>cases ry;cases rw;exact ⟨.tuple_none p1 (by omega),.tuple_none p1 (by omega),.tuple_none p1 (by omega)⟩
   | bl b=>cases ry;cases rw;exact ⟨.tuple_bool b p1 (by omega),.tuple_bool b p1 (by omega),.tuple_bool b p1 (by omega)⟩
   | int b=>cases ry;obtain ⟨t,rfl⟩:=rw;exact ⟨.tuple_int b t p1 (by omega),.tuple_int b t p1 (by omega),.tuple_int b t p1 (by omega)⟩
   | str b=>cases ry;obtain ⟨t,rfl⟩:=rw;exact ⟨.tuple_str b t p1 (by omega),.tuple_str b t p1 (by omega),.tuple_str b t p1 (by omega)⟩
   | tup ys =>
    obtain ⟨b,ws,rfl,h3,h4⟩:=id ry
    cases rw
    obtain ⟨its2,r2,p2,_⟩:=I.tuple h3
    have l1:=h2.len
    have l2:=h4.len
    have l3:=r1.length
    have l4:=r2.length
    have item:∀j (g1:j<its.toArray.size) (g2:j<its2.toArray.size),SeqAt.EqAt A.in1 s its.toArray[j] its2.toArray[j] (eqJp xs ys j):=fun j g1 g2=>by
     have k1:j<xs.length:=by rw [l1,l3];simpa using g1
     have k2:j<ys.length:=by rw [l2,l4];simpa using g2
     obtain ⟨v1,e1,rr1⟩:=h2.get (List.getElem?_eq_getElem k1)
     obtain ⟨v2,e2,rr2⟩:=h4.get (List.getElem?_eq_getElem k2)
     obtain ⟨u1,f1,ru1⟩:=r1.get e1
     obtain ⟨u2,f2,ru2⟩:=r2.get e2
     have w1:its.toArray[j]=u1:=by
      obtain ⟨_,z⟩:=List.getElem?_eq_some_iff.mp f1
      simpa using z
     have w2:its2.toArray[j]=u2:=by
      obtain ⟨_,z⟩:=List.getElem?_eq_some_iff.mp f2
      simpa using z
     have ej:eqJp xs ys j=eqP xs[j] ys[j]:=by
      unfold eqJp
      rw [List.getElem?_eq_getElem k1,List.getElem?_eq_getElem k2]
     rw [w1,w2,ej]
     have hdj:=zdK (List.getElem?_eq_getElem k1)
     simp only [dep] at hd
     exact (ih xs[j] ys[j] A.in1 (by omega) (zcd px (List.getElem?_eq_getElem k1)) (zcd py (List.getElem?_eq_getElem k2)) rr1 rr2 ru1 ru2 (by rw [wW];omega)).1
    have eall:((List.range (min its.toArray.size its2.toArray.size)).all (eqJp xs ys)&&its.toArray.size==its2.toArray.size)=eqP (.tup xs) (.tup ys):=by
     have e:=zgD xs ys
     rw [l1,l2,l3,l4] at e
     simpa [eqP] using e
    have rc:SeqAt.RcAt A s (.ref a) (.ref b) (eqP (.tup xs) (.tup ys)):=by
     rw [<-eall]
     exact SeqAt.RcAt.tuples (show s.heap.IsTuple a its.toArray from p1) (show s.heap.IsTuple b its2.toArray from p2) (by omega) item
    refine ⟨?_,rc,?_⟩
    ·by_cases hab:a=b
     ·subst hab
      rw [zcc I (.tup xs) (.tup ys) px py rx ry]
      exact .same _
     ·exact .of_refs hab rc
    ·rw [<-eall]
     exact SeqAt.RcNeAt.tuples (show s.heap.IsTuple a its.toArray from p1) (show s.heap.IsTuple b its2.toArray from p2) (by omega) item
   | _=>cases py
  | non=>exact ih _ y A (Nat.zero_le _) px py rx ry rv rw (by omega)
  | bl a=>exact ih _ y A (Nat.zero_le _) px py rx ry rv rw (by omega)
  | int a=>exact ih _ y A (Nat.zero_le _) px py rx ry rv rw (by omega)
  | str a=>exact ih _ y A (Nat.zero_le _) px py rx ry rv rw (by omega)
  | _=>cases px
def yh:PV->PV->Mo PV:=fun x y st=>if plain x=true/\plain y=true/\dep x<=150 then .ok (.bl (eqP x y)) st else .stuck
def yV:PV->PV->Mo PV:=fun x y st=>if plain x=true/\plain y=true/\dep x<=150 then .ok (.bl (!eqP x y)) st else .stuck
def zgE (K:Frag) (mg:Str->Option Value) (f:Bool->Bool):R2:=fun v w H Q=>∃ρ x y,plain x=true/\plain y=true/\dep x<=150/\R K mg ρ H x v/\R K mg ρ H y w/\Q (.bl (f (eqP x y))) H
theorem znp (hu:X.A.units+200<cLine):OpR X (compareOp .Eq) (zgE X.K X.mg id):=by
 intro pins s U H x y v u Q I rx ry h
 obtain ⟨ρ,a,b,pa,pb,hd,ra,rb,q⟩:=h
 exact PySem.EqBoolInt.of_rc (zce I 150 a b X.A hd pa pb ra rb rx ry (by omega)).2.1 ⟨.bl _,H,I,rfl,q⟩
theorem znq (hu:X.A.units+200<cLine):OpR X (compareOp .NotEq) (zgE X.K X.mg not):=by
 intro pins s U H x y v u Q I rx ry h
 obtain ⟨ρ,a,b,pa,pb,hd,ra,rb,q⟩:=h
 exact PySem.EqBoolInt.of_rcne (zce I 150 a b X.A hd pa pb ra rb rx ry (by omega)).2.2 ⟨.bl _,H,I,rfl,q⟩
theorem yH (hu:X.A.units+200<cLine):CmpOk X .Eq yh:=⟨_,znp hu,fun ρ H st x y v w Q E s rx ry h=>by
 obtain ⟨⟨p1,p2,p3⟩,h⟩:=Out.ifp h
 exact ⟨ρ,x,y,p1,p2,p3,rx,ry,h.now s _ rfl⟩⟩
theorem wX (hu:X.A.units+200<cLine):CmpOk X .NotEq yV:=⟨_,znq hu,fun ρ H st x y v w Q E s rx ry h=>by
 obtain ⟨⟨p1,p2,p3⟩,h⟩:=Out.ifp h
 exact ⟨ρ,x,y,p1,p2,p3,rx,ry,h.now s _ rfl⟩⟩
end
section
variable {X:Cx}{Er:XK}{K:Frag}{mg:Str->Option Value}{a b c e:Expr}{es:List Expr}{pos:Pos}{fa fb fc:zd->Mo PV}{fs:zd->Mo (List PV)}
def tMO (K:Frag) (mg:Str->Option Value) (Er:XK) (f:zd->Mo (Option Int)):TO:=fun U H Q=>∃env st ρ,EnvR K mg ρ H env U/\StR K mg ρ H st/\Out K mg ρ H (f env st) (fun _ H' o _=>Q o H') Er
def MO (X:Cx) (Er:XK) (e:Option Expr) (f:zd->Mo (Option Int)):Prop:=PO X e (tMO X.K X.mg Er f)
def pNone:zd->Mo (Option Int):=fun _ st=>.ok none st
def asI:PV->Mo (Option Int)
 | .int i,st=>.ok (some i) st
 | _,_=>.stuck
def pSome (f:zd->Mo PV):zd->Mo (Option Int):=fun env st=>(f env st).bind asI
theorem PO.weak {o:Option Expr}{t t':TO}(h:PO X o t) (w:∀U H Q,t' U H Q->t U H Q):PO X o t':=fun pins s U H Q I q=>h pins s U H Q I (w U H Q q)
theorem yI:MO X Er none pNone:=PO.weak zlx fun U H Q ⟨env,st,ρ,re,rs,h⟩=>h.now rs
theorem yJ (h:ME X Er e fa):MO X Er (some e) (pSome fa):=PO.weak (zly h) fun U H Q ⟨env,st,ρ,re,rs,h⟩=>⟨env,st,ρ,re,rs,h.then fun ag H1 x st1 e1 s1 h1 v rv=>by
 cases x with
 | int i=>cases rv;exact ⟨i,rfl,Out.now (x:=some i) h1 s1⟩
 | _=>exact False.elim h1⟩
def cutP (xs:List PV) (lo hi:Option Int):List PV:=(xs.drop (HT.sIx xs.length 0 lo)).take (HT.sIx xs.length xs.length hi-HT.sIx xs.length 0 lo)
def y4:PV->Option Int->Option Int->Mo PV
 | .tup xs,lo,hi,st=>.ok (.tup (cutP xs lo hi)) st
 | .frl xs,lo,hi,st=>.ok (.ref st.length) (st++[.lst (cutP xs lo hi)])
 | .ref n,lo,hi,st=>ye st n fun xs=>.ok (.ref st.length) (st++[.lst (cutP xs lo hi)])
 | .str z,lo,hi,st=>if z.length<=lim then .ok (.str (Txt.slice z lo hi)) st else .stuck
 | _,_,_,_=>.stuck
theorem Rs.cut {ρ:List Addr}{H:Hp}{xs:List PV}{vs:List V}(r:Rs K mg ρ H xs vs) (lo hi:Option Int):Rs K mg ρ H (cutP xs lo hi) (cutV vs lo hi):=by
 unfold cutP cutV
 rw [r.len]
 exact (r.drop _).take _
def zns (K:Frag):V->Option Int->Option Int->Hp->VK->Prop:=fun x lo hi H Q=>∃a xs,x=.ref a/\SqT K H a xs/\(HT.sIx xs.length 0 lo=0/\HT.sIx xs.length xs.length hi=xs.length)/\Q (.ref a) H
theorem znt:SlR X (zns X.K):=by
 intro pins s U H x v vl vu lo hi sl Q I rx hs pl pu h
 obtain ⟨a,xs,rfl,hx,hw,q⟩:=h
 cases rx
 obtain ⟨its,r,ht,hz⟩:=I.tuple hx
 have hlen:its.toArray.size=xs.length:=by rw [List.size_toArray];exact r.length.symm
 refine ⟨"tuple", _,PyProof.Rows.slot_tuple_getitem.lookup,ht.typeIs,?_⟩
 exact HT.getItem_tuple_all ht hs pl pu (by rw [hlen];exact hw) ⟨.ref a,H,I,rfl,q⟩ (by rw [hlen];exact hz)
def yo (fa:zd->Mo PV) (fl fu:zd->Mo (Option Int)):zd->Mo PV:=fun env st=>(fa env st).bind fun x st1=>(fl env st1).bind fun l st2=>(fu env st2).bind fun u st3=>y4 x l u st3
theorem yK {lo hi:Option Expr}{fl fu:zd->Mo (Option Int)}{p2:Pos}(ha:ME X Er a fa) (hl:MO X Er lo fl) (hu:MO X Er hi fu):ME X Er (.Subscript a (.Slice lo hi none p2) pos) (yo fa fl fu) :=
 PE.weak (zlA (zlC.or (znt.or (zlN.or zl9))) ha hl hu) fun U H Q ⟨env,st,ρ,re,rs,h⟩=>⟨env,st,ρ,re,rs,h.then fun ag H1 x st1 e1 s1 h1 v rv=>⟨env,st1,ag,re.ext e1,s1,h1.then fun ar H2 l st2 e2 s2 h2 =>
  ⟨env,st2,ar,(re.ext e1).ext e2,s2,h2.then fun aq H3 u st3 e3 s3 h3=>by
  have rv:=R.ext e3 x (R.ext e2 x rv)
  cases x with
  | tup xs =>
   obtain ⟨p,vs,rfl,k1,k2⟩:=rv
   by_cases hw:HT.sIx vs.length 0 l=0/\HT.sIx vs.length vs.length u=vs.length
   ·refine .inr (.inl ⟨p,vs,rfl,k1,hw,Out.now (x:=PV.tup (cutP xs l u)) h3 s3 _ ⟨p,vs,rfl,k1,?_⟩⟩)
    have:cutP xs l u=xs:=by
     unfold cutP
     rw [k2.len,hw.1,hw.2]
     simp [<-k2.len]
    rw [this];exact k2
   ·exact .inl ⟨p,vs,rfl,k1,hw,fun q hq=>h3 aq _ (Ext.new hq) (s3.new hq) _ (R.tup_of (k2.cut l u) hq)⟩
  | frl xs =>
   obtain ⟨p,vs,rfl,k1,k2⟩:=rv
   exact .inr (.inr (.inl ⟨p,vs,rfl,k1.sq,fun q hq=>Out.newList (xs:=cutP xs l u) h3 s3 (k2.cut l u) hq⟩))
  | ref n =>
   obtain ⟨p,rfl,hp⟩:=rv
   obtain ⟨xs,k0,h3⟩:=jf h3
   obtain ⟨vs,k1,k2⟩:=s3.addr k0 hp
   exact .inr (.inr (.inl ⟨p,vs,rfl,SqL.of k1,fun q hq=>Out.newList (xs:=cutP xs l u) h3 s3 (k2.cut l u) hq⟩))
  | str z =>
   cases rv
   obtain ⟨k0,h3⟩:=Out.ifp h3
   exact .inr (.inr (.inr ⟨z,rfl,yQ k0,h3.now s3 _ rfl⟩))
  | _=>exact False.elim h3⟩⟩⟩
def CallM (K:Frag) (mg:Str->Option Value) (r:List V->Hp->VK->Prop) (op:List PV->Mo PV):Prop:=∀ρ H st xs vs (Q:VK) (E:XK),StR K mg ρ H st->Rs K mg ρ H xs vs->Out K mg ρ H (op xs st) (gV K mg Q) E->r vs H Q
def BltOk (X:Cx) (f:Value) (op:List PV->Mo PV):Prop:=∃r,CallR X f r/\CallM X.K X.mg r op
def zl (op:List PV->Mo PV) (fs:zd->Mo (List PV)):zd->Mo PV:=fun env st=>(fs env st).bind op
theorem zX {x:Str} {id:String} {op:List PV->Mo PV} {p:Pos} (h:BltOk X (.builtin id) op) (hm:X.mg x=none) (hv:bootBuiltins x=some (.builtin id)) (ha:MA X Er (e::es) fs) (hg:Gl X x:=by rfl) (hn:x ≠ "__name__" := by decide) (hdb:(x==("__debug__" : Str))=false:=by decide)
  (he:starEach (e::es) X.env=(false,eval e X.env)::starEach es X.env:=by rfl) (hpl:(backTo pos (starEach es X.env)).any (·.1)=false:=by rfl):ME X Er (.Call (.Name x p) (e::es) [] pos) (zl op fs):=by
 obtain ⟨r,h1,h2⟩:=h
 exact PE.weak (zlp h1 hg hm hv ha hn hdb he hpl) fun U H Q ⟨env,st,ρ,re,rs,h⟩=>⟨env,st,ρ,re,rs,h.then fun ag H1 xs st1 e1 s1 k vs rv=>h2 ag H1 st1 xs vs Q Er s1 rv k⟩
theorem jZ {x:Str} {T:String} {op:List PV->Mo PV} {p:Pos} (h:BltOk X (.type T) op) (hm:X.mg x=none) (hv:bootBuiltins x=some (.type T)) (ha:MA X Er (e::es) fs) (hg:Gl X x:=by rfl) (hn:x ≠ "__name__" := by decide) (hdb:(x==("__debug__" : Str))=false:=by decide)
  (he:starEach (e::es) X.env=(false,eval e X.env)::starEach es X.env:=by rfl) (hpl:(backTo pos (starEach es X.env)).any (·.1)=false:=by rfl):ME X Er (.Call (.Name x p) (e::es) [] pos) (zl op fs):=by
 obtain ⟨r,h1,h2⟩:=h
 exact PE.weak (zlq h1 hg hm hv ha hn hdb he hpl) fun U H Q ⟨env,st,ρ,re,rs,h⟩=>⟨env,st,ρ,re,rs,h.then fun ag H1 xs st1 e1 s1 k vs rv=>h2 ag H1 st1 xs vs Q Er s1 rv k⟩
theorem jB {x:Str} {n:String} (hm:X.mg x=none) (hv:bootBuiltins x=some (.type n)) (hg:Gl X x:=by rfl) (hn:x ≠ "__name__" := by decide) (hd:(x==("__debug__" : Str))=false:=by decide):ME X Er (.Name x pos) (mC (.ty n)) :=
 zam (zjW (v:=.ty n) hg hm hv rfl hn hd) fun _ _=>rfl
theorem Rs.one {ρ:List Addr}{H:Hp}{x:PV}{vs:List V}(r:Rs K mg ρ H [x] vs):∃v,vs=[v]/\R K mg ρ H x v:=by
 obtain ⟨v,r',rfl,h,h'⟩:=r
 cases h'
 exact ⟨v,rfl,h⟩
theorem Rs.two {ρ:List Addr}{H:Hp}{x y:PV}{vs:List V}(r:Rs K mg ρ H [x,y] vs):∃v w,vs=[v,w]/\R K mg ρ H x v/\R K mg ρ H y w:=by
 obtain ⟨v,r',rfl,h,h'⟩:=r
 obtain ⟨w,rfl,h2⟩:=Rs.one h'
 exact ⟨v,w,rfl,h,h2⟩
def wY:List PV->Mo PV
 | [.tup xs],st=>.ok (.int xs.length) st
 | [.frl xs],st=>.ok (.int xs.length) st
 | [.str z],st=>if z.length<=lim then .ok (.int z.length) st else .stuck
 | [.ref n],st=>ye st n fun xs=>.ok (.int xs.length) st
 | _,_=>.stuck
theorem znu:BltOk X (.builtin "len") wY:=⟨_,zk0,fun ρ H st xs vs Q E s r h=>by
 match xs,r,h with
 | [.tup ys],r,h =>
  obtain ⟨v,rfl,p,ws,rfl,h1,h2⟩:=Rs.one r
  exact ⟨_,ws.length,rfl,.inr ⟨ws,h1,rfl⟩,by rw [<-h2.len];exact Out.now (x:=PV.int ys.length) h s _ rfl⟩
 | [.frl ys],r,h =>
  obtain ⟨v,rfl,p,ws,rfl,h1,h2⟩:=Rs.one r
  exact ⟨_,ws.length,rfl,.inl ⟨ws,h1.sq,rfl⟩,by rw [<-h2.len];exact Out.now (x:=PV.int ys.length) h s _ rfl⟩
 | [.str z],r,h =>
  obtain ⟨v,rfl,rfl⟩:=Rs.one r
  obtain ⟨c,h⟩:=Out.ifp h
  exact ⟨_,z.length,rfl,⟨yQ c,rfl⟩,h.now s _ rfl⟩
 | [.ref n],r,h =>
  obtain ⟨v,rfl,p,rfl,hp⟩:=Rs.one r
  obtain ⟨ys,e,h⟩:=jf h
  obtain ⟨ws,h1,h2⟩:=s.addr e hp
  exact ⟨_,ws.length,rfl,.inl ⟨ws,SqL.of h1,rfl⟩,by rw [<-h2.len];exact h.now s _ rfl⟩
 | [],r,h=>exact False.elim h
 | [.non],r,h=>exact False.elim h
 | [.bl _],r,h=>exact False.elim h
 | [.int _],r,h=>exact False.elim h
 | [.ty _],r,h=>exact False.elim h
 | [.fn _],r,h=>exact False.elim h
 | [.kd _ _],r,h=>exact False.elim h
 | [.exo _ _ _],r,h=>exact False.elim h
 | x::y::r',r,h=>cases x<;>exact False.elim h⟩
def zdL:List PV->Mo PV
 | [.int i],st=>.ok (.int i) st
 | [.bl k],st=>.ok (.int (if k then 1 else 0)) st
 | _,_=>.stuck
theorem znv:BltOk X (.type "int") zdL:=⟨_,zkZ,fun ρ H st xs vs Q E s r h=>by
 match xs,r,h with
 | [.int i],r,h =>
  obtain ⟨v,rfl,rfl⟩:=Rs.one r
  exact .inl ⟨i,rfl,Out.now (x:=PV.int i) h s _ rfl⟩
 | [.bl k],r,h =>
  obtain ⟨v,rfl,rfl⟩:=Rs.one r
  exact .inr ⟨k,rfl,Out.now (x:=PV.int (if k then 1 else 0)) h s _ rfl⟩
 | [],r,h=>exact False.elim h
 | [.non],r,h=>exact False.elim h
 | [.str _],r,h=>exact False.elim h
 | [.tup _],r,h=>exact False.elim h
 | [.frl _],r,h=>exact False.elim h
 | [.ref _],r,h=>exact False.elim h
 | [.ty _],r,h=>exact False.elim h
 | [.fn _],r,h=>exact False.elim h
 | [.kd _ _],r,h=>exact False.elim h
 | [.exo _ _ _],r,h=>exact False.elim h
 | x::y::r',r,h=>cases x<;>exact False.elim h⟩
def za1:List PV->Mo PV
 | [.tup xs],st=>.ok (.ref st.length) (st++[.lst xs])
 | [.frl xs],st=>.ok (.ref st.length) (st++[.lst xs])
 | [.ref n],st=>ye st n fun xs=>.ok (.ref st.length) (st++[.lst xs])
 | _,_=>.stuck
theorem znw:BltOk X (.type "list") za1:=⟨_,zlP,fun ρ H st xs vs Q E s r h=>by
 match xs,r,h with
 | [.tup ys],r,h =>
  obtain ⟨v,rfl,p,ws,rfl,h1,h2⟩:=Rs.one r
  exact ⟨p,ws,rfl,.inr h1,fun l hl=>Out.newList (xs:=ys) h s h2 hl⟩
 | [.frl ys],r,h =>
  obtain ⟨v,rfl,p,ws,rfl,h1,h2⟩:=Rs.one r
  exact ⟨p,ws,rfl,.inl h1.sq,fun l hl=>Out.newList (xs:=ys) h s h2 hl⟩
 | [.ref n],r,h =>
  obtain ⟨v,rfl,p,rfl,hp⟩:=Rs.one r
  obtain ⟨ys,e,h⟩:=jf h
  obtain ⟨ws,h1,h2⟩:=s.addr e hp
  exact ⟨p,ws,rfl,.inl (SqL.of h1),fun l hl=>Out.newList (xs:=ys) h s h2 hl⟩
 | [],r,h=>exact False.elim h
 | [.non],r,h=>exact False.elim h
 | [.bl _],r,h=>exact False.elim h
 | [.int _],r,h=>exact False.elim h
 | [.str _],r,h=>exact False.elim h
 | [.ty _],r,h=>exact False.elim h
 | [.fn _],r,h=>exact False.elim h
 | [.kd _ _],r,h=>exact False.elim h
 | [.exo _ _ _],r,h=>exact False.elim h
 | x::y::r',r,h=>cases x<;>exact False.elim h⟩
def jP:List PV->Mo PV
 | [.tup xs],st=>.ok (.tup xs) st
 | [.frl xs],st=>.ok (.tup xs) st
 | [.ref n],st=>ye st n fun xs=>.ok (.tup xs) st
 | _,_=>.stuck
theorem wZ:BltOk X (.type "tuple") jP:=⟨_,zlQ,fun ρ H st xs vs Q E s r h=>by
 match xs,r,h with
 | [.tup ys],r,h =>
  obtain ⟨v,rfl,p,ws,rfl,h1,h2⟩:=Rs.one r
  exact ⟨p,ws,rfl,.inr ⟨h1,Out.now (x:=PV.tup ys) h s _ ⟨p,ws,rfl,h1,h2⟩⟩⟩
 | [.frl ys],r,h =>
  obtain ⟨v,rfl,p,ws,rfl,h1,h2⟩:=Rs.one r
  exact ⟨p,ws,rfl,.inl ⟨h1.sq,fun l hl=>h ρ _ (Ext.new hl) (s.new hl) _ (R.tup_of h2 hl)⟩⟩
 | [.ref n],r,h =>
  obtain ⟨v,rfl,p,rfl,hp⟩:=Rs.one r
  obtain ⟨ys,e,h⟩:=jf h
  obtain ⟨ws,h1,h2⟩:=s.addr e hp
  exact ⟨p,ws,rfl,.inl ⟨SqL.of h1,fun l hl=>h ρ _ (Ext.new hl) (s.new hl) _ (R.tup_of h2 hl)⟩⟩
 | [],r,h=>exact False.elim h
 | [.non],r,h=>exact False.elim h
 | [.bl _],r,h=>exact False.elim h
 | [.int _],r,h=>exact False.elim h
 | [.str _],r,h=>exact False.elim h
 | [.ty _],r,h=>exact False.elim h
 | [.fn _],r,h=>exact False.elim h
 | [.kd _ _],r,h=>exact False.elim h
 | [.exo _ _ _],r,h=>exact False.elim h
 | x::y::r',r,h=>cases x<;>exact False.elim h⟩
def tyb (T n:String):Option Bool :=
 if T = "int" then (if n = "int" then some true else if n = "bool" \/ n = "str" \/ n = "tuple" \/ n = "dict" \/ n = "list" then some false else none)
 else if T = "bool" then (if n = "int" \/ n = "bool" then some true else if n = "str" \/ n = "tuple" \/ n = "dict" \/ n = "list" then some false else none)
 else if T = "str" then (if n = "str" then some true else if n = "int" \/ n = "bool" \/ n = "tuple" \/ n = "dict" \/ n = "list" then some false else none)
 else if T = "tuple" then (if n = "tuple" then some true else if n = "int" \/ n = "bool" \/ n = "str" \/ n = "dict" \/ n = "list" then some false else none)
 else if T = "list" then (if n = "list" then some true else if n = "int" \/ n = "bool" \/ n = "str" \/ n = "dict" \/ n = "tuple" then some false else none)
 else if T = "dict" then (if n = "dict" then some true else if n = "int" \/ n = "bool" \/ n = "str" \/ n = "list" \/ n = "tuple" then some false else none)
 else if T = "NoneType" then (if n = "int" \/ n = "bool" \/ n = "str" \/ n = "list" \/ n = "tuple" \/ n = "dict" then some false else none)
 else none
theorem znx (K:Frag) {T n:String}{b:Bool}(h:tyb T n=some b):PySem.W.kitOne K (.type T) (.type n)=some b:=by
 unfold tyb at h
 split at h
 ·rename_i e;subst e
  split at h
  ·rename_i e;subst e;cases h;first|rfl|kernel_rfl
  ·split at h
   ·rename_i e;cases h;rcases e with e|e|e|e|e<;>subst e<;>first|rfl|kernel_rfl
   ·cases h
 ·split at h
  ·rename_i e;subst e
   split at h
   ·rename_i e;cases h;rcases e with e|e<;>subst e<;>first|rfl|kernel_rfl
   ·split at h
    ·rename_i e;cases h;rcases e with e|e|e|e<;>subst e<;>first|rfl|kernel_rfl
    ·cases h
  ·split at h
   ·rename_i e;subst e
    split at h
    ·rename_i e;subst e;cases h;first|rfl|kernel_rfl
    ·split at h
     ·rename_i e;cases h;rcases e with e|e|e|e|e<;>subst e<;>first|rfl|kernel_rfl
     ·cases h
   ·split at h
    ·rename_i e;subst e
     split at h
     ·rename_i e;subst e;cases h;first|rfl|kernel_rfl
     ·split at h
      ·rename_i e;cases h;rcases e with e|e|e|e|e<;>subst e<;>first|rfl|kernel_rfl
      ·cases h
    ·split at h
     ·rename_i e;subst e
      split at h
      ·rename_i e;subst e;cases h;first|rfl|kernel_rfl
      ·split at h
       ·rename_i e;cases h;rcases e with e|e|e|e|e<;>subst e<;>first|rfl|kernel_rfl
       ·cases h
     ·split at h
      ·rename_i e;subst e
       split at h
       ·rename_i e;subst e;cases h;first|rfl|kernel_rfl
       ·split at h
        ·rename_i e;cases h;rcases e with e|e|e|e|e<;>subst e<;>first|rfl|kernel_rfl
        ·cases h
      ·split at h
       ·rename_i e;subst e
        split at h
        ·rename_i e;cases h;rcases e with e|e|e|e|e|e<;>subst e<;>first|rfl|kernel_rfl
        ·cases h
       ·cases h
end
def spM (K:Frag) (mg:Str->Option Value) (m:List PV->Mo PV):Sp:=fun vs H Q E=>∃xs st ρ,Rs K mg ρ H xs vs/\StR K mg ρ H st/\Out K mg ρ H (m xs st) (gV K mg Q) E
section
variable (P:Program) (w:World) (K:Frag) (mg:Str->Option Value) (base:Heap)
def FOk (x:Str) (k:Nat) (m:List PV->Mo PV):Prop:=∃f fd ps,mg x=some (.ref f)/\keepIn K (.ref f)=true/\Binds K fd ps []/\FnOk P w K mg base (CXe P w) k f fd ps (spM K mg m)
def MOk (c name:Str) (k:Nat) (m:List PV->Mo PV):Prop:=∃C f fd ps,mg c=some (.ref C)/\Cls K C/\Meth K C name f/\Binds K fd ps []/\FnOk P w K mg base (CXe P w) k f fd ps (spM K mg m)
def NOk (c:Str) (k:Nat) (m:List PV->Mo PV):Prop:=∃C f fd ps,mg c=some (.ref C)/\Mk K C f/\Binds K fd ps []/\FnOk P w K mg base (CXe P w) k f fd ps (spM K mg m)
def XOk (c fld:Str):Prop:=∃C f fd,mg c=some (.ref C)/\ExMk K C f/\FnOk P w K mg base (CXe P w) 1 f fd ["self", fld] (zgv C fld)/\Binds K fd ["self", fld] []
end
section
variable {X:Cx}{Er:XK}{K:Frag}{mg:Str->Option Value}{a b c e o:Expr}{es:List Expr}{pos p apos:Pos}{fa fb fc fo:zd->Mo PV}{fs:zd->Mo (List PV)}{k:Nat}{x:Str}{m:List PV->Mo PV}
theorem zH (C:FOk X.prog X.w X.K X.mg X.base x k m) (hr:Room k X.A) (ht:jM X Er) (ha:MA X Er (e::es) fs) (hg:Gl X x:=by rfl) (hdb:(x==("__debug__" : Str))=false:=by decide)
  (he:starEach (e::es) X.env=(false,eval e X.env)::starEach es X.env:=by rfl) (hpl:(backTo pos (starEach es X.env)).any (·.1)=false:=by rfl):ME X Er (.Call (.Name x p) (e::es) [] pos) (zl m fs):=by
 obtain ⟨f,fd,ps,hm,hk,hb,F⟩:=C
 exact PE.weak (zll F hr hg hm hk hb .nil (zbX ht) ha hdb he hpl) fun U H Q ⟨env,st,ρ,re,rs,h⟩=>⟨env,st,ρ,re,rs,h.then fun ag H1 xs st1 e1 s1 k vs rv=>by
  show spM X.K X.mg m (vs++[]) H1 Q Er
  rw [List.append_nil]
  exact ⟨xs,st1,ag,rv,s1,k⟩⟩
def zdM (tab:Str->Option (List PV->Mo PV)) (ff:zd->Mo PV) (fs:zd->Mo (List PV)):zd->Mo PV:=fun env st=>(ff env st).bind fun f st1=>match f with
 | .fn x=>match tab x with
  | some m=>(fs env st1).bind m
  | none=>.stuck
 | _=>.stuck
theorem zny {tab:Str->Option (List PV->Mo PV)}{ff:zd->Mo PV}(ht:∀y m,tab y=some m->FOk X.prog X.w X.K X.mg X.base y k m) (hf:ME X Er (.Name x p) ff) (hr:Room k X.A) (hT:jM X Er) (ha:MA X Er (e::es) fs)
  (he:starEach (e::es) X.env=(false,eval e X.env)::starEach es X.env:=by rfl) (hpl:(backTo pos (starEach es X.env)).any (·.1)=false:=by rfl):ME X Er (.Call (.Name x p) (e::es) [] pos) (zdM tab ff fs) :=
 PE.weak (zmH (CX:=CXe X.prog X.w) hf hr (zbX hT) ha he hpl) fun U H Q ⟨env,st,ρ,re,rs,h⟩=>⟨env,st,ρ,re,rs,h.then fun ag H1 f st1 e1 s1 h1 v rv=>by
  cases f with
  | fn y =>
   cases hy:tab y with
   | none=>simp only [hy] at h1;exact False.elim h1
   | some m =>
    simp only [hy] at h1
    obtain ⟨f,rfl,hm⟩:=rv
    obtain ⟨f',fd,ps,hm',hk,hb,F⟩:=ht y m hy
    rw [hm] at hm'
    cases hm'
    exact ⟨f,_,rfl,⟨fd,ps,F,hk,hb⟩,env,st1,ag,re.ext e1,s1,Out.then h1 fun ar H2 xs st2 e2 s2 h2 vs rvs=>⟨xs,st2,ar,rvs,s2,h2⟩⟩
  | _=>exact False.elim h1⟩
theorem wg {ρ:List Addr}{H:Hp}{f:Str}:∀{ks:List Str}{xs:List PV}{vs:List V}{x:PV},Rs K mg ρ H xs vs->(ks.zip xs).lookup f=some x->∃v,(ks.zip vs).lookup f=some v/\R K mg ρ H x v
 | [],_,_,_,_,h=>by simp at h
 | k::ks,[],_,_,_,h=>by simp at h
 | k::ks,y::xs,_,x,r,h=>by
  obtain ⟨v,r',rfl,h1,h2⟩:=r
  simp only [List.zip_cons_cons,List.lookup_cons] at h ⊢
  split at h
  ·cases h;exact ⟨v,rfl,h1⟩
  ·exact wg h2 h
theorem zcf {f:Str}{β:Type}:∀{ks:List Str}{vs:List β},f∉ks->(ks.zip vs).lookup f=none
 | [],_,_=>by simp
 | k::ks,[],_=>by simp
 | k::ks,v::vs,h=>by
  simp only [List.mem_cons,not_or] at h
  simp only [List.zip_cons_cons,List.lookup_cons]
  have:(f==k)=false:=by simpa using h.1
  rw [this]
  exact zcf h.2
def methAt (name:Str) (tab:Str->Option (List PV->Mo PV)) (o:PV) (st:Sto) (k:Nat->(List PV->Mo PV)->Res PV):Res PV:=match o with
 | .ref n=>jj st n fun c ks _=>if name∈ks then .stuck else match tab c with
  | some m=>k n m
  | none=>.stuck
 | _=>.stuck
theorem znz {name:Str}{tab:Str->Option (List PV->Mo PV)}{o:PV}{st:Sto}{kk:Nat->(List PV->Mo PV)->Res PV}{ρ:List Addr}{H:Hp}{good}(h:Out K mg ρ H (methAt name tab o st kk) good Er) :
  ∃n c ks xs m,o=.ref n/\st[n]?=some (.ins c ks xs)/\name∉ks/\tab c=some m/\Out K mg ρ H (kk n m) good Er:=by
 cases o with
 | ref n =>
  obtain ⟨c,ks,xs,e,h⟩:=zgA h
  split at h
  ·exact False.elim h
  ·rename_i hn
   cases hc:tab c with
   | none=>rw [hc] at h;exact False.elim h
   | some m=>rw [hc] at h;exact ⟨n,c,ks,xs,m,rfl,e,hn,hc,h⟩
 | _=>exact False.elim h
def newI (c:Str) (m:List PV->Mo PV) (ys:List PV):Mo PV:=fun st=>(m (.ref st.length::ys) (st++[.ins c [] []])).bind fun r st2=>if isNon r=true then .ok (.ref st.length) st2 else .stuck
theorem znA {x:PV}(h:isNon x=true):x=.non:=by cases x<;>first|rfl|cases h
theorem znB {cn:Str}{C f:Addr}{ρ:List Addr}{H:Hp}{st:Sto}{ys:List PV}{vs:List V}{Q:VK}(hC:mg cn=some (.ref C)) (s:StR K mg ρ H st) (r:Rs K mg ρ H ys vs) (h:Out K mg ρ H (newI cn m ys st) (gV K mg Q) Er) :
  ∀x dx,H x=none->H dx=none->dx≠x->spM K mg m (.ref x::vs) (upd (upd H dx (.own x)) x (.ins C dx [])) (fun v H2=>v=.non/\Q (.ref x) H2) Er:=fun x dx hx hdx ne=>by
 have hx':upd H dx (.own x) x=none:=by rw [zG (Ne.symm ne)];exact hx
 have s1:=s.new (o:=.own x) hdx
 have e1:Ext ρ H ρ (upd H dx (.own x)):=Ext.new hdx
 have e2:Ext ρ H (ρ++[x]) (upd (upd H dx (.own x)) x (.ins C dx [])):=e1.trans (Ext.push hx')
 have s2:StR K mg (ρ++[x]) (upd (upd H dx (.own x)) x (.ins C dx [])) (st++[.ins cn [] []]):=s1.push hx' ⟨C,dx,[],hC,yp,rfl,rfl⟩
 have gx:(ρ++[x])[st.length]?=some x:=by rw [<-s.len];simp
 refine ⟨.ref st.length::ys,_,ρ++[x],⟨_,_,rfl,⟨x,rfl,gx⟩,Rs.ext e2 ys r⟩,s2,Out.then (Out.ext h e2) fun aq H3 r3 st3 e3 s3 h3 v rv=>?_⟩
 obtain ⟨hn,h3⟩:=Out.ifp h3
 obtain rfl:=znA hn
 exact ⟨rv,h3.now s3 _ ⟨x,rfl,e3.get gx⟩⟩
theorem znC {cn:Str} (C:NOk X.prog X.w X.K X.mg X.base cn k m) (hr:Room (k+1) X.A) (ht:jM X Er) (ha:MA X Er (e::es) fs) (hg:Gl X cn:=by rfl) (hdb:(cn==("__debug__" : Str))=false:=by decide)
  (he:starEach (e::es) X.env=(false,eval e X.env)::starEach es X.env:=by rfl) (hpl:(backTo pos (starEach es X.env)).any (·.1)=false:=by rfl):ME X Er (.Call (.Name cn p) (e::es) [] pos) (zl (newI cn m) fs):=by
 obtain ⟨C,f,fd,ps,hm,M,hb,F⟩:=C
 exact PE.weak (zln M F hr hg hm hb .nil (zbX ht) ha hdb he hpl) fun U H Q ⟨env,st,ρ,re,rs,h⟩=>⟨env,st,ρ,re,rs,h.then fun ag H1 xs st1 e1 s1 k vs rv x dx hx hdx ne=>by
  rw [List.append_nil]
  exact znB (f:=f) hm s1 rv k x dx hx hdx ne⟩
def fldAt (f:Str) (ins exc:Str->Bool):PV->Mo PV
 | .ref n,st=>jj st n fun c ks xs=>if ins c=true then optR ((ks.zip xs).lookup f) st else .stuck
 | .exo c ks xs,st=>if exc c=true then optR ((ks.zip xs).lookup f) st else .stuck
 | _,_=>.stuck
structure FldF (K:Frag) (mg:Str->Option Value) (f:Str) (ins exc:Str->Bool):Prop where
 i:∀c,ins c=true->∃C,mg c=some (.ref C)/\Cls K C/\NoAttr K C f
 x:∀c,exc c=true->∃C,mg c=some (.ref C)/\ExGa K C/\hasDictIn K C=true/\findIn K (.ref C) f=some none
def znD (K:Frag) (ta:TE) (f:Str):TE:=fun U H Q=>ta U H fun x H1=>(∃a C dx fs v,x=.ref a/\H1 a=some (.ins C dx fs)/\Cls K C/\NoAttr K C f/\fs.lookup f=some v/\Q v H1) \/
 ∃a C d fs v,x=.ref a/\H1 a=some (exC C (some d) a)/\H1 d=some (.xd fs)/\ExGa K C/\hasDictIn K C=true/\findIn K (.ref C) f=some none/\fs.lookup f=some v/\Q v H1
theorem znE {f:Str}{ta:TE}(he:PE X e ta) (hb:attributeBase e f X.env (eval e X.env)=eval e X.env):PE X (.Attribute e f pos) (znD X.K ta f):=by
 intro pins s U H Q I h
 refine zk8 hb (thn (he pins s U H _ I h) fun u s1 ⟨x,H1,I1,rx,h1⟩=>?_)
 rcases h1 with ⟨a,C,dx,fs,v,ex,ea,c,n,l,q⟩|⟨a,C,dx,fs,v,ex,ea,ed,g,hh,no,l,q⟩
 ·subst ex
  obtain rfl:u=Value.ref a:=rx
  exact zk5 I1 ea c n l fun u' s2 I2 ru=>⟨v,H1,I2,ru,q⟩
 ·subst ex
  obtain rfl:u=Value.ref a:=rx
  exact zmN I1 ea ed g hh no l fun u' s2 I2 ru=>⟨v,H1,I2,ru,q⟩
theorem zdN {f:Str}{ins exc:Str->Bool}(F:FldF X.K X.mg f ins exc) (he:ME X Er e fa) (hb:attributeBase e f X.env (eval e X.env)=eval e X.env:=by rfl):ME X Er (.Attribute e f pos) (jc (fldAt f ins exc) fa) :=
 PE.weak (znE he hb) fun U H Q ⟨env,st,ρ,re,rs,h⟩=>⟨env,st,ρ,re,rs,h.then fun ag H1 x st1 e1 s1 h1 v rv=>by
  cases x with
  | ref n =>
   obtain ⟨c,ks,xs,hn,h1⟩:=zgA h1
   obtain ⟨hc,h1⟩:=Out.ifp h1
   obtain ⟨y,hy,h1⟩:=wf h1
   obtain ⟨p,rfl,hp⟩:=rv
   obtain ⟨C',dx,vs,hC',hH,hR,hl⟩:=s1.addr hn hp
   obtain ⟨C,hC,cl,na⟩:=F.i c hc
   rw [hC] at hC'
   cases hC'
   obtain ⟨v,hv,rv⟩:=wg hR hy
   exact .inl ⟨p,_,dx,_,v,rfl,hH,cl,na,hv,h1.now s1 _ rv⟩
  | exo c ks xs =>
   obtain ⟨hc,h1⟩:=Out.ifp h1
   obtain ⟨y,hy,h1⟩:=wf h1
   obtain ⟨a,C',d,vs,rfl,hC',hH,hd,hR,hl⟩:=rv
   obtain ⟨C,hC,g,hh,no⟩:=F.x c hc
   rw [hC] at hC'
   cases hC'
   obtain ⟨v,hv,rv⟩:=wg hR hy
   exact .inr ⟨a,_,d,_,v,rfl,hH,hd,g,hh,no,hv,h1.now s1 _ rv⟩
  | _=>exact False.elim h1⟩
def soCls:Option SO->Option (String ⊕ (Bool×Str))
 | some (.lst _)=>some (.inl "list")
 | some (.dic _ _)=>some (.inl "dict")
 | some (.ins c _ _)=>some (.inr (false,c))
 | some (.fdi _ _)=>none
 | none=>none
def clsP (st:Sto):PV->Option (String ⊕ (Bool×Str))
 | .non=>some (.inl "NoneType")
 | .bl _=>some (.inl "bool")
 | .int _=>some (.inl "int")
 | .str _=>some (.inl "str")
 | .tup _=>some (.inl "tuple")
 | .ref n=>soCls st[n]?
 | .exo c _ _=>some (.inr (true,c))
 | _=>none
def optB (o:Option Bool):Mo PV:=fun st=>match o with
 | some b=>.ok (.bl b) st
 | none=>.stuck
theorem zcg {ρ:List Addr}{H:Hp}{o:Option Bool}{st:Sto}{good}(h:Out K mg ρ H (optB o st) good Er):∃b,o=some b/\Out K mg ρ H (.ok (.bl b) st) good Er:=by
 cases o with
 | some x=>exact ⟨x,rfl,h⟩
 | none=>exact False.elim h
structure IsT where
 isx:Str->Bool
 sub:Str->Str->Option Bool
 subT:Str->String->Option Bool
 tyC:String->Str->Option Bool
def isiA (t:IsT) (st:Sto):PV->Option (String ⊕ (Bool×Str))->Mo PV
 | .ty n,some (.inl T),st=>optB (tyb T n) st
 | .ty n,some (.inr (f,c)),st=>if t.isx c=f then optB (t.subT c n) st else .stuck
 | .fn B,some (.inl T),st=>optB (t.tyC T B) st
 | .fn B,some (.inr (f,c)),st=>if t.isx c=f then optB (t.sub c B) st else .stuck
 | _,_,_=>.stuck
def yA (t:IsT):List PV->Mo PV
 | [x,y],st=>isiA t st y (clsP st x) st
 | _,_=>.stuck
structure InIs (K:Frag) (C:Addr):Prop where
 cl:Cls K C
 ha:findIn K (.ref C) "__class__" = some (some (.builtin "object.__class__"))
 hn:specialIn K (.builtin "object.__class__") "__get__" = some (some (.builtin "getset_descriptor.__get__"))
 tk:takesIn K (.builtin "object.__class__")=some true
 hm:mroIn K C (.type "object")=some true
structure IsF (K:Frag) (mg:Str->Option Value) (t:IsT):Prop where
 s:∀c B b,t.sub c B=some b->∃C D,mg c=some (.ref C)/\mg B=some (.ref D)/\kitOne K (.ref C) (.ref D)=some b
 tt:∀c n b,t.subT c n=some b->∃C,mg c=some (.ref C)/\kitOne K (.ref C) (.type n)=some b
 u:∀T B b,t.tyC T B=some b->∃D,mg B=some (.ref D)/\kitOne K (.type T) (.ref D)=some b
 x:∀c C,t.isx c=true->mg c=some (.ref C)->((∃B b,t.sub c B=some b)\/∃n b,t.subT c n=some b)->ExIs K C
 i:∀c C,t.isx c=false->mg c=some (.ref C)->((∃B b,t.sub c B=some b)\/∃n b,t.subT c n=some b)->InIs K C
inductive TyA (K:Frag) (H:Hp):V->Value->Prop where
 | of {v:V} {t:Value} (h:TyOf K H v t):TyA K H v t
 | tup {a:Addr} {vs:List V} (h:SqT K H a vs):TyA K H (.ref a) (.type "tuple")
 | exc {a C d:Addr} {fs:List (Str×V)} (ha:H a=some (exC C (some d) a)) (hd:H d=some (.xd fs)) (k:ExIs K C):TyA K H (.ref a) (.ref C)
theorem znF {pins:List (Addr×Obj)}{U:L2.St}{H:Hp}{s:Shared}{v:V}{u t c:Value}{b:Bool}{Q:Value->Shared->Prop}{A:Around}{E:Value->Shared->Prop}(I:Inv X pins U H s) (r:RelV v u) (ty:TyA X.K H v t) (e:kitOne X.K t c=some b) (h:∀tk,Q (.bool b) { s with toks:=tk }) :
  wpAny (model X.prog X.w) A (call (.builtin "isinstance") [u,c]) Q E s:=by
 cases ty with
 | of ty=>exact zla I r ty e h
 | @tup a vs hq =>
  obtain rfl:u=Value.ref a:=r
  obtain ⟨its,_,p,_⟩:=I.tuple hq
  obtain ⟨o,h1,h2,_⟩:=p
  exact PySem.W.kia_one PySem.W.kitx_tuple I.kIn ⟨o,h1,h2⟩ e (fun z=>nomatch z) h
 | @exc a C d fs ha hd k =>
  obtain rfl:u=Value.ref a:=r
  exact zmO I ha hd k e h
theorem znG:CallR X (.builtin "isinstance") (fun xs H Q=>∃v w t c b,xs=[v,w]/\TyA X.K H v t/\RelV w c/\(∀c',RelV w c'->c'=c)/\kitOne X.K t c=some b/\Q (.bl b) H):=by
 intro pins s U H xs us Q I r h
 obtain ⟨v,w,t,c,b,rfl,ty,rw,un,e,q⟩:=h
 obtain ⟨u,w',rfl,ru,rw'⟩:=zbQ r
 obtain rfl:=un w' rw'
 exact znF I ru ty e fun tk=>⟨.bl b,H,I.tok _,rfl,q⟩
theorem zgF {ρ:List Addr}{H:Hp}{st:Sto}{x:PV}{v:V}{T:String}(s:StR K mg ρ H st) (r:R K mg ρ H x v) (h:clsP st x=some (.inl T)):TyA K H v (.type T):=by
 cases x with
 | non=>cases h;cases r;exact .of .non
 | bl b=>cases h;cases r;exact .of (.bl b)
 | int i=>cases h;cases r;exact .of (.int i)
 | str z=>cases h;cases r;exact .of (.str z)
 | tup xs=>cases h;obtain ⟨a,vs,rfl,h1,_⟩:=r;exact .tup h1
 | frl xs=>cases h
 | ref n =>
  obtain ⟨a,rfl,ha⟩:=r
  have h:soCls st[n]?=some (.inl T):=h
  cases e:st[n]? with
  | none=>rw [e] at h;cases h
  | some so =>
   rw [e] at h
   cases so with
   | lst xs=>cases h;obtain ⟨vs,h1,_⟩:=s.addr e ha;exact .of (.lst h1)
   | dic ks xs=>cases h;obtain ⟨vs,h1,_⟩:=s.addr e ha;exact .of (.dK h1)
   | ins c ks xs=>cases h
   | fdi ks xs=>cases h
 | ty _=>cases h
 | fn _=>cases h
 | kd _ _=>cases h
 | exo _ _ _=>cases h
theorem zgG {ρ:List Addr}{H:Hp}{st:Sto}{x:PV}{v:V}{f:Bool}{c:Str}(hx:∀C,f=true->mg c=some (.ref C)->ExIs K C) (hi:∀C,f=false->mg c=some (.ref C)->InIs K C) (s:StR K mg ρ H st) (r:R K mg ρ H x v) (h:clsP st x=some (.inr (f,c))):∃C,mg c=some (.ref C)/\TyA K H v (.ref C):=by
 cases x with
 | ref n =>
  obtain ⟨a,rfl,ha⟩:=r
  have h:soCls st[n]?=some (.inr (f,c)):=h
  cases e:st[n]? with
  | none=>rw [e] at h;cases h
  | some so =>
   rw [e] at h
   cases so with
   | lst xs=>cases h
   | dic ks xs=>cases h
   | fdi ks xs=>cases h
   | ins c' ks xs =>
    cases h
    obtain ⟨C,dx,vs,hC,hH,_⟩:=s.addr e ha
    have q:=hi C rfl hC
    exact ⟨C,hC,.of (.ins hH q.cl q.ha q.hn q.tk q.hm)⟩
 | exo c' ks xs =>
  cases h
  obtain ⟨a,C,d,vs,rfl,hC,hH,hd,_⟩:=r
  exact ⟨C,hC,.exc hH hd (hx C rfl hC)⟩
 | non=>cases h
 | bl _=>cases h
 | int _=>cases h
 | str _=>cases h
 | tup _=>cases h
 | frl _=>cases h
 | ty _=>cases h
 | fn _=>cases h
 | kd _ _=>cases h
theorem jC {t:IsT} (F:IsF X.K X.mg t):BltOk X (.builtin "isinstance") (yA t):=⟨_,znG,fun ρ H st xs vs Q E s r h=>by
 match xs,r,h with
 | [x,y],r,h =>
  obtain ⟨v,w,rfl,rx,ry⟩:=Rs.two r
  have h:Out X.K X.mg ρ H (isiA t st y (clsP st x) st) (gV X.K X.mg Q) E:=h
  cases hc:clsP st x with
  | none=>rw [hc] at h;cases y<;>exact False.elim h
  | some cc =>
   rw [hc] at h
   cases cc with
   | inl T =>
    cases y with
    | ty n =>
     cases ry
     obtain ⟨b,hb,h⟩:=zcg h
     exact ⟨v,_,_,_,b,rfl,zgF s rx hc,rfl,fun c' h=>h,znx X.K hb,h.now s _ rfl⟩
    | fn B =>
     obtain ⟨D,rfl,hD⟩:=ry
     obtain ⟨b,hb,h⟩:=zcg h
     obtain ⟨D',hD',k⟩:=F.u T B b hb
     rw [hD] at hD'
     cases hD'
     exact ⟨v,_,_,_,b,rfl,zgF s rx hc,rfl,fun c' h=>h,k,h.now s _ rfl⟩
    | _=>exact False.elim h
   | inr fc =>
    obtain ⟨f,c⟩:=fc
    cases y with
    | ty n =>
     cases ry
     obtain ⟨hf,h⟩:=Out.ifp h
     obtain ⟨b,hb,h⟩:=zcg h
     obtain ⟨C,hC,k⟩:=F.tt c n b hb
     obtain ⟨C',hC',ty⟩:=zgG (fun C e hC=>F.x c C (hf.trans e) hC (.inr ⟨n,b,hb⟩)) (fun C e hC=>F.i c C (hf.trans e) hC (.inr ⟨n,b,hb⟩)) s rx hc
     rw [hC] at hC'
     cases hC'
     exact ⟨v,_,_,_,b,rfl,ty,rfl,fun c' h=>h,k,h.now s _ rfl⟩
    | fn B =>
     obtain ⟨D,rfl,hD⟩:=ry
     obtain ⟨hf,h⟩:=Out.ifp h
     obtain ⟨b,hb,h⟩:=zcg h
     obtain ⟨C,D',hC,hD',k⟩:=F.s c B b hb
     rw [hD] at hD'
     cases hD'
     obtain ⟨C',hC',ty⟩:=zgG (fun C e hC=>F.x c C (hf.trans e) hC (.inl ⟨B,b,hb⟩)) (fun C e hC=>F.i c C (hf.trans e) hC (.inl ⟨B,b,hb⟩)) s rx hc
     rw [hC] at hC'
     cases hC'
     exact ⟨v,_,_,_,b,rfl,ty,rfl,fun c' h=>h,k,h.now s _ rfl⟩
    | _=>exact False.elim h
 | [],r,h=>exact False.elim h
 | [_],r,h=>exact False.elim h
 | _::_::_::_,r,h=>exact False.elim h⟩
end
section
variable {X:Cx}{Er:XK}{K:Frag}{mg:Str->Option Value}{a b c e o:Expr}{es:List Expr}{st:Stmt}{sts:List Stmt}{pos p apos pos':Pos}{fa fb fc fo:zd->Mo PV}{fs:zd->Mo (List PV)}{k:Nat}{x:Str}{m:List PV->Mo PV}
variable {g g' gb:zd->Mo Fl}{ga:zd->Mo Bool}
theorem Out.fl {ρ:List Addr}{H:Hp}{st:Sto}{D:Ends}{fl:Fl}{E:XK}(h:Out K mg ρ H (.ok fl st) (gS K mg D) E) (s:StR K mg ρ H st):gS K mg D ρ H fl st:=h.now s
def zQ:zd->Mo Fl:=fun env st=>.ok (.nx env) st
def flowOn (g:zd->Mo Fl):Fl->Mo Fl
 | .nx env,st=>g env st
 | fl,st=>.ok fl st
def zp (g g':zd->Mo Fl):zd->Mo Fl:=fun env st=>(g env st).bind (flowOn g')
theorem zY:MSs X Er [] zQ:=PSs.weak zkd fun D U H ⟨env,st,ρ,re,rs,h⟩=>h.now rs U re
theorem zt (h1:MS X Er st g) (h2:MSs X Er sts g'):MSs X Er (st::sts) (zp g g') :=
 PSs.weak (zke h1 h2) fun D U H ⟨env,st,ρ,re,rs,h⟩=>⟨env,st,ρ,re,rs,h.then fun ag H1 fl st1 e1 s1 h1=>by
  cases fl with
  | nx env1=>exact fun aw re1=>⟨env1,st1,ag,re1,s1,h1⟩
  | rt v=>exact Out.fl (D:=D) (fl:=.rt v) (E:=Er) h1 s1
  | bk env1=>exact Out.fl (D:=D) (fl:=.bk env1) (E:=Er) h1 s1
  | ct env1=>exact Out.fl (D:=D) (fl:=.ct env1) (E:=Er) h1 s1⟩
theorem zy (h1:MS X Er st g):MSs X Er [st] g:=zdo h1
def zx (i:Nat) (f:zd->Mo PV):zd->Mo Fl:=fun env st=>(f env st).bind fun x st1=>.ok (.nx (env.set i (some x))) st1
theorem zM (i:Nat) {x:Str}(he:ME X Er e fa) (hN:X.N.Nodup) (hi:X.N[i]?=some x:=by rfl) (hx:Loc X.env.scope x:=by first|exact Or.inl rfl|exact Or.inr rfl) (hs:swapsWith e (some (.Name x pos')) pos.line X.env=pure false:=by rfl)
  (hf:X.fn x=true\/X.env.scope.names.lookup x=some .local:=by first|exact .inl rfl|exact .inr rfl|assumption):MS X Er (.Assign [.Name x pos'] e pos) (zx i fa) :=
 PS.weak (zkt hN hi hx he hs hf) fun D U H ⟨env,st,ρ,re,rs,h⟩=>⟨env,st,ρ,re,rs,h.then fun ag H1 x st1 e1 s1 h1 v rv=>h1.now s1 _ ((re.ext e1).set i rv)⟩
def yR (f:zd->Mo PV):zd->Mo Fl:=fun env st=>(f env st).bind fun _ st1=>.ok (.nx env) st1
theorem w4 (he:ME X Er e fa) (hs:swapsWith e none pos.line X.env=pure false:=by rfl):MS X Er (.Expr e pos) (yR fa) :=
 PS.weak (zkg he hs) fun D U H ⟨env,st,ρ,re,rs,h⟩=>⟨env,st,ρ,re,rs,h.then fun ag H1 x st1 e1 s1 h1 v rv=>h1.now s1 _ (re.ext e1)⟩
def zI (f:zd->Mo PV):zd->Mo Fl:=fun env st=>(f env st).bind fun x st1=>.ok (.rt x) st1
theorem zL (he:ME X Er e fa):MS X Er (.Return (some e) pos) (zI fa) :=
 PS.weak (zki he) fun D U H ⟨env,st,ρ,re,rs,h⟩=>⟨env,st,ρ,re,rs,h.then fun ag H1 x st1 e1 s1 h1 v rv=>h1.now s1 _ rv⟩
def zN (t:zd->Mo Bool) (g g':zd->Mo Fl):zd->Mo Fl:=fun env st=>(t env st).bind fun c st1=>if c=true then g env st1 else g' env st1
theorem zV {A B:List Stmt}(hc:MT X Er c ga) (ha:MSs X Er A g) (hb:MSs X Er B g'):MS X Er (.If c A B pos) (zN ga g g') :=
 PS.weak (zkk hc ha hb) fun D U H ⟨env,st,ρ,re,rs,h⟩=>⟨env,st,ρ,re,rs,h.then fun ag H1 k st1 e1 s1 h1=>by
  cases k with
  | true=>exact ⟨env,st1,ag,re.ext e1,s1,h1⟩
  | false=>exact ⟨env,st1,ag,re.ext e1,s1,h1⟩⟩
def ipAdd:PV->PV->Mo PV
 | .int i,.int j,st=>.ok (.int (i+j)) st
 | _,_,_=>.stuck
def za2 (i:Nat) (op:PV->PV->Mo PV) (f:zd->Mo PV):zd->Mo Fl:=fun env st=>(zc i env st).bind fun x st0=>(f env st0).bind fun y st1=>(op x y st1).bind fun z st2=>.ok (.nx (env.set i (some z))) st2
def IpOk (X:Cx) (o:Operator) (op:PV->PV->Mo PV):Prop:=∃r,PIp X o r/\OpM X.K X.mg r op
theorem znH:IpOk X .Add ipAdd:=⟨_,zkw,by
 intro ρ H st x y v w Q E s rx ry h
 cases x with
 | int i =>
  cases y with
  | int j=>cases rx;cases ry;exact ⟨i,j,rfl,rfl,Out.now (x:=PV.int (i+j)) h s _ rfl⟩
  | _=>exact False.elim h
 | _=>exact False.elim h⟩
theorem znI (i:Nat) {x:Str}{o:Operator}{op:PV->PV->Mo PV}(ho:IpOk X o op) (he:ME X Er e fa) (hN:X.N.Nodup) (hi:X.N[i]?=some x:=by rfl) (hx:Loc X.env.scope x:=by first|exact Or.inl rfl|exact Or.inr rfl)
  (hf:X.fn x=true\/X.env.scope.names.lookup x=some .local:=by first|exact .inl rfl|exact .inr rfl|assumption):MS X Er (.AugAssign (.Name x pos') o e pos) (za2 i op fa):=by
 obtain ⟨r,h1,h2⟩:=ho
 refine PS.weak (zkv hN hi hx he h1 hf) fun D U H ⟨env,st,ρ,re,rs,h⟩=>?_
 unfold za2 zc at h
 cases hx:env[i]? with
 | none=>simp only [hx] at h;exact False.elim h
 | some q =>
  cases q with
  | none=>simp only [hx] at h;exact False.elim h
  | some x0 =>
   simp only [hx] at h
   obtain ⟨v,hv,rv⟩:=re.at_ i x0 hx
   exact ⟨v,hv,env,st,ρ,re,rs,Out.then (f:=fun y st1=>(op x0 y st1).bind fun z st2=>Res.ok (Fl.nx (env.set i (some z))) st2) (good:=gS X.K X.mg D) h fun ag H1 y st1 e1 s1 k1 w rw=>h2 ag H1 st1 x0 y v w _ Er s1 (R.ext e1 x0 rv) rw (k1.then fun ar H2 z st2 e2 s2 k2 u ru=>k2.now s2 _ (((re.ext e1).ext e2).set i ru))⟩
def putK (f:Str) (x:PV):List Str->List PV->List Str×List PV
 | k::ks,y::ys=>if k=f then (k::ks,x::ys) else (k::(putK f x ks ys).1,y::(putK f x ks ys).2)
 | _,_=>([f],[x])
theorem zgH {ρ:List Addr}{H:Hp}{f:Str}{x:PV}{v:V}(r:R K mg ρ H x v):∀{ks:List Str}{xs:List PV}{vs:List V},ks.length=vs.length->Rs K mg ρ H xs vs->∃ws,putF f v (ks.zip vs)=(putK f x ks xs).1.zip ws/\Rs K mg ρ H (putK f x ks xs).2 ws/\(putK f x ks xs).1.length=ws.length
 | [],xs,vs,hl,h=>by
  have:vs=[]:=by cases vs with|nil=>rfl|cons=>simp at hl
  subst this
  have:xs=[]:=by cases xs with|nil=>rfl|cons=>obtain ⟨_,_,e,_⟩:=h;cases e
  subst this
  exact ⟨[v],rfl,⟨v,[],rfl,r,rfl⟩,rfl⟩
 | k::ks,xs,vs,hl,h=>by
  cases vs with
  | nil=>simp at hl
  | cons v0 vs =>
   cases xs with
   | nil=>cases h
   | cons y ys =>
    obtain ⟨v0',r',e,h1,h2⟩:=h
    cases e
    simp only [putK,List.zip_cons_cons,putF]
    by_cases hk:k=f
    ·rw [if_pos hk,if_pos hk]
     exact ⟨v::vs,rfl,⟨v,vs,rfl,r,h2⟩,by simpa using hl⟩
    ·rw [if_neg hk,if_neg hk]
     obtain ⟨ws,e1,e2,e3⟩:=zgH r (by simpa using hl) h2
     exact ⟨v0::ws,by rw [e1];rfl,⟨v0,ws,rfl,h1,e2⟩,by simp [e3]⟩
def putAt (f:Str) (ins:Str->Bool) (x:PV):PV->Mo Unit
 | .ref n,st=>jj st n fun c ks xs=>if ins c=true/\ks.length<1000 then .ok () (st.set n (.ins c (putK f x ks xs).1 (putK f x ks xs).2)) else .stuck
 | _,_=>.stuck
def sFld (f:Str) (ins:Str->Bool) (fo fv:zd->Mo PV):zd->Mo Fl:=fun env st=>(fv env st).bind fun x st1=>(fo env st1).bind fun o st2=>(putAt f ins x o st2).bind fun _ st3=>.ok (.nx env) st3
theorem zgI {f:Str}{ins exc:Str->Bool}(F:FldF X.K X.mg f ins exc) (ho:ME X Er o fo) (he:ME X Er e fa) (hs:swapsWith e (some (.Attribute o f pos')) pos.line X.env=pure false:=by rfl):MS X Er (.Assign [.Attribute o f pos'] e pos) (sFld f ins fo fa) :=
 PS.weak (zk9 ho he hs) fun D U H ⟨env,st,ρ,re,rs,h⟩=>⟨env,st,ρ,re,rs,h.then fun ag H1 x st1 e1 s1 h1 v rv=>⟨env,st1,ag,re.ext e1,s1,h1.then fun ar H2 y st2 e2 s2 h2 w rw=>by
  cases y with
  | ref n =>
   cases hn:st2[n]? with
   | none=>simp only [putAt,jj,hn] at h2;exact False.elim h2
   | some so =>
    cases so with
    | lst _=>simp only [putAt,jj,hn] at h2;exact False.elim h2
    | dic _ _=>simp only [putAt,jj,hn] at h2;exact False.elim h2
    | fdi _ _=>simp only [putAt,jj,hn] at h2;exact False.elim h2
    | ins c ks xs =>
     simp only [putAt,jj,hn] at h2
     by_cases hc:ins c=true/\ks.length<1000
     ·rw [if_pos hc] at h2
      obtain ⟨p,rfl,hp⟩:=rw
      obtain ⟨C',dx,vs,hC',hH,hR,hl⟩:=s2.addr hn hp
      obtain ⟨C,hC,cl,na⟩:=F.i c hc.1
      rw [hC] at hC'
      cases hC'
      obtain ⟨ws,k1,k2,k3⟩:=zgH (f:=f) (R.ext e2 x rv) hl hR
      refine ⟨p,_,dx,_,rfl,hH,cl,na,?_,?_⟩
      ·rw [List.length_zip,<-hl];have:=hc.2;omega
      ·have ew:Ext ar H2 ar (upd H2 p (.ins C' dx (putF f v (ks.zip vs)))):=Ext.write hH rfl
       exact h2 ar _ ew (s2.write hp ew ⟨_,dx,ws,hC,by rw [yp,k1],Rs.ext ew _ k2,k3⟩) U (((re.ext e1).ext e2).ext ew)
     ·rw [if_neg hc] at h2;exact False.elim h2
  | _=>exact False.elim h2⟩⟩
def MG (X:Cx) (Er:XK) (e:Expr) (g:PV->zd->Option zd):Prop:=PG X e fun v U H Q=>∃x env env' ρ,R X.K X.mg ρ H x v/\EnvR X.K X.mg ρ H env U/\g x env=some env'/\∀ai,EnvR X.K X.mg ρ H env' ai->Q ai H
theorem PG.weak {t t':TG}(h:PG X e t) (w:∀v U H Q,t' v U H Q->t v U H Q):PG X e t':=fun pins s U H v u Q I r q=>h pins s U H v u Q I r (w v U H Q q)
def gN (i:Nat):PV->zd->Option zd:=fun x env=>some (env.set i (some x))
theorem wE (i:Nat) {x:Str}(hN:X.N.Nodup) (hi:X.N[i]?=some x:=by rfl) (hx:Loc X.env.scope x:=by first|exact Or.inl rfl|exact Or.inr rfl) (hf:X.fn x=true\/X.env.scope.names.lookup x=some .local:=by first|exact .inl rfl|exact .inr rfl|assumption):MG X Er (.Name x pos) (gN i) :=
 PG.weak (zal hN hi hx hf) fun v U H Q ⟨x,env,env',ρ,rx,re,hg,q⟩=>by
  cases hg
  exact q _ (re.set i rx)
def g2 (i j:Nat):PV->zd->Option zd
 | .tup [x,y],env=>some ((env.set i (some x)).set j (some y))
 | _,_=>none
theorem znJ {i j:Nat}{x:PV}{env env':zd}(h:g2 i j x env=some env'):∃y z,x=.tup [y,z]/\env'=(env.set i (some y)).set j (some z):=by
 unfold g2 at h
 split at h
 ·cases h;exact ⟨_,_,rfl,rfl⟩
 ·cases h
theorem znK (i j:Nat) {x y:Str}{kt:Nat}{px py:Pos}(hc:X.calm=true) (hN:X.N.Nodup) (hi:X.N[i]?=some x:=by rfl) (hj:X.N[j]?=some y:=by rfl) (hx:Loc X.env.scope x:=by first|exact Or.inl rfl|exact Or.inr rfl) (hy:Loc X.env.scope y:=by first|exact Or.inl rfl|exact Or.inr rfl)
  (hf:X.fn x=true\/X.env.scope.names.lookup x=some .local:=by first|exact .inl rfl|exact .inr rfl|assumption) (hf':X.fn y=true\/X.env.scope.names.lookup y=some .local:=by first|exact .inl rfl|exact .inr rfl|assumption):MG X Er (.Tuple [.Name x px,.Name y py] kt pos) (g2 i j) :=
 PG.weak (zkr (n:=2) hc (zfD (zal hN hi hx hf) (zfD (zal hN hj hy hf') zkp))) fun v U H Q ⟨x,env,env',ρ,rx,re,hg,q⟩=>by
  obtain ⟨y,z,rfl,rfl⟩:=znJ hg
  obtain ⟨a,vs,rfl,h1,h2⟩:=rx
  obtain ⟨u,w,rfl,r1,r2⟩:=Rs.two h2
  exact ⟨a,_,rfl,h1,rfl,u,[w],rfl,w,[],rfl,rfl,q _ ((re.set i r1).set j r2)⟩
def g3 (i j k:Nat):PV->zd->Option zd
 | .tup [x,y,z],env=>some (((env.set i (some x)).set j (some y)).set k (some z))
 | _,_=>none
inductive Sq where
 | im (xs:List PV)|rf (n:Nat)
def Walk (K:Frag) (mg:Str->Option Value) (J:It) (ρ:List Addr) (H:Hp):Sq->Prop
 | .im xs=>(∀i ah H',Ext ρ H ah H'->i<xs.length->J.go i H')/\(∀i ah H',Ext ρ H ah H'->xs.length<=i->J.stop i H') /\
  ∀i ah H' st v H2,Ext ρ H ah H'->StR K mg ah H' st->i<xs.length->J.yld i H' v H2->∃x,xs[i]?=some x/\Ext ah H' ah H2/\StR K mg ah H2 st/\R K mg ah H2 x v
 | .rf n=>∃a,ρ[n]?=some a/\J=Itl K a
def MI (X:Cx) (Er:XK) (tg iter:Expr) (src:zd->Mo Sq):Prop:=PI X tg iter fun U H R=>∃env st ρ,EnvR X.K X.mg ρ H env U/\StR X.K X.mg ρ H st/\Out X.K X.mg ρ H (src env st) (fun ah H' q st'=>∀J,Walk X.K X.mg J ah H' q->R J H') Er
def forL (g:PV->zd->Option zd) (body:zd->Mo Fl):List PV->zd->Mo Fl
 | [],env,st=>.ok (.nx env) st
 | x::xs,env,st=>match g x env with
  | none=>.stuck
  | some env1=>(body env1 st).bind fun fl st2=>match fl with
   | .nx e=>forL g body xs e st2
   | .ct e=>forL g body xs e st2
   | .bk e=>.ok (.nx e) st2
   | .rt v=>.ok (.rt v) st2
def forR (g:PV->zd->Option zd) (body:zd->Mo Fl) (n:Nat):Nat->Nat->zd->Mo Fl
 | 0,_,_,_=>.stuck
 | m+1,i,env,st=>ye st n fun xs=>match xs[i]? with
  | none=>.ok (.nx env) st
  | some x=>match g x env with
   | none=>.stuck
   | some env1=>(body env1 st).bind fun fl st2=>match fl with
    | .nx e=>forR g body n m (i+1) e st2
    | .ct e=>forR g body n m (i+1) e st2
    | .bk e=>.ok (.nx e) st2
    | .rt v=>.ok (.rt v) st2
def forS (g:PV->zd->Option zd) (body:zd->Mo Fl):Sq->zd->Mo Fl
 | .im xs=>forL g body xs
 | .rf n=>forR g body n (lim+1) 0
def jH (src:zd->Mo Sq) (g:PV->zd->Option zd) (body:zd->Mo Fl):zd->Mo Fl:=fun env st=>(src env st).bind fun q st1=>forS g body q env st1
theorem wF {tg iter:Expr}{src:zd->Mo Sq}{gt:PV->zd->Option zd}(hp:PassesOwn (model X.prog X.w) X.A X.env X.xe) (hc:X.calm=true) (hi:MI X Er tg iter src) (hg:MG X Er tg gt) (hb:MSs X Er sts gb)
  (hs:∀x,foldedSetIterable iter X.env x=pure x:=by intro _;rfl):MS X Er (.For tg iter sts [] pos) (jH src gt gb) :=
 PS.weak (zfE hp hc hi hg hb hs) fun D U H ⟨env,st,ρ,re,rs,h⟩=>⟨env,st,ρ,re,rs,h.then fun au H0 q st0 e0 s0 h0 J wk=>by
  cases q with
  | im xs =>
   obtain ⟨w1,w2,w3⟩:=wk
   refine ⟨fun i m U H=>m=xs.length-i/\i<=xs.length/\∃env st ρ,EnvR X.K X.mg ρ H env U/\StR X.K X.mg ρ H st/\Ext au H0 ρ H/\Out X.K X.mg ρ H (forL gt gb (xs.drop i) env st) (gS X.K X.mg D) Er,⟨xs.length,by simp,Nat.zero_le _,env,st0,au,re.ext e0,s0,Ext.refl,h0⟩,?_⟩
   rintro i m U H ⟨rfl,hi,env,st,ρ,re,rs,ex,h⟩
   by_cases hlt:i<xs.length
   ·refine .inr ⟨w1 i ρ H ex hlt,_,fun ai H' p'=>⟨xs.length-(i+1),by omega,rfl,hlt,p'⟩,fun v H' y=>?_⟩
    obtain ⟨x,hx,ex2,s2,rx⟩:=w3 i ρ H st v H' ex rs hlt y
    have hd:xs.drop i=x::xs.drop (i+1):=by
     rw [List.drop_eq_getElem_cons hlt]
     have:=(List.getElem?_eq_some_iff.mp hx).2
     rw [this]
    rw [hd] at h
    cases hgx:gt x env with
    | none=>simp only [forL,hgx] at h;exact False.elim h
    | some env1 =>
     simp only [forL,hgx] at h
     refine ⟨x,env,env1,ρ,rx,re.ext ex2,hgx,fun aw r1=>⟨env1,st,ρ,r1,s2,Out.then (Out.ext h ex2) fun aq H3 fl st3 e3 s3 h3=>?_⟩⟩
     cases fl with
     | nx e=>exact fun aG r4=>⟨e,st3,aq,r4,s3,(ex.trans ex2).trans e3,h3⟩
     | ct e=>exact fun aG r4=>⟨e,st3,aq,r4,s3,(ex.trans ex2).trans e3,h3⟩
     | bk e=>exact Out.fl (D:=D) (fl:=.nx e) (E:=Er) h3 s3
     | rt v=>exact Out.fl (D:=D) (fl:=.rt v) (E:=Er) h3 s3
   ·have e:i=xs.length:=by omega
    subst e
    rw [List.drop_length] at h
    exact .inl ⟨w2 _ ρ H ex (Nat.le_refl _),Out.now (x:=Fl.nx env) h rs U re⟩
  | rf n =>
   obtain ⟨a,ha,rfl⟩:=wk
   refine ⟨fun i m U H=>∃env st ρ,EnvR X.K X.mg ρ H env U/\StR X.K X.mg ρ H st/\ρ[n]?=some a/\Out X.K X.mg ρ H (forR gt gb n m i env st) (gS X.K X.mg D) Er,⟨lim+1,env,st0,au,re.ext e0,s0,ha,h0⟩,?_⟩
   rintro i m U H ⟨env,st,ρ,re,rs,ha,h⟩
   cases m with
   | zero=>exact False.elim h
   | succ m =>
    obtain ⟨xs,hn,h⟩:=jf h
    obtain ⟨vs,hH,hR⟩:=rs.addr hn ha
    cases hx:xs[i]? with
    | none =>
     simp only [hx] at h
     have:vs.length<=i:=by rw [<-hR.len];exact List.getElem?_eq_none_iff.mp hx
     exact .inl ⟨⟨vs,SqL.of hH,this⟩,Out.now (x:=Fl.nx env) h rs U re⟩
    | some x =>
     simp only [hx] at h
     obtain ⟨v,hv,rv⟩:=hR.get hx
     refine .inr ⟨⟨vs,v,SqL.of hH,hv⟩,_,fun ai H' p'=>⟨m,Nat.lt_succ_self m,p'⟩,fun v' H' y=>?_⟩
     obtain ⟨e1,y⟩:=y
     subst e1
     have e2:=y vs (SqL.of hH)
     rw [hv] at e2
     cases e2
     cases hgx:gt x env with
     | none=>simp only [hgx] at h;exact False.elim h
     | some env1 =>
      simp only [hgx] at h
      refine ⟨x,env,env1,ρ,rv,re,hgx,fun aw r1=>⟨env1,st,ρ,r1,rs,Out.then h fun aq H3 fl st3 e3 s3 h3=>?_⟩⟩
      cases fl with
      | nx e=>exact fun aG r4=>⟨e,st3,aq,r4,s3,e3.get ha,h3⟩
      | ct e=>exact fun aG r4=>⟨e,st3,aq,r4,s3,e3.get ha,h3⟩
      | bk e=>exact Out.fl (D:=D) (fl:=.nx e) (E:=Er) h3 s3
      | rt v=>exact Out.fl (D:=D) (fl:=.rt v) (E:=Er) h3 s3⟩
end
section
variable {X:Cx}{Er:XK}{K:Frag}{mg:Str->Option Value}{a b c e o tg:Expr}{es:List Expr}{st:Stmt}{sts:List Stmt}{pos p apos pos':Pos}{fa fb fc fo:zd->Mo PV}{fs:zd->Mo (List PV)}{k:Nat}{x:Str}{m:List PV->Mo PV}
variable {g g' gb:zd->Mo Fl}{ga:zd->Mo Bool}
theorem PI.weak {t t':TI}(h:PI X tg e t) (w:∀U H Q,t' U H Q->t U H Q):PI X tg e t':=fun pins s U H Q I q=>h pins s U H Q I (w U H Q q)
def znL (K:Frag) (tl:TE):TI:=fun U H R=>tl U H fun x H1=>(∃a,x=.ref a/\(∃xs,SqL K H1 a xs)/\R (Itl K a) H1)\/(∃a,x=.ref a/\(∃xs,SqT K H1 a xs)/\R (Itt K a) H1)\/∃z,x=.str z/\R (Its z) H1
theorem znM {l:Expr}{tl:TE}(hl:PE X l tl):PI X tg l (znL X.K tl):=by
 intro pins s U H R I h
 refine thn (hl pins s U H _ I h) fun v s1 ⟨x,H1,I1,r1,q1⟩=>?_
 have fin:∀b∈[s1.heap.objs.size],FpOk X pins H1 b:=fun b hb=>by
  have e:b=s1.heap.objs.size:=by simpa using hb
  subst e
  exact I1.fpOk (Nat.le_refl _) (I1.hok.fresh (Nat.le_refl _))
 rcases q1 with ⟨a,e,⟨xs,hq⟩,q⟩|⟨a,e,⟨xs,hq⟩,q⟩|⟨z,rfl,q⟩
 ·subst e
  cases r1
  obtain ⟨its,rv,p,hz⟩:=I1.list hq
  exact wpAny_pyIter_list p.isList ⟨s1.heap.objs.size,[s1.heap.objs.size],_,_,H1,rfl,I1.kept (t':=s1.toks) (fun b o e=>Heap.get?_push_of_some _ e),zkz a _,⟨_,Heap.get?_push_size _ rfl,rfl,rfl⟩,fin,q⟩
 ·subst e
  cases r1
  obtain ⟨its,rv,p,hz⟩:=I1.tuple hq
  exact wpAny_pyIter_tuple (show s1.heap.IsTuple a its.toArray from p) ⟨s1.heap.objs.size,[s1.heap.objs.size],_,_,H1,rfl,I1.kept (t':=s1.toks) (fun b o e=>Heap.get?_push_of_some _ e),zkA a _,⟨_,Heap.get?_push_size _ rfl,rfl,rfl⟩,fin,q⟩
 ·obtain ⟨t,rfl⟩:=r1
  cases ha:z.cps.all (·<128) with
  | false=>exact wpAny_pyIter_wide ha ⟨s1.heap.objs.size,[s1.heap.objs.size],_,_,H1,rfl,I1.kept (t':=s1.toks) (fun b o e=>Heap.get?_push_of_some _ e),zgf z t _ "str_iterator" (.inr rfl),⟨_,Heap.get?_push_size _ rfl,rfl,rfl⟩,fin,q⟩
  | true=>exact wpAny_pyIter_ascii ha ⟨s1.heap.objs.size,[s1.heap.objs.size],_,_,H1,rfl,I1.kept (t':=s1.toks) (fun b o e=>Heap.get?_push_of_some _ e),zgf z t _ "str_ascii_iterator" (.inl rfl),⟨_,Heap.get?_push_size _ rfl,rfl,rfl⟩,fin,q⟩
theorem znN {ρ:List Addr}{H:Hp}{a:Addr}{xs:List PV}{vs:List V}(h:SqT K H a vs) (r:Rs K mg ρ H xs vs):Walk K mg (Itt K a) ρ H (.im xs):=by
 refine ⟨fun i ah H' e hi=>?_,fun i ah H' e hi=>⟨vs,e.sqT h,by rw [<-r.len];exact hi⟩,fun i ah H' st v H2 e s hi y=>?_⟩
 ·obtain ⟨v,hv,_⟩:=r.get (List.getElem?_eq_getElem hi)
  exact ⟨vs,v,e.sqT h,hv⟩
 ·obtain ⟨e1,y⟩:=y
  subst e1
  obtain ⟨v',hv,rv⟩:=r.get (List.getElem?_eq_getElem hi)
  have:=y vs (e.sqT h)
  rw [hv] at this
  cases this
  exact ⟨_,List.getElem?_eq_getElem hi,Ext.refl,s,R.ext e _ rv⟩
theorem znO {ρ:List Addr}{H:Hp}{a:Addr}{xs:List PV}{vs:List V}(h:FrL K H a vs) (r:Rs K mg ρ H xs vs):Walk K mg (Itl K a) ρ H (.im xs):=by
 have hs:∀{ah H'},Ext ρ H ah H'->SqL K H' a vs:=fun e=>(e.frl h).sq
 refine ⟨fun i ah H' e hi=>?_,fun i ah H' e hi=>⟨vs,hs e,by rw [<-r.len];exact hi⟩,fun i ah H' st v H2 e s hi y=>?_⟩
 ·obtain ⟨v,hv,_⟩:=r.get (List.getElem?_eq_getElem hi)
  exact ⟨vs,v,hs e,hv⟩
 ·obtain ⟨e1,y⟩:=y
  subst e1
  obtain ⟨v',hv,rv⟩:=r.get (List.getElem?_eq_getElem hi)
  have:=y vs (hs e)
  rw [hv] at this
  cases this
  exact ⟨_,List.getElem?_eq_getElem hi,Ext.refl,s,R.ext e _ rv⟩
def signs (z:Str):List PV:=z.cps.toList.map fun c=>.str ⟨#[c]⟩
theorem znP {ρ:List Addr}{H:Hp}(z:Str):Walk K mg (Its z) ρ H (.im (signs z)):=by
 have hl:(signs z).length=z.cps.size:=by simp [signs]
 refine ⟨fun i ah H' e hi=>by rw [hl] at hi;exact hi,fun i ah H' e hi=>by rw [hl] at hi;exact hi,fun i ah H' st v H2 e s hi y=>?_⟩
 obtain ⟨e1,c,hc,e2⟩:=y
 subst e1 e2
 refine ⟨.str ⟨#[c]⟩,?_,Ext.refl,s,rfl⟩
 simp [signs,hc]
def nums (lo:Int) (n:Nat):List PV:=(List.range n).map fun i=>.int (lo+(i:Nat))
theorem znQ {ρ:List Addr}{H:Hp}(lo:Int) (n:Nat):Walk K mg (Itr lo n) ρ H (.im (nums lo n)):=by
 have hl:(nums lo n).length=n:=by simp [nums]
 refine ⟨fun i ah H' e hi=>by rw [hl] at hi;exact hi,fun i ah H' e hi=>by rw [hl] at hi;exact hi,fun i ah H' st v H2 e s hi y=>?_⟩
 obtain ⟨e1,e2⟩:=y
 subst e1 e2
 rw [hl] at hi
 exact ⟨.int (lo+i),by simp [nums,hi],Ext.refl,s,rfl⟩
def seqOf:PV->Mo Sq
 | .tup xs,st=>.ok (.im xs) st
 | .frl xs,st=>.ok (.im xs) st
 | .str z,st=>.ok (.im (signs z)) st
 | .ref n,st=>ye st n fun _=>.ok (.rf n) st
 | _,_=>.stuck
def yF (f:zd->Mo PV):zd->Mo Sq:=fun env st=>(f env st).bind seqOf
theorem jr (h:ME X Er e fa):MI X Er tg e (yF fa):=PI.weak (znM h) fun U H Q ⟨env,st,ρ,re,rs,h⟩=>⟨env,st,ρ,re,rs,h.then fun ag H1 x st1 e1 s1 h1 v rv=>by
 cases x with
 | tup xs =>
  obtain ⟨a,vs,rfl,k1,k2⟩:=rv
  exact .inr (.inl ⟨a,rfl,⟨vs,k1⟩,Out.now (x:=Sq.im xs) h1 s1 _ (znN k1 k2)⟩)
 | frl xs =>
  obtain ⟨a,vs,rfl,k1,k2⟩:=rv
  exact .inl ⟨a,rfl,⟨vs,k1.sq⟩,Out.now (x:=Sq.im xs) h1 s1 _ (znO k1 k2)⟩
 | str z =>
  cases rv
  exact .inr (.inr ⟨z,rfl,Out.now (x:=Sq.im (signs z)) h1 s1 _ (znP z)⟩)
 | ref n =>
  obtain ⟨a,rfl,ha⟩:=rv
  obtain ⟨xs,hn,h1⟩:=jf h1
  obtain ⟨vs,k1,k2⟩:=s1.addr hn ha
  exact .inl ⟨a,rfl,⟨vs,SqL.of k1⟩,h1.now s1 _ ⟨a,ha,rfl⟩⟩
 | _=>exact False.elim h1⟩
abbrev cR (j:Int):Bool:=decide (-(2 ^ 62)<=j)&&decide (j<2 ^ 62)
def wG:List PV->Mo Sq
 | [.int j],st=>if cR j=true then .ok (.im (nums 0 j.toNat)) st else .stuck
 | _,_=>.stuck
def znR:List PV->Mo Sq
 | [.int i,.int j],st=>if cR i=true/\cR j=true then .ok (.im (nums i (j-i).toNat)) st else .stuck
 | _,_=>.stuck
theorem znS {ρ:List Addr}{H:Hp}{xs:List PV}{st:Sto}{good:List Addr->Hp->Sq->Sto->Prop}(h:Out K mg ρ H (wG xs st) good Er):∃j,xs=[.int j] /\ -(2 ^ 62)<=j/\j<2 ^ 62/\Out K mg ρ H (.ok (.im (nums 0 j.toNat)) st) good Er:=by
 unfold wG at h
 split at h
 ·obtain ⟨c,h⟩:=Out.ifp h
  simp [cR] at c
  exact ⟨_,rfl,c.1,c.2,h⟩
 ·exact False.elim h
def iRng1 (fs:zd->Mo (List PV)):zd->Mo Sq:=fun env st=>(fs env st).bind wG
def iRng2 (fs:zd->Mo (List PV)):zd->Mo Sq:=fun env st=>(fs env st).bind znR
theorem wj {a:Expr} (hm:X.mg "range" = none) (ha:MA X Er [a] fs) (hg:Gl X "range" := by rfl) (hs:starEach [a] X.env=[(false,eval a X.env)]:=by rfl):MI X Er tg (.Call (.Name "range" p) [a] [] pos) (iRng1 fs) :=
 PI.weak (zkD hg hm ha hs) fun U H Q ⟨env,st,ρ,re,rs,h⟩=>⟨env,st,ρ,re,rs,h.then fun ag H1 xs st1 e1 s1 h1 vs rv=>by
  obtain ⟨j,rfl,c1,c2,h1⟩:=znS h1
  obtain ⟨v,rfl,rfl⟩:=Rs.one rv
  exact ⟨j,rfl,c1,c2,h1.now s1 _ (znQ 0 j.toNat)⟩⟩
def jQ (xs ys:List PV):List PV:=(xs.zip ys).map fun q=>.tup [q.1,q.2]
def za3:List PV->Mo Sq
 | [.tup xs,.tup ys],st=>.ok (.im (jQ xs ys)) st
 | _,_=>.stuck
theorem znT {ρ:List Addr}{H:Hp}{xs:List PV}{st:Sto}{good:List Addr->Hp->Sq->Sto->Prop}(h:Out K mg ρ H (za3 xs st) good Er):∃ys zs,xs=[.tup ys,.tup zs]/\Out K mg ρ H (.ok (.im (jQ ys zs)) st) good Er:=by
 unfold za3 at h
 split at h
 ·exact ⟨_,_,rfl,h⟩
 ·exact False.elim h
theorem znU {ρ:List Addr}{H:Hp}{a b:Addr}{xs ys:List PV}{vs ws:List V}(h:SqT K H a vs) (r:Rs K mg ρ H xs vs) (h':SqT K H b ws) (r':Rs K mg ρ H ys ws):Walk K mg (Itz K a b) ρ H (.im (jQ xs ys)):=by
 have hl:(jQ xs ys).length=min xs.length ys.length:=by simp [jQ]
 have l1:=r.len
 have l2:=r'.len
 refine ⟨fun i ah H' e hi=>?_,fun i ah H' e hi=>⟨vs,ws,e.sqT h,e.sqT h',by rw [hl] at hi;omega⟩,fun i ah H' st v H2 e s hi y=>?_⟩
 ·rw [hl] at hi
  obtain ⟨v,hv,_⟩:=r.get (List.getElem?_eq_getElem (show i<xs.length by omega))
  obtain ⟨w,hw,_⟩:=r'.get (List.getElem?_eq_getElem (show i<ys.length by omega))
  exact ⟨vs,ws,v,w,e.sqT h,e.sqT h',hv,hw⟩
 ·rw [hl] at hi
  obtain ⟨T,v',w',hT,rfl,rfl,y1,y2⟩:=y
  have k1:i<xs.length:=by omega
  have k2:i<ys.length:=by omega
  obtain ⟨v,hv,rv⟩:=r.get (List.getElem?_eq_getElem k1)
  obtain ⟨w,hw,rw'⟩:=r'.get (List.getElem?_eq_getElem k2)
  have q1:=y1 vs (e.sqT h)
  have q2:=y2 ws (e.sqT h')
  rw [hv] at q1
  rw [hw] at q2
  cases q1;cases q2
  refine ⟨.tup [xs[i],ys[i]],?_,Ext.new hT,s.new hT,R.tup_of ⟨_,[_],rfl,R.ext e _ rv,_,[],rfl,R.ext e _ rw',rfl⟩ hT⟩
  rw [jQ,List.getElem?_map,List.getElem?_eq_getElem (by simp;omega)]
  simp
def zdO (fs:zd->Mo (List PV)):zd->Mo Sq:=fun env st=>(fs env st).bind za3
theorem znV {elts:List Expr} {kt:Nat} {tp:Pos} {x y:Expr} (hm:X.mg "zip" = none) (ha:MA X Er [x,y] fs) (hg:Gl X "zip" := by rfl) (hs:starEach [x,y] X.env=[(false,eval x X.env),(false,eval y X.env)]:=by rfl) (hs2:starEach [y] X.env=[(false,eval y X.env)]:=by rfl) :
  MI X Er (.Tuple elts kt tp) (.Call (.Name "zip" p) [x,y] [] pos) (zdO fs) :=
 PI.weak (zmW hg hm ha hs hs2) fun U H Q ⟨env,st,ρ,re,rs,h⟩=>⟨env,st,ρ,re,rs,h.then fun ag H1 xs st1 e1 s1 h1 vs rv=>by
  obtain ⟨ys,zs,rfl,h1⟩:=znT h1
  obtain ⟨v,w,rfl,⟨a,us,rfl,k1,k2⟩,⟨b,ws,rfl,k3,k4⟩⟩:=Rs.two rv
  exact ⟨a,b,rfl,⟨us,k1⟩,⟨ws,k3⟩,h1.now s1 _ (znU k1 k2 k3 k4)⟩⟩
def whileF (t:zd->Mo Bool) (b:zd->Mo Fl):Nat->zd->Mo Fl
 | 0,_,_=>.stuck
 | n+1,env,st=>(t env st).bind fun c st1=>if c=true then (b env st1).bind fun fl st2=>match fl with
   | .nx e=>whileF t b n e st2
   | .ct e=>whileF t b n e st2
   | .bk e=>.ok (.nx e) st2
   | .rt v=>.ok (.rt v) st2
  else .ok (.nx env) st1
def zdP (t:zd->Mo Bool) (b:zd->Mo Fl):zd->Mo Fl:=whileF t b lim
theorem znW (hp:PassesOwn (model X.prog X.w) X.A X.env X.xe) (hc:MT X Er c ga) (hb:MSs X Er sts gb):MS X Er (.While c sts [] pos) (zdP ga gb) :=
 PS.weak (zky hp hc hb) fun D U H ⟨env,st,ρ,re,rs,h⟩=>by
  refine ⟨fun m U H=>∃env st ρ,EnvR X.K X.mg ρ H env U/\StR X.K X.mg ρ H st/\Out X.K X.mg ρ H (whileF ga gb m env st) (gS X.K X.mg D) Er,⟨lim,env,st,ρ,re,rs,h⟩,?_⟩
  rintro m U H ⟨env,st,ρ,re,rs,h⟩
  cases m with
  | zero=>exact False.elim h
  | succ m =>
   refine ⟨env,st,ρ,re,rs,Out.then h fun ag H1 k st1 e1 s1 h1=>?_⟩
   cases k with
   | true =>
    change (if true=true then _ else D.nx U H1)
    rw [if_pos rfl]
    refine ⟨_,fun ai H' p'=>⟨m,Nat.lt_succ_self m,p'⟩,env,st1,ag,re.ext e1,s1,Out.then h1 fun aq H3 fl st3 e3 s3 h3=>?_⟩
    cases fl with
    | nx e=>exact fun aG r4=>⟨e,st3,aq,r4,s3,h3⟩
    | ct e=>exact fun aG r4=>⟨e,st3,aq,r4,s3,h3⟩
    | bk e=>exact Out.fl (D:=D) (fl:=.nx e) (E:=Er) h3 s3
    | rt v=>exact Out.fl (D:=D) (fl:=.rt v) (E:=Er) h3 s3
   | false =>
    have z:D.nx U H1:=Out.fl (D:=D) (fl:=.nx env) (E:=Er) h1 s1 U (re.ext e1)
    exact z
def wm (cn fld:Str) (f:zd->Mo PV):zd->Mo Fl:=fun env st=>(f env st).bind fun x st1=>.err cn [fld] [x] st1
theorem zaq {cn fld:Str} {np cpos:Pos} (C:XOk X.prog X.w X.K X.mg X.base cn fld) (he:ME X Er e fa) (hr:Room 2 X.A) (ht:jM X Er) (hc:X.calm=true) (hg:Gl X cn:=by rfl) (hdb:(cn==("__debug__" : Str))=false:=by decide)
  (hs:starEach [e] X.env=(false,eval e X.env)::starEach [] X.env:=by rfl):MS X Er (.Raise (some (.Call (.Name cn np) [e] [] cpos)) none pos) (wm cn fld fa):=by
 obtain ⟨C,f,fd,hm,M,F,hb⟩:=C
 exact PS.weak (zmB he M F hr hg hm hb (zbX ht) ht.one hc hdb hs) fun D U H ⟨env,st,ρ,re,rs,h⟩=>⟨env,st,ρ,re,rs,h.then fun ag H1 x st1 e1 s1 h1 v rv d hd=>by
  exact h1 ag _ _ _ (Ext.new hd) (s1.new hd) ⟨C,rfl,hm,.inr ⟨d,[v],rfl,yp,⟨v,[],rfl,R.ext (Ext.new hd) x rv,rfl⟩,rfl⟩⟩⟩
def sRaise0 (cn:Str):zd->Mo Fl:=fun _ st=>.err cn [] [] st
def noErr {α:Type}:Res α->Res α
 | .err _ _ _ _=>.stuck
 | r=>r
theorem wn {α β:Type}{ρ:List Addr}{H:Hp}{r:Res β}{f:β->Mo α}{good:List Addr->Hp->α->Sto->Prop}{good':List Addr->Hp->β->Sto->Prop}{E E':XK}(h:Out K mg ρ H ((noErr r).bind f) good E) (g:∀ah H' x st,Ext ρ H ah H'->StR K mg ah H' st->Out K mg ah H' (f x st) good E->good' ah H' x st):Out K mg ρ H r good' E':=by
 cases r with
 | ok x st=>exact fun ah H' e s=>g ah H' x st e s (Out.ext h e)
 | err=>exact False.elim h
 | stuck=>exact False.elim h
def tMX (K:Frag) (mg:Str->Option Value) (f:zd->Mo PV):TX:=fun U H Q E=>∃env st ρ,EnvR K mg ρ H env U/\StR K mg ρ H st/\Out K mg ρ H (f env st) (gV K mg Q) E
def MX (X:Cx) (e:Expr) (f:zd->Mo PV):Prop:=PX X e (tMX X.K X.mg f)
theorem PX.weak {t t':TX}(h:PX X e t) (w:∀U H Q E,t' U H Q E->t U H Q E):PX X e t':=fun pins s U H Q E I q=>h pins s U H Q E I (w U H Q E q)
def znY (X:Cx) (name:Str) (k:Nat) (ta:TE) (t:TA):TX:=fun U H Q E=>ta U H fun x H1=>∃a C dx fs f fd ps sp,x=.ref a/\H1 a=some (.ins C dx fs)/\fs.lookup name=none/\Cls X.K C/\Meth X.K C name f/\Binds X.K fd ps []/\FnOk X.prog X.w X.K X.mg X.base (CXe X.prog X.w) k f fd ps sp /\
 t U H1 fun vs H2=>sp (x::vs) H2 Q E
theorem znZ {pl:Sem Bool}{name:Str}{ta:TE}{t:TA}(he:PE X.nox o ta) (hr:Room k X.A) (ha:PA X.nox (e::es) t)
  (hst:starEach (e::es) X.env=(false,eval e X.env)::starEach es X.env:=by rfl) (hpl:(backTo pos (starEach es X.env)).any (·.1)=false:=by rfl)
  (ht:eval (.Call (.Attribute o name apos) (e::es) [] pos) X.env=(do
   let ov <-eval o X.env
   standAt apos.atName
   let (f,first) <-holding [ov] (getMethod ov name pl)
   callWith pos f first (backTo pos (starEach (e::es) X.env)) (backToKw pos (keywordEach [] X.env))):=by rfl) :
  PX X (.Call (.Attribute o name apos) (e::es) [] pos) (znY X name k ta t):=by
 intro pins s U H Q E I h
 refine PySem.W.methodCall_KW (pl:=pl) (wpAny_mono (he pins s U H _ (I.wish _) h) (fun u s1 ⟨x,H1,I1,rx,a,C,dx,fs,f,fd,ps,sp,ex,ea,l,c,hm,hb,F,q⟩=>?_) fun _ _ z=>z.elim) ht
 subst ex
 obtain rfl:u=Value.ref a:=rx
 refine zk6 I1.unwish ea c hm l ?_
 refine PySem.W.callWith_K (first:=[.ref a]) (h₀:=X.base) I.ok.mod.kin hm.kp (wpAny_mono (ha pos pins s1 U H1 _ I1 q) (fun us s2 ⟨vs,H2,I2,r,q2⟩=>⟨I2.unwish.kIn,?_⟩) fun _ _ z=>z.elim) hst hpl
 exact zmC (us:=.ref a::us) (vs:=.ref a::vs) F hr hb .nil I2.unwish (.cons rfl r) (by rw [List.append_nil];exact q2)
def xMeth (name:Str) (tab:Str->Option (List PV->Mo PV)) (fo:zd->Mo PV) (fs:zd->Mo (List PV)):zd->Mo PV:=fun env st=>(noErr (fo env st)).bind fun o st1=>methAt name tab o st1 fun n m=>(noErr (fs env st1)).bind fun ys st2=>m (.ref n::ys) st2
theorem zn0 {pl:Sem Bool}{name:Str}{tab:Str->Option (List PV->Mo PV)}(hT:∀c m,tab c=some m->MOk X.prog X.w X.K X.mg X.base c name k m) (ho:ME X.nox E0 o fo) (hr:Room k X.A) (ha:MA X.nox E0 (e::es) fs)
  (hst:starEach (e::es) X.env=(false,eval e X.env)::starEach es X.env:=by rfl) (hpl:(backTo pos (starEach es X.env)).any (·.1)=false:=by rfl)
  (hev:eval (.Call (.Attribute o name apos) (e::es) [] pos) X.env=(do
   let ov <-eval o X.env
   standAt apos.atName
   let (f,first) <-holding [ov] (getMethod ov name pl)
   callWith pos f first (backTo pos (starEach (e::es) X.env)) (backToKw pos (keywordEach [] X.env))):=by rfl) :
  MX X (.Call (.Attribute o name apos) (e::es) [] pos) (xMeth name tab fo fs) :=
 PX.weak (znZ (pl:=pl) ho hr ha hst hpl hev) fun U H Q E ⟨env,st,ρ,re,rs,h⟩=>⟨env,st,ρ,re,rs,wn h fun ag H1 x st1 e1 s1 h1 v rv=>by
  obtain ⟨n,c,ks,xs,m,rfl,hn,hk,hc,h1⟩:=znz h1
  obtain ⟨C,f,fd,ps,hC,cl,hm,hb,F⟩:=hT c m hc
  obtain ⟨p,rfl,hp⟩:=rv
  obtain ⟨C',dx,vs,hC',hH,hR,hl⟩:=s1.addr hn hp
  rw [hC] at hC'
  cases hC'
  exact ⟨p,C,dx,_,f,fd,ps,_,rfl,hH,zcf hk,cl,hm,hb,F,env,st1,ag,re.ext e1,s1,wn h1 fun ar H2 ys st2 e2 s2 h2 ws rws=>⟨.ref n::ys,st2,ar,⟨_,_,rfl,⟨p,rfl,e2.get hp⟩,rws⟩,s2,h2⟩⟩⟩
def trySuite (j:Nat):Fl->Mo Fl
 | .nx e,st=>.ok (.nx (e.set j none)) st
 | _,_=>.stuck
def za4 (i j:Nat) (cn:Str) (fv:zd->Mo PV) (suite:zd->Mo Fl):zd->Mo Fl:=fun env st=>match fv env st with
 | .ok x st1=>.ok (.nx (env.set i (some x))) st1
 | .err c ks xs st1=>if c=cn/\ks≠[] then (noErr (suite (env.set j (some (.exo c ks xs))) st1)).bind (trySuite j) else .stuck
 | .stuck=>.stuck
theorem zn1 (i j:Nat) {x n cn:Str}{value:Expr}{fv:zd->Mo PV}{gs:zd->Mo Fl}{b0:Stmt}{suite:List Stmt}{xp ap cp hp:Pos}{C:Addr}(hm:X.mg cn=some (.ref C)) (hC:ExOf X.K C) (hv:MX X value fv) (hsu:∀a,MSs (X.caught a) E0 (b0::suite) gs) (hN:X.N.Nodup)
  (hst:X.stack=X.env::X.outer:=by rfl) (hfr:X.env.frame=some X.env.locals:=by rfl) (hi:X.N[i]?=some x:=by rfl) (hx:Loc X.env.scope x:=by first|exact Or.inl rfl|exact Or.inr rfl) (hj:X.N[j]?=some n:=by rfl) (hn:X.env.scope.names.lookup n=some .local:=by rfl) (hg:Gl X cn:=by rfl)
  (hsw:swapsWith value (some (.Name x xp)) ap.line X.env=pure false:=by rfl) (hf:X.fn x=true\/X.env.scope.names.lookup x=some .local:=by first|exact .inl rfl|exact .inr rfl|assumption) (hdb:(cn==("__debug__" : Str))=false:=by decide) :
  MS X Er (.Try [.Assign [.Name x xp] value ap] [.ExceptHandler (some (.Name cn cp)) (some n) (b0::suite) hp] [] [] pos) (za4 i j cn fv gs) :=
 PS.weak (zmF (tsu:=sM X.K X.mg E0 gs) hN hi hx hj hn hv hg hm hC hsu hst hfr hsw hf hdb) fun D U H ⟨env,st,ρ,re,rs,h⟩=>by
  refine ⟨env,st,ρ,re,rs,?_⟩
  unfold za4 at h
  cases hr:fv env st with
  | ok y st1 =>
   rw [hr] at h
   exact fun ag H1 e1 s1 v rv=>h ag H1 e1 s1 _ ((re.ext e1).set i rv)
  | stuck=>rw [hr] at h;exact False.elim h
  | err c ks xs st1 =>
   simp only [hr] at h
   obtain ⟨⟨hcn,hk⟩,h2⟩:=Out.ifp h
   subst hcn
   intro ag H1 Cv d e1 s1 xr
   obtain ⟨C',rfl,hm',hd⟩:=xr
   rw [hm] at hm'
   cases hm'
   refine ⟨rfl,fun q hq=>?_⟩
   rcases hd with ⟨hk',_⟩|⟨dd,vs,rfl,hdd,hR,hl⟩
   ·exact absurd hk' hk
   ·have eq:Ext ag H1 ag (upd H1 q (exC C (some dd) q)):=Ext.new hq
    refine ⟨env.set j (some (.exo c ks xs)),st1,ag,((re.ext e1).ext eq).set j ⟨q,C,dd,vs,rfl,hm,yp,eq.imm _ _ hdd rfl,Rs.ext eq xs hR,hl⟩,s1.new hq,wn (Out.ext h2 (e1.trans eq)) fun ar H2 fl st2 e2 s2 h2=>?_⟩
    cases fl with
    | nx e=>exact fun aK r2=>Out.fl (D:=D) (fl:=.nx (e.set j none)) (E:=Er) h2 s2 _ (r2.unset j)
    | _=>exact False.elim h2
def kdAt (ks:List Str) (ps:List PV):PV->Mo PV
 | .str z,st=>optR ((ks.zip ps).lookup z) st
 | _,_=>.stuck
def KdF (X:Cx) (name:Str) (ks:List Str) (ps:List PV) (full:Bool):Prop:=∃O,X.mg name=some (.ref O)/\KD X O/\(∀z q,(ks.zip ps).lookup z=some q->∃u v,nsIn X.K O z=some (some u)/\RelV v u/\∀ρ H,R X.K X.mg ρ H q v)/\(full=true->∀z,(ks.zip ps).lookup z=none->nsIn X.K O z=some none)
theorem zdQ {name:Str} {ks:List Str} {ps:List PV} {full:Bool} (F:KdF X name ks ps full) (hb:ME X Er b fb) (hs:PlainIx b:=by exact fun _ _=>rfl) (hg:Gl X name:=by rfl) (hd:(name==("__debug__" : Str))=false:=by decide):ME X Er (.Subscript (.Name name p) b pos) (jc (kdAt ks ps) fb):=by
 obtain ⟨O,hm,kd,hl,_⟩:=F
 refine PE.weak (zf0 zmX (zdn (v:=.ref O) hg hm rfl hd) hb hs) fun U H Q ⟨env,st,ρ,re,rs,h⟩=>⟨env,st,ρ,re,rs,h.then fun ag H1 x st1 e1 s1 h1 v rv=>?_⟩
 cases x with
 | str z =>
  cases rv
  obtain ⟨q,hq,h1⟩:=wf h1
  obtain ⟨u,v,h2,h3,h4⟩:=hl z q hq
  exact ⟨O,z,u,v,rfl,rfl,kd,h2,h3,h1.now s1 _ (h4 _ _)⟩
 | _=>exact False.elim h1
def kdIn (neg:Bool) (ks:List Str) (ps:List PV) (full:Bool):PV->Mo PV
 | .str z,st=>if ((ks.zip ps).lookup z).isSome=true\/full=true then .ok (.bl (neg.xor ((ks.zip ps).lookup z).isSome)) st else .stuck
 | _,_=>.stuck
theorem zn2 {name:Str}{ks:List Str}{ps:List PV}{full:Bool}{O:Addr}(hl:∀z q,(ks.zip ps).lookup z=some q->∃u v,nsIn X.K O z=some (some u)/\RelV v u/\∀ρ H,R X.K X.mg ρ H q v) (hf:full=true->∀z,(ks.zip ps).lookup z=none->nsIn X.K O z=some none) {z:Str}(h:((ks.zip ps).lookup z).isSome=true\/full=true):∃r,nsIn X.K O z=some r/\r.isSome=((ks.zip ps).lookup z).isSome:=by
 cases hq:(ks.zip ps).lookup z with
 | some q=>obtain ⟨u,v,h2,_⟩:=hl z q hq;exact ⟨_,h2,rfl⟩
 | none =>
  rw [hq] at h
  rcases h with h|h
  ·cases h
  ·exact ⟨none,hf h z hq,rfl⟩
theorem zn3 {name:Str} {ks:List Str} {ps:List PV} {full:Bool} (F:KdF X name ks ps full) (ha:ME X Er a fa) (hg:Gl X name:=by rfl) (hd:(name==("__debug__" : Str))=false:=by decide) (hk:behindInMarks .NotIn (.Name name p)=false:=by with_unfolding_all rfl):MT X Er (.Compare a [.NotIn] [.Name name p] pos) (mB (jc (kdIn true ks ps full) fa)):=by
 obtain ⟨O,hm,kd,hl,hf⟩:=F
 refine PT.weak (zfI zmY ha (zdn (v:=.ref O) hg hm rfl hd) hk) fun U H Q h=>?_
 obtain ⟨env,st,ρ,re,rs,h⟩:=zb5 h
 refine ⟨env,st,ρ,re,rs,h.then fun ag H1 x st1 e1 s1 h1 v rv=>?_⟩
 cases x with
 | str z =>
  cases rv
  obtain ⟨q,h1⟩:=Out.ifp h1
  obtain ⟨r,h2,h3⟩:=zn2 (name:=name) hl hf q
  have:=Out.now h1 s1 _ rfl
  exact ⟨O,z,r,rfl,rfl,kd,h2,by rw [h3];simpa using this⟩
 | _=>exact False.elim h1
def yS:PV->PV->Mo PV
 | .ref n,y,st=>ye st n fun xs=>if xs.length<lim then .ok .non (st.set n (.lst (xs++[y]))) else .stuck
 | _,_,_=>.stuck
def zch:PV->PV->Mo PV
 | .ref n,.ref k,st=>ye st n fun xs=>ye st k fun ys=>if xs.length+ys.length<=lim then .ok .non (st.set n (.lst (xs++ys))) else .stuck
 | _,_,_=>.stuck
theorem R.refL {ρ:List Addr}{H:Hp}{st:Sto}{n:Nat}{xs:List PV}{v:V}(s:StR K mg ρ H st) (r:R K mg ρ H (.ref n) v) (h:st[n]?=some (.lst xs)):∃a vs,v=.ref a/\ρ[n]?=some a/\H a=some (.lst vs)/\Rs K mg ρ H xs vs:=by
 obtain ⟨a,rfl,ha⟩:=r
 obtain ⟨vs,h1,h2⟩:=s.addr h ha
 exact ⟨a,vs,rfl,ha,h1,h2⟩
def recL:PV->Mo PV
 | .ref n,st=>ye st n fun _=>.ok (.ref n) st
 | _,_=>.stuck
def ja (op:PV->PV->Mo PV) (fo fv:zd->Mo PV):zd->Mo PV:=fun env st=>(fo env st).bind fun o st1=>(recL o st1).bind fun o st1=>(fv env st1).bind fun y st2=>op o y st2
theorem zdR {α:Type}{ρ:List Addr}{H:Hp}{x:PV}{st:Sto}{f:PV->Mo α}{good:List Addr->Hp->α->Sto->Prop}(h:Out K mg ρ H ((recL x st).bind f) good Er):∃n xs,x=.ref n/\st[n]?=some (.lst xs)/\Out K mg ρ H (f (.ref n) st) good Er:=by
 cases x with
 | ref n =>
  unfold recL ye at h
  cases hn:st[n]? with
  | none=>simp only [hn] at h;exact False.elim h
  | some so =>
   cases so with
   | lst xs=>simp only [hn] at h;exact ⟨n,xs,rfl,hn,h⟩
   | _=>simp only [hn] at h;exact False.elim h
 | _=>exact False.elim h
theorem zci {cpos:Pos} (ho:ME X Er o fo) (he:ME X Er e fa) (hbase:attributeBase o "append" X.env (eval o X.env)=eval o X.env:=by rfl)
  (hfew:((backTo cpos (starEach [e] X.env)).all (fun x=>!x.1)&&(backToKw cpos (keywordEach [] X.env)).all (fun x=>x.1.isSome)&&decide ([e].length+([]:List Keyword).length+(if ([]:List Keyword).isEmpty then 0 else 1)<30))=true:=by rfl)
  (hline:(apos.endLine==cpos.line)=true:=by rfl) (hs:starEach [e] X.env=(false,eval e X.env)::starEach [] X.env:=by rfl) (hpl:(backTo cpos (starEach [] X.env)).any (·.1)=false:=by rfl):ME X Er (.Call (.Attribute o "append" apos) [e] [] cpos) (ja yS fo fa) :=
 PE.weak (zds PySem.F.plainAttrs_list PySem.F.slot_list_append PySem.F.type_list_append zlT ho (zbT he zbS hs) hbase hfew hline hs hpl) fun U H Q ⟨env,st,ρ,re,rs,h⟩=>⟨env,st,ρ,re,rs,h.then fun ag H1 x st1 e1 s1 h1 v rv=>by
  obtain ⟨n,xs,rfl,hn,h1⟩:=zdR h1
  obtain ⟨p,vs,rfl,hp,k1,k2⟩:=R.refL s1 rv hn
  refine ⟨.inl ⟨rfl,vs,SqL.of k1⟩,env,st1,ag,re.ext e1,s1,h1.then fun ar H2 y st2 e2 s2 h2 w rw=>?_⟩
  obtain ⟨xs2,hn2,h2⟩:=jf h2
  obtain ⟨c,h2⟩:=Out.ifp h2
  obtain ⟨p',vs2,e3,hp2,k3,k4⟩:=R.refL s2 (R.ext e2 _ rv) hn2
  cases e3
  have ew:Ext ar H2 ar (upd H2 p (.lst (vs2++[w]))):=Ext.write k3 rfl
  refine ⟨p,vs2,w,rfl,rfl,k3,?_,h2 ar _ ew (s2.write hp2 ew ⟨vs2++[w],yp,Rs.ext ew _ (k4.append ⟨w,[],rfl,rw,rfl⟩)⟩) _ rfl⟩
  rw [<-k4.len,sizeLine_eq];have:xs2.length<1000000:=c;omega⟩
theorem zn4 {cpos:Pos} (ho:ME X Er o fo) (he:ME X Er e fa) (hbase:attributeBase o "extend" X.env (eval o X.env)=eval o X.env:=by rfl)
  (hfew:((backTo cpos (starEach [e] X.env)).all (fun x=>!x.1)&&(backToKw cpos (keywordEach [] X.env)).all (fun x=>x.1.isSome)&&decide ([e].length+([]:List Keyword).length+(if ([]:List Keyword).isEmpty then 0 else 1)<30))=true:=by rfl)
  (hline:(apos.endLine==cpos.line)=true:=by rfl) (hs:starEach [e] X.env=(false,eval e X.env)::starEach [] X.env:=by rfl) (hpl:(backTo cpos (starEach [] X.env)).any (·.1)=false:=by rfl):ME X Er (.Call (.Attribute o "extend" apos) [e] [] cpos) (ja zch fo fa) :=
 PE.weak (zds PySem.F.plainAttrs_list PySem.F.slot_list_extend PySem.F.type_list_extend zlV ho (zbT he zbS hs) hbase hfew hline hs hpl) fun U H Q ⟨env,st,ρ,re,rs,h⟩=>⟨env,st,ρ,re,rs,h.then fun ag H1 x st1 e1 s1 h1 v rv=>by
  obtain ⟨n,xs,rfl,hn,h1⟩:=zdR h1
  obtain ⟨p,vs,rfl,hp,k1,k2⟩:=R.refL s1 rv hn
  refine ⟨.inl ⟨rfl,vs,SqL.of k1⟩,env,st1,ag,re.ext e1,s1,h1.then fun ar H2 y st2 e2 s2 h2 w rw=>?_⟩
  cases y with
  | ref m =>
   obtain ⟨xs2,hn2,h2⟩:=jf h2
   obtain ⟨ys2,hm2,h2⟩:=jf h2
   obtain ⟨c,h2⟩:=Out.ifp h2
   obtain ⟨p',vs2,e3,hp2,k3,k4⟩:=R.refL s2 (R.ext e2 _ rv) hn2
   cases e3
   obtain ⟨q,ws2,rfl,hq2,k5,k6⟩:=R.refL s2 rw hm2
   have ew:Ext ar H2 ar (upd H2 p (.lst (vs2++ws2))):=Ext.write k3 rfl
   exact ⟨p,q,vs2,ws2,rfl,rfl,k3,k5,by rw [<-k4.len,<-k6.len];exact yQ c,h2 ar _ ew (s2.write hp2 ew ⟨vs2++ws2,yp,Rs.ext ew _ (k4.append k6)⟩) _ rfl⟩
  | _=>exact False.elim h2⟩
end
def endOf:Fl->Mo PV
 | .rt v,st=>.ok v st
 | .nx _,st=>.ok .non st
 | _,_=>.stuck
def zF (np nN:Nat) (g:zd->Mo Fl):List PV->Mo PV:=fun xs st=>if xs.length=np then (g (xs.map some++List.replicate (nN-np) none) st).bind endOf else .stuck
section
variable {P:Program}{w:World}{K:Frag}{mg:Str->Option Value}{base:Heap}
abbrev cxD (P:Program) (w:World) (K:Frag) (mg:Str->Option Value) (base:Heap) (N:List Str) (qual:Str) (scope:Scope) (f:Addr) (cd:Value) (A:Around) (outer:List Env) (s:Shared) (H:Hp) (E:XK):Cx :=
 (cxOf (CXe P w) P w K mg base N qual scope f cd A outer s H E).wish (XA (cxOf (CXe P w) P w K mg base N qual scope f cd A outer s H E) E)
theorem zn5 {N:List Str}{np:Nat}{ρ:List Addr}{H:Hp}{xs:List PV}{vs:List V}(r:Rs K mg ρ H xs vs) (h:xs.length=np):EnvR K mg ρ H (xs.map some++List.replicate (N.length-np) none) (L2.start N vs):=by
 have hl:=r.len
 refine ⟨by simp [L2.start,<-hl,h],fun i x hx=>?_⟩
 by_cases hi:i<xs.length
 ·rw [List.getElem?_append_left (by simpa using hi)] at hx
  simp only [List.getElem?_map] at hx
  cases hq:xs[i]? with
  | none=>rw [hq] at hx;cases hx
  | some y =>
   rw [hq] at hx
   cases hx
   obtain ⟨v,hv,rv⟩:=r.get hq
   refine ⟨v,?_,rv⟩
   unfold L2.start
   rw [List.getElem?_append_left (by simp;omega)]
   simp [hv]
 ·rw [List.getElem?_append_right (by simpa using hi)] at hx
  rw [List.getElem?_replicate] at hx
  split at hx<;>cases hx
theorem zcj {x qual:Str}{sm:Stmt}{f:Addr}{fd:FuncData}{N ps:List Str}{k:Nat}{g:zd->Mo Fl}(F:Fun K x qual sm f fd) (S:FnScope N ps (zB sm))
  (hb:∀(cdv:Value) (A:Around) (outer:List Env) (s:Shared) (H:Hp) (E:XK),Room k (A.deeper (PyProof.Rows.envOfC qual (zB sm) s.heap.objs.size f cdv))->MSs (cxD P w K mg base N qual (zB sm) f cdv A outer s H E) E (yM sm) g) :
  FnOk P w K mg base (CXe P w) (k+1) f fd ps (spM K mg (zF ps.length N.length g)):=by
 refine F.okT S (fun vs H Q E h=>?_) fun cdv A outer s H vs Q E hr h=>⟨_,hb cdv A outer s H E hr,?_⟩
 ·obtain ⟨xs,st,ρ,r,_,h⟩:=h
  obtain ⟨hl,_⟩:=Out.ifp h
  rw [<-r.len];exact hl
 ·obtain ⟨xs,st,ρ,r,rs,h⟩:=h
  obtain ⟨hl,h⟩:=Out.ifp h
  refine ⟨_,st,ρ,zn5 r hl,rs,h.then fun ag H1 fl st1 e1 s1 h1=>?_⟩
  cases fl with
  | rt v=>exact fun u ru=>Out.now (x:=v) h1 s1 u ru
  | nx e=>exact fun ai _=>Out.now (x:=PV.non) h1 s1 _ rfl
  | _=>exact False.elim h1
theorem fok {x:Str}{f:Addr}{fd:FuncData}{ps:List Str}{k:Nat}{m:List PV->Mo PV}{sm:Stmt}{qual nm:Str}(hm:mg x=some (.ref f)) (F:Fun K nm qual sm f fd) (hb:Binds K fd ps []) (h:FnOk P w K mg base (CXe P w) k f fd ps (spM K mg m)):FOk P w K mg base x k m:=⟨f,fd,ps,hm,F.kp,hb,h⟩
end
section
variable {X:Cx}{Er:XK}{P:Program}{w:World}{K:Frag}{mg:Str->Option Value}{base:Heap}{pos:Pos}{x:Str}{st:Stmt}
theorem zw {k:Nat}{A:Around}(hr:Room k A):A.units+200<cLine:=by have:=hr.un;omega
def zgJ:zd->Mo Fl:=fun _ _=>.stuck
theorem zn6 {n:Int} (h:∃t,X.mg x=some (.int n t)) (hg:Gl X x:=by rfl) (hd:(x==("__debug__" : Str))=false:=by decide):ME X Er (.Name x pos) (mC (.int n)):=let ⟨t,h⟩:=h;zm1 (v:=.int n) h ⟨t,rfl⟩ (fun _ _=>rfl) hg hd
def FnF (K:Frag) (mg:Str->Option Value) (x:Str) (sm:Stmt) (ps:List Str):Prop:=∃f fd,mg x=some (.ref f)/\Fun K x x sm f fd/\Binds K fd ps []
def MtF (K:Frag) (mg:Str->Option Value) (c name qual:Str) (sm:Stmt) (ps:List Str):Prop:=∃C f fd,mg c=some (.ref C)/\Cls K C/\Meth K C name f/\Fun K name qual sm f fd/\Binds K fd ps []
def NwF (K:Frag) (mg:Str->Option Value) (c qual:Str) (sm:Stmt) (ps:List Str):Prop:=∃C f fd,mg c=some (.ref C)/\Mk K C f/\Fun K "__init__" qual sm f fd/\Binds K fd ps []
def XnF (K:Frag) (mg:Str->Option Value) (c fld qual:Str) (sm:Stmt):Prop:=∃C f fd,mg c=some (.ref C)/\ExMk K C f/\ExCls K C fld/\Fun K "__init__" qual sm f fd/\Binds K fd ["self", fld] []
theorem FnF.ok {sm:Stmt}{N ps:List Str}{k:Nat}{g:zd->Mo Fl}(h:FnF K mg x sm ps) (S:FnScope N ps (zB sm))
  (hb:∀(f:Addr) (cdv:Value) (A:Around) (outer:List Env) (s:Shared) (H:Hp) (E:XK),Room k (A.deeper (PyProof.Rows.envOfC x (zB sm) s.heap.objs.size f cdv))->MSs (cxD P w K mg base N x (zB sm) f cdv A outer s H E) E (yM sm) g) :
  FOk P w K mg base x (k+1) (zF ps.length N.length g):=by
 obtain ⟨f,fd,hm,F,b⟩:=h
 exact fok hm F b (zcj F S (hb f))
theorem MtF.ok {c name qual:Str}{sm:Stmt}{N ps:List Str}{k:Nat}{g:zd->Mo Fl}(h:MtF K mg c name qual sm ps) (S:FnScope N ps (zB sm))
  (hb:∀(f:Addr) (cdv:Value) (A:Around) (outer:List Env) (s:Shared) (H:Hp) (E:XK),Room k (A.deeper (PyProof.Rows.envOfC qual (zB sm) s.heap.objs.size f cdv))->MSs (cxD P w K mg base N qual (zB sm) f cdv A outer s H E) E (yM sm) g) :
  MOk P w K mg base c name (k+1) (zF ps.length N.length g):=by
 obtain ⟨C,f,fd,hm,cl,mt,F,b⟩:=h
 exact ⟨C,f,fd,ps,hm,cl,mt,b,zcj F S (hb f)⟩
theorem NwF.ok {c qual:Str}{sm:Stmt}{N ps:List Str}{k:Nat}{g:zd->Mo Fl}(h:NwF K mg c qual sm ps) (S:FnScope N ps (zB sm))
  (hb:∀(f:Addr) (cdv:Value) (A:Around) (outer:List Env) (s:Shared) (H:Hp) (E:XK),Room k (A.deeper (PyProof.Rows.envOfC qual (zB sm) s.heap.objs.size f cdv))->MSs (cxD P w K mg base N qual (zB sm) f cdv A outer s H E) E (yM sm) g) :
  NOk P w K mg base c (k+1) (zF ps.length N.length g):=by
 obtain ⟨C,f,fd,hm,mk,F,b⟩:=h
 exact ⟨C,f,fd,ps,hm,mk,b,zcj F S (hb f)⟩
theorem XnF.ok {c fld qual:Str} {sm:Stmt} (h:XnF K mg c fld qual sm) (S:FnScope ["self", fld] ["self", fld] (zB sm))
  (hb:∀(C f:Addr) (cdv:Value) (A:Around) (outer:List Env) (s:Shared) (H:Hp) (E:XK),ExCls K C fld->PSs (cxOf (CXe P w) P w K mg base ["self", fld] qual (zB sm) f cdv A outer s H E) (yM sm) (zgt K (zbO 0) (zbO 1) fld)) :
  XOk P w K mg base c fld:=by
 obtain ⟨C,f,fd,hm,M,xc,F,b⟩:=h
 refine ⟨C,f,fd,hm,M,F.okX S (fun vs H Q E h=>?_) (fun cdv A outer s H vs Q E hr h=>⟨_,hb C f cdv A outer s H E xc,?_⟩),b⟩
 ·obtain ⟨a,t,y,rfl,_⟩:=h;rfl
 ·obtain ⟨a,t,y,rfl,ha,q⟩:=h
  exact ⟨y,rfl,.ref a,rfl,a,C,t,rfl,ha,xc,fun d hd=>q d hd⟩
theorem XnF.tr {c fld qual:Str}{sm:Stmt}(h:XnF K mg c fld qual sm):∃C,mg c=some (.ref C)/\ExOf K C:=by
 obtain ⟨C,f,fd,hm,M,_⟩:=h
 exact ⟨C,hm,M.of⟩
theorem zn7 (i j:Nat) {x n cn:Str}{value:Expr}{fv:zd->Mo PV}{gs:zd->Mo Fl}{b0:Stmt}{suite:List Stmt}{xp ap cp hp:Pos}(hC:∃C,X.mg cn=some (.ref C)/\ExOf X.K C) (hv:MX X value fv) (hsu:∀a,MSs (X.caught a) E0 (b0::suite) gs) (hN:X.N.Nodup)
  (hst:X.stack=X.env::X.outer:=by rfl) (hfr:X.env.frame=some X.env.locals:=by rfl) (hi:X.N[i]?=some x:=by rfl) (hx:Loc X.env.scope x:=by first|exact Or.inl rfl|exact Or.inr rfl) (hj:X.N[j]?=some n:=by rfl) (hn:X.env.scope.names.lookup n=some .local:=by rfl) (hg:Gl X cn:=by rfl)
  (hsw:swapsWith value (some (.Name x xp)) ap.line X.env=pure false:=by rfl) (hf:X.fn x=true\/X.env.scope.names.lookup x=some .local:=by first|exact .inl rfl|exact .inr rfl|assumption) (hdb:(cn==("__debug__" : Str))=false:=by decide) :
  MS X Er (.Try [.Assign [.Name x xp] value ap] [.ExceptHandler (some (.Name cn cp)) (some n) (b0::suite) hp] [] [] pos) (za4 i j cn fv gs):=by
 obtain ⟨C,h1,h2⟩:=hC
 exact zn1 i j h1 h2 hv hsu hN hst hfr hi hx hj hn hg hsw hf hdb
theorem zar {p:Addr} {oc:Value} {od:Option Addr} {its:Array Value} {n:Nat} {sl:Array (Option Value)} {xs:List PV} {vs:List V} (hl:K.lookup p=some ⟨oc,od,.seq its n,sl⟩) (hc:oc=.type "tuple") (hz:its.size<=1000) (hv:Vals vs its.toList) (hr:∀ρ H,Rs K mg ρ H xs vs):∀ρ H,R K mg ρ H (.tup xs) (.ref p) :=
 fun ρ H=>⟨p,vs,rfl,.inr ⟨_,its,n,hl,hc,rfl,by rw [sizeLine_eq];omega,hv⟩,hr ρ H⟩
theorem yw:bootBuiltins "len" = some (.builtin "len"):=by decide +kernel
theorem jD:bootBuiltins "isinstance" = some (.builtin "isinstance"):=by decide +kernel
theorem zgK:bootBuiltins "int" = some (.type "int"):=by decide +kernel
theorem zn8:bootBuiltins "bool" = some (.type "bool"):=by decide +kernel
theorem zdS:bootBuiltins "str" = some (.type "str"):=by decide +kernel
theorem jR:bootBuiltins "tuple" = some (.type "tuple"):=by decide +kernel
theorem za5:bootBuiltins "dict" = some (.type "dict"):=by decide +kernel
theorem zgL:bootBuiltins "list" = some (.type "list"):=by decide +kernel
end
theorem FOk.mono {P:Program}{w:World}{K:Frag}{mg:Str->Option Value}{base:Heap}{x:Str}{j k:Nat}{m:List PV->Mo PV}(h:FOk P w K mg base x j m) (hjk:j<=k):FOk P w K mg base x k m:=by
 obtain ⟨f,fd,ps,h1,h2,h3,h4⟩:=h
 exact ⟨f,fd,ps,h1,h2,h3,h4.mono hjk⟩
theorem MOk.mono {P:Program}{w:World}{K:Frag}{mg:Str->Option Value}{base:Heap}{c x:Str}{j k:Nat}{m:List PV->Mo PV}(h:MOk P w K mg base c x j m) (hjk:j<=k):MOk P w K mg base c x k m:=by
 obtain ⟨C,f,fd,ps,h1,h2,h3,h4,h5⟩:=h
 exact ⟨C,f,fd,ps,h1,h2,h3,h4,h5.mono hjk⟩
def spLaw (K:Frag):Sp:=fun vs H Q _=>∃(a:Addr) (ns:List Int),vs=[.ref a]/\SqL K H a (ns.map V.int)/\Only H/\ns.length<=63/\∀H',Q (.bl true) H'
theorem zgM {K:Frag}{mg:Str->Option Value}{ρ:List Addr}{H:Hp}:∀ns:List Int,Rs K mg ρ H (ns.map PV.int) (ns.map V.int)
 | []=>rfl
 | n::ns=>⟨_,_,rfl,rfl,zgM ns⟩
theorem zn9 {K:Frag}{H:Hp}{a:Addr}{vs:List V}(h:SqL K H a vs) (o:Only H):FrL K H a vs:=by
 rcases h with (h|⟨ob,h⟩)|h
 ·rcases o a with z|⟨ob,xs,z⟩
  ·rw [h] at z;cases z
  ·rw [h] at z;cases z
 ·exact .inl ⟨ob,h⟩
 ·exact .inr h
theorem zoa {P:Program}{w:World}{K:Frag}{mg:Str->Option Value}{base:Heap}{k:Nat}{f:Addr}{fd:FuncData}{ps:List Str}{m:List PV->Mo PV}(F:FnOk P w K mg base (CXe P w) k f fd ps (spM K mg m)) (h:∀ns:List Int,ns.length<=63->∃st,m [.frl (ns.map PV.int)] []=.ok (.bl true) st):FnOk P w K mg base (CXe P w) k f fd ps (spLaw K) :=
 F.imp fun vs H Q E ⟨a,ns,e,hs,ho,hl,q⟩=>by
  subst e
  obtain ⟨st,hm⟩:=h ns hl
  refine ⟨[.frl (ns.map PV.int)],[],[],⟨_,[],rfl,⟨a,_,rfl,zn9 hs ho,zgM ns⟩,rfl⟩,⟨rfl,List.nodup_nil,fun n so e=>by simp at e⟩,?_⟩
  rw [hm]
  intro ah H' _ _ v rv
  cases rv
  exact q H'
theorem walkM {l:PySem.W.OpenLaw}{k:Nat}{x:Str}{q:Program}{loose:List Str}{XP:(Str->Option Value)->Heap->Prop}{YP:World->Heap->Prop}{d:DefRec}{K:Params->PySem.W.Frag}(hn:l.most=some 63) (hdf:d.params.defaults=[]) (hr:Room k callerA)
  (hY:∀(w:World) (h:Heap),YP w h->(K w.params).In h)
  (F:∀(w:World) (mg:Str->Option Value) (fa:Addr) (h:Heap),(K w.params).In h->h.Ns mainGlobals mg->mg d.name=some (.ref fa) ->
   ∃fd:FuncData,(∀(s:Shared) (u:Value),BindsTo s fd ⟨[u],[]⟩ [(x,u)])/\∀base:Heap,(K w.params).In base->base.Ns mainGlobals mg->FnOk l.prog w (K w.params) mg base (CXe l.prog w) k fa fd [x] (spLaw (K w.params))) :
  PySem.W.WalkO q loose XP YP l.row.toRowW d [] (fun f vs=>PySem.call f vs) :=
 L2.zl2 (n:=63) (k:=k) (x:=x) (CX:=fun w=>CXe l.prog w) (sp:=fun w=>spLaw (K w.params)) hn (by decide) hdf hr hY F (fun _ _ a ns hl ho hS=>⟨a,ns,rfl,hS,ho,hl,fun _=>rfl⟩) fun w H s e s' ⟨_,_,_,_,_,_,_,_,_,_,_,_,_,_,_,z⟩=>z
section
variable {α β:Type}{env:zd}{st st1:Sto}{fa fb fc fo fv:zd->Mo PV}{fs:zd->Mo (List PV)}{ga gb:zd->Mo Bool}{g g':zd->Mo Fl}{op op':PV->PV->Mo PV}{o1:PV->Mo PV}{m:List PV->Mo PV}
@[simp] theorem zJ (a:α) (f:α->Mo β):(Res.ok a st).bind f=f a st:=(rfl)
@[simp] theorem zs2 (c:Str) (ks:List Str) (xs:List PV) (f:α->Mo β):(Res.err c ks xs st:Res α).bind f=.err c ks xs st:=(rfl)
@[simp] theorem zs3 (p:Prop) [Decidable p] (a b:Res α) (f:α->Mo β):(if p then a else b).bind f=if p then a.bind f else b.bind f:=by split<;>rfl
@[simp] theorem j0 (i:Nat):zc i env st=(match env[i]? with|some (some x)=>.ok x st|_=>.stuck):=(rfl)
@[simp] theorem zgN (x:PV):mC x env st=.ok x st:=(rfl)
@[simp] theorem zck:zg op fa fb env st=(fa env st).bind fun x st1=>(fb env st1).bind fun y st2=>op x y st2:=(rfl)
@[simp] theorem zs4:jc o1 fa env st=(fa env st).bind o1:=(rfl)
@[simp] theorem zob:mB fa env st=(fa env st).bind asB:=(rfl)
@[simp] theorem zgO (b:Bool):asB (.bl b) st=.ok b st:=(rfl)
@[simp] theorem zs5:we op op' fa fb fc env st=(fa env st).bind fun x st1=>(fb env st1).bind fun y st2=>(op x y st2).bind fun k st3=>(asB k st3).bind fun b st4=>if b=true then (fc env st4).bind fun z st5=>op' y z st5 else .ok (.bl false) st4:=(rfl)
@[simp] theorem zgP:jd ga gb env st=(ga env st).bind fun c st1=>if c=true then gb env st1 else .ok false st1:=(rfl)
@[simp] theorem zgQ:jN ga gb env st=(ga env st).bind fun c st1=>if c=true then .ok true st1 else gb env st1:=(rfl)
@[simp] theorem zoc:je ga env st=(ga env st).bind fun c st1=>.ok (!c) st1:=(rfl)
@[simp] theorem zod:jY fa fb env st=(fa env st).bind fun x st1=>(asB x st1).bind fun c st2=>if c=true then fb env st2 else .ok (.bl false) st2:=(rfl)
@[simp] theorem zs6:zdC fa env st=(fa env st).bind fun x st1=>(asB x st1).bind fun c st2=>.ok (.bl (!c)) st2:=(rfl)
@[simp] theorem zas:zj env st=.ok [] st:=(rfl)
@[simp] theorem zat:ze fa fs env st=(fa env st).bind fun x st1=>(fs env st1).bind fun xs st2=>.ok (x::xs) st2:=(rfl)
@[simp] theorem zoe:yb fs env st=(fs env st).bind fun xs st1=>if xs.length<=lim then .ok (.tup xs) st1 else .stuck:=(rfl)
@[simp] theorem zgR:ji fs env st=(fs env st).bind fun xs st1=>if xs.length<=lim then .ok (.ref st1.length) (st1++[.lst xs]) else .stuck:=(rfl)
@[simp] theorem zgS (fl fu:zd->Mo (Option Int)):yo fa fl fu env st=(fa env st).bind fun x st1=>(fl env st1).bind fun l st2=>(fu env st2).bind fun u st3=>y4 x l u st3:=(rfl)
@[simp] theorem zof:pNone env st=.ok none st:=(rfl)
@[simp] theorem zgT:pSome fa env st=(fa env st).bind asI:=(rfl)
@[simp] theorem zgU (i:Int):asI (.int i) st=.ok (some i) st:=(rfl)
@[simp] theorem za6:zl m fs env st=(fs env st).bind m:=(rfl)
@[simp] theorem zgV (C:Int->Int->Bool) (f:Int->Int->Int) (i j:Int):opI C f (.int i) (.int j) st=if C i j=true then .ok (.int (f i j)) st else .stuck:=(rfl)
@[simp] theorem zs7 (f:Int->Int->Bool) (i j:Int):opB f (.int i) (.int j) st=.ok (.bl (f i j)) st:=(rfl)
@[simp] theorem zs8 (i j:Int):zP (.int i) (.int j) st=.ok (.int (i+j)) st:=(rfl)
@[simp] theorem zgW (x y:Str):zP (.str x) (.str y) st=if x.length+y.length<=lim then .ok (.str (x++y)) st else .stuck:=(rfl)
@[simp] theorem zgX (xs ys:List PV):zP (.tup xs) (.tup ys) st=if xs.length+ys.length<=lim then .ok (.tup (xs++ys)) st else .stuck:=(rfl)
@[simp] theorem w5 (x:PV):optR (some x) st=.ok x st:=(rfl)
@[simp] theorem zcl (xs:List PV) (l u:Option Int):y4 (.tup xs) l u st=.ok (.tup (cutP xs l u)) st:=(rfl)
@[simp] theorem zs9 (xs:List PV) (l u:Option Int):y4 (.frl xs) l u st=.ok (.ref st.length) (st++[.lst (cutP xs l u)]):=(rfl)
@[simp] theorem zog (k:Bool):zdL [.bl k] st=.ok (.int (if k then 1 else 0)) st:=(rfl)
@[simp] theorem zta (x y:PV):yh x y st=if plain x=true/\plain y=true/\dep x<=150 then .ok (.bl (eqP x y)) st else .stuck:=(rfl)
@[simp] theorem ztb (x y:PV):yV x y st=if plain x=true/\plain y=true/\dep x<=150 then .ok (.bl (!eqP x y)) st else .stuck:=(rfl)
@[simp] theorem zgY:zQ env st=.ok (.nx env) st:=(rfl)
@[simp] theorem yN:zp g g' env st=(g env st).bind (flowOn g'):=(rfl)
@[simp] theorem jE:flowOn g (.nx env) st=g env st:=(rfl)
@[simp] theorem zoh (x:PV):flowOn g (.rt x) st=.ok (.rt x) st:=(rfl)
@[simp] theorem za7 (i:Nat):zx i fa env st=(fa env st).bind fun x st1=>.ok (.nx (env.set i (some x))) st1:=(rfl)
@[simp] theorem zoi:yR fa env st=(fa env st).bind fun _ st1=>.ok (.nx env) st1:=(rfl)
@[simp] theorem zoj:zI fa env st=(fa env st).bind fun x st1=>.ok (.rt x) st1:=(rfl)
@[simp] theorem za8:zN ga g g' env st=(ga env st).bind fun c st1=>if c=true then g env st1 else g' env st1:=(rfl)
@[simp] theorem ztc (c f:Str):wm c f fa env st=(fa env st).bind fun x st1=>.err c [f] [x] st1:=(rfl)
@[simp] theorem ztd (i j:Nat) (x y:PV):g2 i j (.tup [x,y]) env=some ((env.set i (some x)).set j (some y)):=(rfl)
@[simp] theorem zgZ (i:Nat) (x:PV):gN i x env=some (env.set i (some x)):=(rfl)
@[simp] theorem zok (x:PV):endOf (.rt x) st=.ok x st:=(rfl)
@[simp] theorem zte (e:zd):endOf (.nx e) st=.ok .non st:=(rfl)
@[simp] theorem ztf (i:Nat):za2 i op fa env st=(zc i env st).bind fun x st0=>(fa env st0).bind fun y st1=>(op x y st1).bind fun z st2=>.ok (.nx (env.set i (some z))) st2:=(rfl)
@[simp] theorem ztg (i j:Int):ipAdd (.int i) (.int j) st=.ok (.int (i+j)) st:=(rfl)
@[simp] theorem zcm:yF fa env st=(fa env st).bind seqOf:=(rfl)
@[simp] theorem zth (n:Nat):seqOf (.ref n) st=ye st n fun _=>.ok (.rf n) st:=(rfl)
@[simp] theorem zti:zdO fs env st=(fs env st).bind za3:=(rfl)
@[simp] theorem ztj (xs ys:List PV):za3 [.tup xs,.tup ys] st=.ok (.im (jQ xs ys)) st:=(rfl)
@[simp] theorem zcn (src:zd->Mo Sq) (gt:PV->zd->Option zd):jH src gt g env st=(src env st).bind fun q st1=>forS gt g q env st1:=(rfl)
@[simp] theorem za9 (gt:PV->zd->Option zd) (xs:List PV):forS gt g (.im xs) env st=forL gt g xs env st:=(rfl)
@[simp] theorem ztk (gt:PV->zd->Option zd):forL gt g [] env st=.ok (.nx env) st:=(rfl)
@[simp] theorem ztl (i:Int):Mi.plain (.int i)=true:=(rfl)
@[simp] theorem ztm (x:Str):Mi.plain (.str x)=true:=(rfl)
@[simp] theorem ztn (x:PV) (xs:List PV):plains (x::xs)=(Mi.plain x&&plains xs):=(rfl)
@[simp] theorem zto (i:Int):dep (.int i)=0:=(rfl)
@[simp] theorem ztp (x:Str):dep (.str x)=0:=(rfl)
@[simp] theorem ztq (x:PV) (xs:List PV):deps (x::xs)=max (dep x) (deps xs):=(rfl)
@[simp] theorem ztr (a b:Int):eqP (.int a) (.int b)=(a==b):=(rfl)
@[simp] theorem zts (a b:Str):eqP (.str a) (.str b)=(a==b):=(rfl)
@[simp] theorem ztt (i j:Nat) (cn:Str):za4 i j cn fv g env st=(match fv env st with
 | .ok x st1=>.ok (.nx (env.set i (some x))) st1
 | .err c ks xs st1=>if c=cn/\ks≠[] then (noErr (g (env.set j (some (.exo c ks xs))) st1)).bind (trySuite j) else .stuck
 | .stuck=>.stuck):=(rfl)
@[simp] theorem zau (a:α):noErr (Res.ok a st)=.ok a st:=(rfl)
@[simp] theorem ztu (j:Nat) (e:zd):trySuite j (.nx e) st=.ok (.nx (e.set j none)) st:=(rfl)
@[simp] theorem ztv:isNon .non=true:=(rfl)
@[simp] theorem ztw (name:Str) (tab:Str->Option (List PV->Mo PV)):xMeth name tab fo fs env st=(noErr (fo env st)).bind fun o st1=>methAt name tab o st1 fun n m=>(noErr (fs env st1)).bind fun ys st2=>m (.ref n::ys) st2:=(rfl)
theorem yj {n:Nat}{xs:List PV}(h:st[n]?=some (.lst xs)) (k:List PV->Res α):ye st n k=k xs:=by unfold ye;rw [h]
theorem zco {n:Nat}{c:Str}{ks:List Str}{xs:List PV}(h:st[n]?=some (.ins c ks xs)) (k:Str->List Str->List PV->Res α):jj st n k=k c ks xs:=by unfold jj;rw [h]
@[simp] theorem zg0 (xs:List PV) (k:List PV->Res α):ye (st++[.lst xs]) st.length k=k xs:=yj (by simp) k
theorem zg1 {name:Str}{tab:Str->Option (List PV->Mo PV)}{n:Nat}{c:Str}{ks:List Str}{xs:List PV}{m:List PV->Mo PV}(h:st[n]?=some (.ins c ks xs)) (hk:name∉ks) (ht:tab c=some m) (k:Nat->(List PV->Mo PV)->Res PV):methAt name tab (.ref n) st k=k n m:=by
 unfold methAt
 simp only [zco h,if_neg hk,ht]
@[simp] theorem ztx (f:Str) (i x:Str->Bool) (n:Nat):fldAt f i x (.ref n) st=jj st n fun c ks xs=>if i c=true then optR ((ks.zip xs).lookup f) st else .stuck:=(rfl)
@[simp] theorem zty (f:Str) (i x:Str->Bool) (c:Str) (ks:List Str) (xs:List PV):fldAt f i x (.exo c ks xs) st=if x c=true then optR ((ks.zip xs).lookup f) st else .stuck:=(rfl)
@[simp] theorem ztz (ks:List Str) (ps:List PV) (z:Str):kdAt ks ps (.str z) st=optR ((ks.zip ps).lookup z) st:=(rfl)
@[simp] theorem ztA (tab:Str->Option (List PV->Mo PV)):zdM tab fa fs env st=(fa env st).bind fun f st1=>match f with | .fn x=>(match tab x with|some m=>(fs env st1).bind m|none=>.stuck)|_=>.stuck:=(rfl)
@[simp] theorem ztB (f:Str) (i:Str->Bool):Mi.sFld f i fo fv env st=(fv env st).bind fun x st1=>(fo env st1).bind fun o st2=>(putAt f i x o st2).bind fun _ st3=>.ok (.nx env) st3:=(rfl)
@[simp] theorem zol:ja op fo fv env st=(fo env st).bind fun o st1=>(recL o st1).bind fun o st1=>(fv env st1).bind fun y st2=>op o y st2:=(rfl)
@[simp] theorem zg2 (n:Nat):recL (.ref n) st=ye st n fun _=>.ok (.ref n) st:=(rfl)
@[simp] theorem ztC (a b:String):(Str.ofString a=Str.ofString b)↔a=b:=by
 constructor
 ·intro h
  rw [Str.ofString_eq_byList] at h
  have h1:(a.toList.map Char.toNat)=(b.toList.map Char.toNat):=by
   have:=congrArg (fun z=>z.cps.toList) h
   simpa [Str.ofStringByList] using this
  apply String.ext_iff.mpr
  exact (List.map_inj_right (fun c d e=>Char.toNat_inj.mp e)).mp h1
 ·intro h;rw [h]
@[simp] theorem ztD (a b:String):(Str.ofString a==Str.ofString b)=(a==b):=by
 rw [Bool.eq_iff_iff];simp
theorem zg3 (n:Nat):whileF ga g (n+1) env st=(ga env st).bind fun c st1=>if c=true then (g env st1).bind fun fl st2=>match fl with
   | .nx e=>whileF ga g n e st2
   | .ct e=>whileF ga g n e st2
   | .bk e=>.ok (.nx e) st2
   | .rt v=>.ok (.rt v) st2
  else .ok (.nx env) st1:=rfl
@[simp] theorem zdT:lim=1000000:=(rfl)
@[simp] theorem ztE (f:Str) (i:Str->Bool) (x:PV) (n:Nat):Mi.putAt f i x (.ref n) st=jj st n fun c ks xs=>if i c=true/\ks.length<1000 then .ok () (st.set n (.ins c (putK f x ks xs).1 (putK f x ks xs).2)) else .stuck:=(rfl)
end
section
variable {K:Frag}{mg:Str->Option Value}{h:Heap}{x:Str}{f C:Addr}{oc:Value}{od an:Option Addr}{osl:Array (Option Value)}{kV doc pm cdv ct:Value}{sm:Stmt}{ps:List Str}
theorem yk (X:K.In h) (G:h.Ns mainGlobals mg) (a:nsIn K mainGlobals x=some (some (.ref f))) (l:K.lookup f=some ⟨oc,od,.func (fnOf x x (jA sm) (yM sm) (zB sm) .none kV doc pm an cdv ct),osl⟩) (c:codeIn K cdv x=true) (k:keepIn K (.ref f)=true)
  (b:∀(kV doc pm:Value) (an:Option Addr) (cdv ct:Value) (us:List Value),us.length=ps.length->bindArgs (fnOf x x (jA sm) (yM sm) (zB sm) .none kV doc pm an cdv ct) ⟨us,[]⟩=pure (ps.zip us)):FnF K mg x sm ps :=
 ⟨f,_,mg_of X G a,wz l c k,(wz l c k).binds b⟩
theorem zom {c name qual:Str} (X:K.In h) (G:h.Ns mainGlobals mg) (aC:nsIn K mainGlobals c=some (some (.ref C))) (pg:plainGet K C Str.empty=true) (hd:hasDictIn K C=true) (po:plainOver K C=true) (sa:findIn K (.ref C) "__setattr__" = some (some (.builtin "object.__setattr__")))
  (a:findIn K (.ref C) name=some (some (.ref f))) (i:isFn K (.ref f)=true) (l:K.lookup f=some ⟨oc,od,.func (fnOf name qual (jA sm) (yM sm) (zB sm) .none kV doc pm an cdv ct),osl⟩) (cd:codeIn K cdv qual=true) (k:keepIn K (.ref f)=true)
  (b:∀(kV doc pm:Value) (an:Option Addr) (cdv ct:Value) (us:List Value),us.length=ps.length->bindArgs (fnOf name qual (jA sm) (yM sm) (zB sm) .none kV doc pm an cdv ct) ⟨us,[]⟩=pure (ps.zip us)):MtF K mg c name qual sm ps :=
 ⟨C,f,_,mg_of X G aC,⟨pg,hd,po,sa⟩,⟨a,i,k⟩,wz l cd k,(wz l cd k).binds b⟩
theorem zon {c qual:Str}(X:K.In h) (G:h.Ns mainGlobals mg) (aC:nsIn K mainGlobals c=some (some (.ref C))) (mk:makesIn K C=true) (kc:keepIn K (.ref C)=true)
  (a:findIn K (.ref C) "__init__" = some (some (.ref f))) (i:isFn K (.ref f)=true) (l:K.lookup f=some ⟨oc,od,.func (fnOf "__init__" qual (jA sm) (yM sm) (zB sm) .none kV doc pm an cdv ct),osl⟩) (cd:codeIn K cdv qual=true) (k:keepIn K (.ref f)=true)
  (b:∀(kV doc pm:Value) (an:Option Addr) (cdv ct:Value) (us:List Value),us.length=ps.length->bindArgs (fnOf "__init__" qual (jA sm) (yM sm) (zB sm) .none kV doc pm an cdv ct) ⟨us,[]⟩=pure (ps.zip us)):NwF K mg c qual sm ps :=
 ⟨C,f,_,mg_of X G aC,⟨mk,a,i,kc⟩,wz l cd k,(wz l cd k).binds b⟩
theorem zoo {cd:ClassData}(h:clsIn K C=some cd) (v:valLine cd.mro=true):lineIn K C=true:=by unfold lineIn;rw [h];exact v
theorem zg4 {c fld qual:Str}{B N:Addr}{nm q:Str}{bs:List Value}{hdct:Bool}{sn:List Str}{sub:List Value}{ab:Bool}{col:Option Bool}{dd:Option Addr}{k0 k1 k2 k3 k5:Option Value}{cc:Value}{d:Option Addr}{es:Array DictEntry}{n:Nat}{sl:Array (Option Value)}{cd0:ClassData}
  (X:K.In h) (G:h.Ns mainGlobals mg) (aC:nsIn K mainGlobals c=some (some (.ref C)))
  (hC:K.lookup C=some (excClassObj nm q C N bs (.ref B::veLine) hdct sn sub ab col dd k0 k1 k2 k3 k5 "ValueError.__new__")) (hB:excIn K B veLine "ValueError.__new__" = true)
  (hN:K.lookup N=some ⟨cc,d,.dict es n,sl⟩) (he:(es.all fun e=>match e.key with | .str _ _=>true|_=>false)=true) (hi:nsIn K N "__init__" = some (some (.ref f))) (fn:isFn K (.ref f)=true) (kp:keepIn K (.ref C)=true)
  (sa:findIn K (.ref C) "__setattr__" = some (some (.builtin "object.__setattr__"))) (hcl:clsIn K C=some cd0) (hl:valLine cd0.mro=true) (no:takerIn K C fld=some none) (hdI:hasDictIn K C=true)
  (l:K.lookup f=some ⟨oc,od,.func (fnOf "__init__" qual (jA sm) (yM sm) (zB sm) .none kV doc pm an cdv ct),osl⟩) (cdd:codeIn K cdv qual=true) (k:keepIn K (.ref f)=true)
  (b:∀(kV doc pm:Value) (an:Option Addr) (cdv ct:Value) (us:List Value),us.length=[("self" : Str),fld].length->bindArgs (fnOf "__init__" qual (jA sm) (yM sm) (zB sm) .none kV doc pm an cdv ct) ⟨us,[]⟩=pure ([("self" : Str),fld].zip us)):XnF K mg c fld qual sm :=
 ⟨C,f,_,mg_of X G aC,ExMk.mk' hC hB hN he hi fn kp,⟨sa,zoo hcl hl,no,hdI⟩,wz l cdd k,(wz l cdd k).binds b⟩
theorem zg5 {c fld:Str} (X:K.In h) (G:h.Ns mainGlobals mg) (aC:nsIn K mainGlobals c=some (some (.ref C))) (pg:plainGet K C Str.empty=true) (hd:hasDictIn K C=true) (po:plainOver K C=true) (sa:findIn K (.ref C) "__setattr__" = some (some (.builtin "object.__setattr__"))) (na:findIn K (.ref C) fld=some none) :
  ∃C,mg c=some (.ref C)/\Cls K C/\NoAttr K C fld:=⟨C,mg_of X G aC,⟨pg,hd,po,sa⟩,na⟩
theorem zcp {c fld:Str} (X:K.In h) (G:h.Ns mainGlobals mg) (aC:nsIn K mainGlobals c=some (some (.ref C))) (ga:findIn K (.ref C) "__getattribute__" = some (some (.builtin "BaseException.__getattribute__"))) (hk:findIn K (.ref C) "__getattr__" = some none) (hB:mroIn K C (.type "BaseException")=some true)
  (hd:hasDictIn K C=true) (no:findIn K (.ref C) fld=some none):∃C,mg c=some (.ref C)/\ExGa K C/\hasDictIn K C=true/\findIn K (.ref C) fld=some none:=⟨C,mg_of X G aC,⟨ga,hk,hB⟩,hd,no⟩
theorem zop {α:Type}{P:α->Prop}:∀p∈([]:List α),P p:=fun _ h=>nomatch h
theorem all_cons {α:Type}{P:α->Prop}{a:α}{l:List α}(h:P a) (t:∀p∈l,P p):∀p∈a::l,P p:=fun p hp=>by
 rcases List.mem_cons.mp hp with rfl|hp
 ·exact h
 ·exact t p hp
theorem zg6 {α β:Type} [BEq α] [LawfulBEq α] {a:α}{b:β}:∀{l:List (α×β)},l.lookup a=some b->(a,b)∈l
 | [],h=>by simp at h
 | (c,d)::l,h=>by
  rw [List.lookup_cons] at h
  split at h
  ·rename_i e;cases h;rw [eq_of_beq e];simp
  ·exact List.mem_cons_of_mem _ (zg6 h)
theorem zdU {O t t2:Addr} {wd k1 k2 y:Str} {u1 u2:Tok} {n n2:Nat} {od2:Option Addr} {sl sl2:Array (Option Value)} (X:K.In h) (G:h.Ns mainGlobals mg) (e:nsIn K O wd=some (some (.ref t))) (l1:K.lookup t=some ⟨.type "tuple", od,.seq #[.ref t2,.ref f] n,sl⟩)
  (l2:K.lookup t2=some ⟨.type "tuple", od2,.seq #[.str k1 u1,.str k2 u2] n2,sl2⟩) (a:nsIn K mainGlobals y=some (some (.ref f))):∃u v,nsIn K O wd=some (some u)/\RelV v u/\∀ρ H,R K mg ρ H (.tup [.tup [.str k1,.str k2],.fn y]) v:=by
 refine ⟨_,.ref t,e,rfl,zar (xs:=[.tup [.str k1,.str k2],.fn y]) (vs:=[.ref t2,.ref f]) l1 rfl (by simp) (.cons rfl (.cons rfl .nil)) fun ρ H=>?_⟩
 exact ⟨_,_,rfl,zar (xs:=[.str k1,.str k2]) (vs:=[.str k1,.str k2]) l2 rfl (by simp) (.cons ⟨_,rfl⟩ (.cons ⟨_,rfl⟩ .nil)) (fun ρ H=>⟨_,_,rfl,rfl,_,_,rfl,rfl,rfl⟩) ρ H,_,_,rfl,⟨f,rfl,mg_of X G a⟩,rfl⟩
theorem zdV {O t t2:Addr} {wd k1 y:Str} {u1:Tok} {n n2:Nat} {od2:Option Addr} {sl sl2:Array (Option Value)} (X:K.In h) (G:h.Ns mainGlobals mg) (e:nsIn K O wd=some (some (.ref t))) (l1:K.lookup t=some ⟨.type "tuple", od,.seq #[.ref t2,.ref f] n,sl⟩)
  (l2:K.lookup t2=some ⟨.type "tuple", od2,.seq #[.str k1 u1] n2,sl2⟩) (a:nsIn K mainGlobals y=some (some (.ref f))):∃u v,nsIn K O wd=some (some u)/\RelV v u/\∀ρ H,R K mg ρ H (.tup [.tup [.str k1],.fn y]) v:=by
 refine ⟨_,.ref t,e,rfl,zar (xs:=[.tup [.str k1],.fn y]) (vs:=[.ref t2,.ref f]) l1 rfl (by simp) (.cons rfl (.cons rfl .nil)) fun ρ H=>?_⟩
 exact ⟨_,_,rfl,zar (xs:=[.str k1]) (vs:=[.str k1]) l2 rfl (by simp) (.cons ⟨_,rfl⟩ .nil) (fun ρ H=>⟨_,_,rfl,rfl,rfl⟩) ρ H,_,_,rfl,⟨f,rfl,mg_of X G a⟩,rfl⟩
theorem zoq {w:World} {name:Str} {O:Addr} {es:Array DictEntry} {n:Nat} {ks:List Str} {qs:List PV} (X:K.In h) (G:h.Ns mainGlobals mg) (aO:nsIn K mainGlobals name=some (some (.ref O))) (lO:K.lookup O=some ⟨.type "dict", none,.dict es n,#[]⟩) (hk:KeysLit w.params es.toList) (no:(O==sysModules)=false)
  (hi:∀p∈ks.zip qs,∃u v,nsIn K O p.1=some (some u)/\RelV v u/\∀ρ H,R K mg ρ H p.2 v):∀Y:Cx,Y.K=K->Y.mg=mg->Y.w=w->KdF Y name ks qs false:=fun Y e1 e2 e3=>by
 refine ⟨O,by rw [e2];exact mg_of X G aO,⟨⟨es,n,by rw [e1];exact lO,by rw [e3];exact hk⟩,no⟩,fun z q hz=>?_,fun z=>nomatch z⟩
 rw [e1,e2]
 exact hi _ (zg6 hz)
end
theorem zor {P:Program}{w:World}{K:Frag}{mg:Str->Option Value}{x y:Str}{sm:Stmt}{fa:Addr}{k:Nat}{m:List PV->Mo PV}(h:FnF K mg x sm [y]) (hmg:mg x=some (.ref fa))
  (hb:∀(kV doc pm:Value) (an:Option Addr) (cdv ct:Value) (u:Value),bindArgs (fnOf x x (jA sm) (yM sm) (zB sm) .none kV doc pm an cdv ct) ⟨[u],[]⟩=pure [(y,u)])
  (hok:∀(f:Addr) (fd:FuncData),Fun K x x sm f fd->∀base:Heap,FnOk P w K mg base (CXe P w) k f fd [y] (spM K mg m)) (hp:∀ns:List Int,ns.length<=63->∃st,m [.frl (ns.map PV.int)] []=.ok (.bl true) st) :
  ∃fd:FuncData,(∀(s:Shared) (u:Value),BindsTo s fd ⟨[u],[]⟩ [(y,u)])/\∀base:Heap,K.In base->base.Ns mainGlobals mg->FnOk P w K mg base (CXe P w) k fa fd [y] (spLaw K):=by
 obtain ⟨f,fd,hm,F,_⟩:=h
 rw [hmg] at hm
 cases hm
 refine ⟨fd,fun s u=>?_,fun base _ _=>zoa (hok fa fd F base) hp⟩
 obtain ⟨oc,od,kV,doc,pm,an,cdv,ct,osl,rfl,_⟩:=F.ex
 exact .of_eq (hb kV doc pm an cdv ct u)
theorem zos {K:Frag}{mg:Str->Option Value}{h:Heap}{x:Str}{i:Int}{t:Tok}(X:K.In h) (G:h.Ns mainGlobals mg) (a:nsIn K mainGlobals x=some (some (.int i t))):∃t,mg x=some (.int i t):=⟨t,mg_of X G a⟩
theorem jF {K:Frag}{mg:Str->Option Value}{h:Heap}{x:Str}(X:K.In h) (G:h.Ns mainGlobals mg) (a:nsIn K mainGlobals x=some none):mg x=none:=mg_none_of X G a
section
variable {X:Cx}{Er:XK}{K:Frag}{mg:Str->Option Value}{a b c e o:Expr}{es:List Expr}{pos p apos pos':Pos}{fa fb fc fo:zd->Mo PV}{fs:zd->Mo (List PV)}
abbrev kz (ks:List Str) (vs:List V):List (Key×V):=(ks.map Sum.inr).zip vs
theorem zav {z:Str}:∀{ks:List Str}{vs:List V},valV (kz ks vs) (Sum.inr z)=(ks.zip vs).lookup z
 | [],_=>by simp [kz,valV]
 | k::ks,[]=>by simp [kz,valV]
 | k::ks,v::vs=>by
  have ih:=zav (z:=z) (ks:=ks) (vs:=vs)
  by_cases h:k=z
  ·subst h
   rw [show kz (k::ks) (v::vs)=(Sum.inr k,v)::kz ks vs from rfl,zbV rfl]
   simp [List.lookup_cons]
  ·rw [show kz (k::ks) (v::vs)=(Sum.inr k,v)::kz ks vs from rfl,zbW (by simpa using h),ih]
   have:(z==k)=false:=by simpa using fun q=>h q.symm
   simp [List.lookup_cons,this]
theorem zg7 {z:Str}:∀{ks:List Str}{vs:List V},ks.length=vs.length->((kz ks vs).any fun kv=>decide (kv.1=Sum.inr z))=ks.contains z
 | [],_,_=>by simp [kz]
 | k::ks,[],h=>by simp at h
 | k::ks,v::vs,h=>by
  have ih:=zg7 (z:=z) (ks:=ks) (vs:=vs) (by simpa using h)
  rw [show kz (k::ks) (v::vs)=(Sum.inr k,v)::kz ks vs from rfl,List.any_cons,ih,List.contains_cons]
  congr 1
  by_cases hz:k=z
  ·subst hz;simp
  ·have:(z==k)=false:=by simpa using fun q=>hz q.symm
   simp [hz,this]
def repl {α:Type}(z:Str) (x:α):List Str->List α->List α
 | k::ks,y::ys=>(if k=z then x else y)::repl z x ks ys
 | _,ys=>ys
def yq (z:Str) (x:PV) (ks:List Str) (xs:List PV):List Str×List PV:=if ks.contains z=true then (ks,repl z x ks xs) else (ks++[z],xs++[x])
theorem zg8 {z:Str}{v:V}:∀{ks:List Str}{vs:List V},(kz ks vs).map (fun kv=>if kv.1=Sum.inr z then (kv.1,v) else kv)=kz ks (repl z v ks vs)
 | [],_=>by simp [kz]
 | k::ks,[]=>by simp [kz,repl]
 | k::ks,w::vs=>by
  rw [show kz (k::ks) (w::vs)=(Sum.inr k,w)::kz ks vs from rfl,List.map_cons,zg8,show repl z v (k::ks) (w::vs)=(if k=z then v else w)::repl z v ks vs from rfl,show ∀u us,kz (k::ks) (u::us)=(Sum.inr k,u)::kz ks us from fun _ _=>rfl]
  by_cases h:k=z
  ·subst h;simp
  ·rw [if_neg (by simpa using h),if_neg h]
theorem zg9 {ρ:List Addr}{H:Hp}{z:Str}{x:PV}{v:V}(r:R K mg ρ H x v):∀{ks:List Str}{xs:List PV}{vs:List V},Rs K mg ρ H xs vs->Rs K mg ρ H (repl z x ks xs) (repl z v ks vs)
 | [],xs,vs,h=>by cases xs<;>cases vs<;>exact h
 | k::ks,[],vs,h=>by cases h;exact rfl
 | k::ks,y::ys,vs,h=>by
  obtain ⟨w,ws,rfl,h1,h2⟩:=h
  refine ⟨_,_,rfl,?_,zg9 r h2⟩
  split
  ·exact r
  ·exact h1
theorem repl_len {α:Type}{z:Str}{x:α}:∀{ks:List Str}{xs:List α},(repl z x ks xs).length=xs.length
 | [],xs=>by cases xs<;>rfl
 | k::ks,[]=>rfl
 | k::ks,y::ys=>by simp [repl,repl_len (ks:=ks)]
theorem zot {ρ:List Addr}{H:Hp}{z:Str}{x:PV}{v:V}(r:R K mg ρ H x v) {ks:List Str}{xs:List PV}{vs:List V}(hl:ks.length=vs.length) (h:Rs K mg ρ H xs vs):∃ws,L2.putK (kz ks vs) (Sum.inr z) v=kz (yq z x ks xs).1 ws/\Rs K mg ρ H (yq z x ks xs).2 ws/\(yq z x ks xs).1.length=ws.length:=by
 unfold L2.putK yq
 rw [zg7 hl]
 by_cases hc:ks.contains z=true
 ·rw [if_pos hc,if_pos hc]
  exact ⟨repl z v ks vs,zg8,zg9 r h,by rw [repl_len];exact hl⟩
 ·rw [if_neg hc,if_neg hc]
  refine ⟨vs++[v],?_,h.append ⟨v,[],rfl,r,rfl⟩,by simp [hl]⟩
  show _=(List.map Sum.inr (ks++[z])).zip (vs++[v])
  rw [List.map_append,List.zip_append (by simpa using hl)]
  rfl
def zcq:zd->Mo PV:=fun _ st=>.ok (.ref st.length) (st++[.dic [] []])
theorem zha:ME X Er (.Dict [] [] pos) zcq:=PE.weak zmm fun U H Q ⟨env,st,ρ,re,rs,h⟩=>fun q hq =>
 h (ρ++[q]) _ (Ext.push hq) (rs.push hq ⟨[],yp,rfl,rfl⟩) _ ⟨q,rfl,by rw [<-rs.len];simp⟩
def zdW:PV->PV->Mo PV
 | .ref n,.str z,st=>yU st n fun ks xs=>optR ((ks.zip xs).lookup z) st
 | _,_,_=>.stuck
def zq:PV->PV->Mo PV
 | .ref n,.str z,st=>zdW (.ref n) (.str z) st
 | x,y,st=>oIx x y st
def zou:R2:=fun x y H Q=>∃a v,x=.ref a/\DGet H a y (some v)/\Q v H
theorem zhb (hu:X.A.units+1<cLine):IxR X zou:=by
 intro value slice pins s U H x y v u Q I rx ry h hs
 obtain ⟨a,w,rfl,g,q⟩:=h
 obtain rfl:v=Value.ref a:=rx
 exact PyProof.Rows.tail_any (zmh I g) PySem.F.slot_dict_getitem.lookup (zmc hu I g ry fun w' s' I' rw'=>⟨w,H,I',rw',q⟩) hs
theorem R.refD {ρ:List Addr}{H:Hp}{st:Sto}{n:Nat}{ks:List Str}{xs:List PV}{v:V}(s:StR K mg ρ H st) (r:R K mg ρ H (.ref n) v) (h:st[n]?=some (.dic ks xs)):∃a vs,v=.ref a/\ρ[n]?=some a/\H a=some (.dK (kz ks vs))/\Rs K mg ρ H xs vs/\ks.length=vs.length:=by
 obtain ⟨a,rfl,ha⟩:=r
 obtain ⟨vs,h1,h2,h3⟩:=s.addr h ha
 exact ⟨a,vs,rfl,ha,h1,h2,h3⟩
theorem zhc {H:Hp}{a:Addr}{ks:List Str}{vs:List V}{z:Str}(h:H a=some (.dK (kz ks vs))):DGet H a (.str z) ((ks.zip vs).lookup z):=by
 have g:=DGet.k (k:=Sum.inr z) h
 rw [zav] at g
 exact g
theorem zO (hu:X.A.units+200<cLine):IxOk X zq:=by
 obtain ⟨r,h1,h2⟩:=zno (X:=X)
 refine ⟨_,h1.or (zhb (by omega)),fun ρ H st x y v w Q E s rx ry h=>?_⟩
 by_cases hx:∃n z,x=.ref n/\y=.str z
 ·obtain ⟨n,z,rfl,rfl⟩:=hx
  obtain ⟨ks,xs,e,h⟩:=zb9 (show Out X.K X.mg ρ H (yU st n fun ks xs=>optR ((ks.zip xs).lookup z) st) (gV X.K X.mg Q) E from h)
  obtain ⟨q,hq,h⟩:=wf h
  obtain ⟨a,vs,rfl,_,k1,k2,_⟩:=R.refD s rx e
  cases ry
  obtain ⟨v,hv,rv⟩:=wg k2 hq
  refine .inr ⟨a,v,rfl,?_,h.now s _ rv⟩
  have g:=zhc (z:=z) k1
  rw [hv] at g
  exact g
 ·refine .inl (h2 ρ H st x y v w Q E s rx ry ?_)
  have:zq x y st=oIx x y st:=by
   unfold zq
   split
   ·rename_i n z;exact absurd ⟨n,z,rfl,rfl⟩ hx
   ·rfl
  rw [this] at h
  exact h
def j3 (z x:PV):PV->Mo Unit
 | .ref n,st=>match z with
  | .str z=>yU st n fun ks xs=>if ks.length<lim then .ok () (st.set n (.dic (yq z x ks xs).1 (yq z x ks xs).2)) else .stuck
  | _=>.stuck
 | _,_=>.stuck
def wo (fo fi fv:zd->Mo PV):zd->Mo Fl:=fun env st=>(fv env st).bind fun x st1=>(fo env st1).bind fun o st2=>(fi env st2).bind fun z st3=>(j3 z x o st3).bind fun _ st4=>.ok (.nx env) st4
theorem zcr {i value:Expr}{fi fv:zd->Mo PV}(hu:X.A.units+200<cLine) (ho:ME X Er o fo) (hi:ME X Er i fi) (hv:ME X Er value fv) (hs:swapsWith value (some (.Subscript o i pos')) pos.line X.env=pure false:=by rfl):MS X Er (.Assign [.Subscript o i pos'] value pos) (wo fo fi fv) :=
 PS.weak (zmj (by omega) ho hi hv hs) fun D U H ⟨env,st,ρ,re,rs,h⟩=>⟨env,st,ρ,re,rs,h.then fun ag H1 x st1 e1 s1 h1 v rv=>⟨env,st1,ag,re.ext e1,s1,h1.then fun ar H2 y st2 e2 s2 h2 w rw=>⟨env,st2,ar,(re.ext e1).ext e2,s2,h2.then fun aq H3 zz st3 e3 s3 h3 u ru=>by
  cases y with
  | ref n =>
   cases zz with
   | str z =>
    cases hn:st3[n]? with
    | none=>simp only [j3,yU,hn] at h3;exact False.elim h3
    | some so =>
     cases so with
     | lst _=>simp only [j3,yU,hn] at h3;exact False.elim h3
     | ins _ _ _=>simp only [j3,yU,hn] at h3;exact False.elim h3
     | fdi _ _=>simp only [j3,yU,hn] at h3;exact False.elim h3
     | dic ks xs =>
      simp only [j3,yU,hn] at h3
      by_cases hc:ks.length<lim
      ·rw [if_pos hc] at h3
       obtain ⟨a,vs,e4,ha,k1,k2,k3⟩:=R.refD s3 (R.ext e3 _ rw) hn
       subst e4
       cases ru
       obtain ⟨ws,q1,q2,q3⟩:=zot (z:=z) (R.ext e3 x (R.ext e2 x rv)) k3 k2
       have hlen:(kz ks vs).length<sizeLine:=by
        have:(kz ks vs).length=ks.length:=by simp [kz,k3]
        rw [this,sizeLine_eq]
        have:ks.length<1000000:=hc
        omega
       have g:=DPut.k (k:=Sum.inr z) (v:=v) k1 hlen
       have ew:Ext aq H3 aq (upd H3 a (.dK (L2.putK (kz ks vs) (Sum.inr z) v))):=Ext.write k1 rfl
       refine ⟨a,_,rfl,g,h3 aq _ ew (s3.write ha ew ⟨ws,by rw [yp,q1],Rs.ext ew _ q2,q3⟩) U ((((re.ext e1).ext e2).ext e3).ext ew)⟩
      ·rw [if_neg hc] at h3;exact False.elim h3
   | _=>exact False.elim h3
  | _=>exact False.elim h3⟩⟩⟩
end
open Classical in
noncomputable def eIn (K:Frag) (mg:Str->Option Value) (ρ:List Addr) (H:Hp) (ys:List PV) (x:PV) (u:Value):Bool:=decide (∃y v,y∈ys/\R K mg ρ H y v/\RelV v u/\eqP y x=true)
section
variable {X:Cx}{Er:XK}{K:Frag}{mg:Str->Option Value}{ρ:List Addr}{pins:List (Addr×Obj)}{U:L2.St}{H:Hp}{s:Shared}
def okIn (x:PV) (ys:List PV):Prop:=Mi.plain x=true/\plains ys=true/\deps ys<=150
instance (x:PV) (ys:List PV):Decidable (okIn x ys):=by unfold okIn;infer_instance
theorem Rs.mem:∀{xs:List PV}{vs:List V}{us:List Value}{u:Value},Rs K mg ρ H xs vs->Vals vs us->u∈us->∃y v,y∈xs/\R K mg ρ H y v/\RelV v u
 | [],_,_,_,h,hv,hu=>by cases h;cases hv;cases hu
 | x::xs,_,_,u,h,hv,hu=>by
  obtain ⟨v,r,rfl,h1,h2⟩:=h
  cases hv with
  | cons r1 r2 =>
   rcases List.mem_cons.mp hu with rfl|hu
   ·exact ⟨x,v,by simp,h1,r1⟩
   ·obtain ⟨y,w,q1,q2,q3⟩:=Rs.mem h2 r2 hu
    exact ⟨y,w,by simp [q1],q2,q3⟩
theorem Rs.mem':∀{xs:List PV}{vs:List V}{us:List Value}{y:PV},Rs K mg ρ H xs vs->Vals vs us->y∈xs->∃u v,u∈us/\R K mg ρ H y v/\RelV v u
 | [],_,_,_,_,_,hy=>by cases hy
 | x::xs,_,_,y,h,hv,hy=>by
  obtain ⟨v,r,rfl,h1,h2⟩:=h
  cases hv with
  | cons r1 r2 =>
   rcases List.mem_cons.mp hy with rfl|hy
   ·exact ⟨_,v,by simp,h1,r1⟩
   ·obtain ⟨u,w,q1,q2,q3⟩:=Rs.mem' h2 r2 hy
    exact ⟨u,w,by simp [q1],q2,q3⟩
theorem zov {ys:List PV}{y:PV}(h:plains ys=true) (hy:y∈ys):Mi.plain y=true:=by
 obtain ⟨i,hi⟩:=List.getElem?_of_mem hy
 exact zcd h hi
theorem zow {ys:List PV}{y:PV}(hy:y∈ys):dep y<=deps ys:=by
 obtain ⟨i,hi⟩:=List.getElem?_of_mem hy
 exact zdK hi
open Classical in
theorem zcs (I:Inv X pins U H s) {A:Around}(hu:A.units+200<cLine) {ys:List PV}{vs:List V}{us:List Value}{x:PV}{w:V}{v:Value}(ok:okIn x ys) (ry:Rs X.K mg ρ H ys vs) (rv:Vals vs us) (rx:R X.K mg ρ H x w) (rw:RelV w v) :
  (∀u∈us,SeqAt.EqAt A.in1 s u v (eIn X.K mg ρ H ys x u))/\us.any (eIn X.K mg ρ H ys x)=ys.any fun y=>eqP y x:=by
 obtain ⟨px,py,hd⟩:=ok
 have one:∀y v' u,y∈ys->R X.K mg ρ H y v'->RelV v' u->SeqAt.EqAt A.in1 s u v (eqP y x):=fun y v' u hy r1 r2 =>
  (zce I 150 y x A.in1 (Nat.le_trans (zow hy) hd) (zov py hy) px r1 rx r2 rw (by rw [wW];omega)).1
 refine ⟨fun u hu'=>?_,?_⟩
 ·obtain ⟨y,v',q1,q2,q3⟩:=Rs.mem ry rv hu'
  by_cases h:∃y v,y∈ys/\R X.K mg ρ H y v/\RelV v u/\eqP y x=true
  ·have e:eIn X.K mg ρ H ys x u=true:=by simpa [eIn] using h
   obtain ⟨y2,v2,z1,z2,z3,z4⟩:=h
   rw [e,<-z4]
   exact one y2 v2 u z1 z2 z3
  ·have e:eIn X.K mg ρ H ys x u=false:=by unfold eIn;exact decide_eq_false h
   rw [e]
   have:eqP y x=false:=by
    cases hq:eqP y x with
    | false=>rfl
    | true=>exact absurd ⟨y,v',q1,q2,q3,hq⟩ h
   rw [<-this]
   exact one y v' u q1 q2 q3
 ·rw [Bool.eq_iff_iff]
  simp only [List.any_eq_true]
  constructor
  ·rintro ⟨u,hu',he⟩
   have h:∃y v,y∈ys/\R X.K mg ρ H y v/\RelV v u/\eqP y x=true:=by unfold eIn at he;exact of_decide_eq_true he
   obtain ⟨y,v',z1,_,_,z4⟩:=h
   exact ⟨y,z1,z4⟩
  ·rintro ⟨y,hy,he⟩
   obtain ⟨u,v',q1,q2,q3⟩:=Rs.mem' ry rv hy
   exact ⟨u,q1,by unfold eIn;exact decide_eq_true ⟨y,v',hy,q2,q3,he⟩⟩
def yx (neg:Bool):PV->PV->Mo PV
 | x,.tup ys,st=>if okIn x ys then .ok (.bl (neg.xor (ys.any fun y=>eqP y x))) st else .stuck
 | x,.frl ys,st=>if okIn x ys then .ok (.bl (neg.xor (ys.any fun y=>eqP y x))) st else .stuck
 | x,.ref n,st=>match st[n]?,x with
  | some (.lst ys),x=>if okIn x ys then .ok (.bl (neg.xor (ys.any fun y=>eqP y x))) st else .stuck
  | some (.dic ks xs),.str z=>.ok (.bl (neg.xor ((ks.zip xs).lookup z).isSome)) st
  | _,_=>.stuck
 | .str ⟨⟨[c]⟩⟩,.str z,st=>.ok (.bl (neg.xor (decide (c∈z.cps.toList)))) st
 | _,_,_=>.stuck
def zct (K:Frag) (mg:Str->Option Value) (neg:Bool):R2:=fun v w H Q =>
 (∃ρ x ys vs p,okIn x ys/\w=.ref p/\(SqL K H p vs\/SqT K H p vs)/\Rs K mg ρ H ys vs/\R K mg ρ H x v/\Q (.bl (neg.xor (ys.any fun y=>eqP y x))) H) \/
 (∃p o,w=.ref p/\DGet H p v o/\Q (.bl (neg.xor o.isSome)) H)\/∃(c:Nat) (z:Str),v=.str ⟨#[c]⟩/\w=.str z/\Q (.bl (neg.xor (decide (c∈z.cps.toList)))) H
theorem zox (hu:X.A.units+200<cLine):OpR X (compareOp .In) (zct X.K X.mg false):=by
 intro pins s U H x y v u Q I rx ry h
 rcases h with ⟨ρ,a,ys,vs,p,ok,rfl,hq,rys,ra,q⟩|⟨p,o,rfl,g,q⟩|⟨c,z,rfl,rfl,q⟩
 ·obtain rfl:u=Value.ref p:=ry
  rcases hq with hq|hq
  ·obtain ⟨its,r,pl,_⟩:=I.list hq
   obtain ⟨f1,f2⟩:=zcs I hu ok rys r ra rx
   refine SeqAt.in_listAt (eIn X.K X.mg ρ H ys a) pl.isList (fun w hw=>f1 w (by simpa using hw)) ⟨.bl _,H,I,rfl,?_⟩
   rw [show its.toArray.any (eIn X.K X.mg ρ H ys a)=its.any (eIn X.K X.mg ρ H ys a) by simp,f2]
   simpa using q
  ·obtain ⟨its,r,pl,_⟩:=I.tuple hq
   obtain ⟨f1,f2⟩:=zcs I hu ok rys r ra rx
   refine SeqAt.in_tupleAt (eIn X.K X.mg ρ H ys a) pl (fun w hw=>f1 w (by simpa using hw)) ⟨.bl _,H,I,rfl,?_⟩
   rw [show its.toArray.any (eIn X.K X.mg ρ H ys a)=its.any (eIn X.K X.mg ρ H ys a) by simp,f2]
   simpa using q
 ·obtain rfl:u=Value.ref p:=ry
  exact zmd (by omega) I g rx fun s' I'=>⟨.bl o.isSome,H,I',rfl,by simpa using q⟩
 ·exact zma pins s U H _ _ v u Q I rx ry ⟨c,z,rfl,rfl,by simpa using q⟩
theorem zhd (hu:X.A.units+200<cLine):OpR X (compareOp .NotIn) (zct X.K X.mg true):=by
 intro pins s U H x y v u Q I rx ry h
 rcases h with ⟨ρ,a,ys,vs,p,ok,rfl,hq,rys,ra,q⟩|⟨p,o,rfl,g,q⟩|⟨c,z,rfl,rfl,q⟩
 ·obtain rfl:u=Value.ref p:=ry
  rcases hq with hq|hq
  ·obtain ⟨its,r,pl,_⟩:=I.list hq
   obtain ⟨f1,f2⟩:=zcs I hu ok rys r ra rx
   refine SeqAt.notIn_listAt (eIn X.K X.mg ρ H ys a) pl.isList (fun w hw=>f1 w (by simpa using hw)) ⟨.bl _,H,I,rfl,?_⟩
   rw [show its.toArray.any (eIn X.K X.mg ρ H ys a)=its.any (eIn X.K X.mg ρ H ys a) by simp,f2]
   simpa using q
  ·obtain ⟨its,r,pl,_⟩:=I.tuple hq
   obtain ⟨f1,f2⟩:=zcs I hu ok rys r ra rx
   refine SeqAt.notIn_tupleAt (eIn X.K X.mg ρ H ys a) pl (fun w hw=>f1 w (by simpa using hw)) ⟨.bl _,H,I,rfl,?_⟩
   rw [show its.toArray.any (eIn X.K X.mg ρ H ys a)=its.any (eIn X.K X.mg ρ H ys a) by simp,f2]
   simpa using q
 ·obtain rfl:u=Value.ref p:=ry
  exact zme (by omega) I g rx fun s' I'=>⟨.bl (!o.isSome),H,I',rfl,by simpa using q⟩
 ·refine L2.zlO pins s U H _ _ v u Q I rx ry ⟨_,_,rfl,rfl,?_⟩
  rw [StrLaws.found_one]
  simpa using q
theorem zdX {neg:Bool}:OpM K mg (zct K mg neg) (yx neg):=by
 intro ρ H st x y v w Q E s rx ry h
 cases y with
 | tup ys =>
  obtain ⟨p,vs,rfl,k1,k2⟩:=ry
  obtain ⟨ok,h⟩:=Out.ifp (show Out K mg ρ H (if okIn x ys then .ok (.bl (neg.xor (ys.any fun y=>eqP y x))) st else .stuck) (gV K mg Q) E from by cases x<;>exact h)
  exact .inl ⟨ρ,x,ys,vs,p,ok,rfl,.inr k1,k2,rx,h.now s _ rfl⟩
 | frl ys =>
  obtain ⟨p,vs,rfl,k1,k2⟩:=ry
  obtain ⟨ok,h⟩:=Out.ifp (show Out K mg ρ H (if okIn x ys then .ok (.bl (neg.xor (ys.any fun y=>eqP y x))) st else .stuck) (gV K mg Q) E from by cases x<;>exact h)
  exact .inl ⟨ρ,x,ys,vs,p,ok,rfl,.inl k1.sq,k2,rx,h.now s _ rfl⟩
 | ref n =>
  cases hn:st[n]? with
  | none=>exfalso;cases x<;>(simp only [yx,hn] at h;exact h)
  | some so =>
   cases so with
   | lst ys =>
    obtain ⟨p,vs,rfl,_,k1,k2⟩:=R.refL s ry hn
    obtain ⟨ok,h⟩:=Out.ifp (show Out K mg ρ H (if okIn x ys then .ok (.bl (neg.xor (ys.any fun y=>eqP y x))) st else .stuck) (gV K mg Q) E from by cases x<;>(simp only [yx,hn] at h;exact h))
    exact .inl ⟨ρ,x,ys,vs,p,ok,rfl,.inl (SqL.of k1),k2,rx,h.now s _ rfl⟩
   | dic ks xs =>
    obtain ⟨p,vs,rfl,_,k1,k2,k3⟩:=R.refD s ry hn
    cases x with
    | str z =>
     simp only [yx,hn] at h
     cases rx
     refine .inr (.inl ⟨p,_,rfl,zhc k1,?_⟩)
     have e:((ks.zip vs).lookup z).isSome=((ks.zip xs).lookup z).isSome:=by
      cases hq:(ks.zip xs).lookup z with
      | some q=>obtain ⟨v,hv,_⟩:=wg k2 hq;rw [hv];rfl
      | none =>
       have:z∉ks:=by
        intro hz
        obtain ⟨i,hi⟩:=List.getElem?_of_mem hz
        have hl:i<xs.length:=by rw [k2.len,<-k3];exact (List.getElem?_eq_some_iff.mp hi).1
        have:=List.lookup_eq_none_iff.mp hq (z,xs[i]) (List.mem_iff_getElem?.mpr ⟨i,by simp [List.getElem?_zip_eq_some,hi,hl]⟩)
        simp at this
       rw [zcf this];rfl
     rw [e]
     exact h.now s _ rfl
    | _=>simp only [yx,hn] at h;exact False.elim h
   | ins c ks xs=>exfalso;cases x<;>(simp only [yx,hn] at h;exact h)
   | fdi ks xs=>exfalso;cases x<;>(simp only [yx,hn] at h;exact h)
 | str z =>
  cases x with
  | str q =>
   obtain ⟨⟨l⟩⟩:=q
   match l,rx,h with
   | [c],rx,h=>cases rx;cases ry;exact .inr (.inr ⟨c,z,rfl,rfl,Out.now (x:=PV.bl _) h s _ rfl⟩)
   | [],rx,h=>exact False.elim h
   | _::_::_,rx,h=>exact False.elim h
  | _=>exact False.elim h
 | non=>exfalso;cases x<;>exact h
 | bl _=>exfalso;cases x<;>exact h
 | int _=>exfalso;cases x<;>exact h
 | ty _=>exfalso;cases x<;>exact h
 | fn _=>exfalso;cases x<;>exact h
 | kd _ _=>exfalso;cases x<;>exact h
 | exo _ _ _=>exfalso;cases x<;>exact h
theorem zhe (hu:X.A.units+200<cLine):CmpOk X .In (yx false):=⟨_,zox hu,zdX⟩
theorem zhf (hu:X.A.units+200<cLine):CmpOk X .NotIn (yx true):=⟨_,zhd hu,zdX⟩
end
section
variable {X:Cx}{Er:XK}{pos:Pos}
abbrev XN:XK:=fun _ _ _=>False
theorem zhg:jM X XN:=fun _ _ _ _ _ _ _ _ _ q=>q.elim
def compL (fe:zd->Mo PV) (env:zd):List PV->List PV->Mo PV
 | [],ys,st=>.ok (.ref st.length) (st++[.lst ys])
 | x::xs,ys,st=>(noErr (fe (some x::env) st)).bind fun y st1=>compL fe env xs (ys++[y]) st1
def compR (fe:zd->Mo PV) (env:zd) (n:Nat):Nat->Nat->List PV->Mo PV
 | 0,_,_,_=>.stuck
 | m+1,i,ys,st=>ye st n fun xs=>match xs[i]? with
  | none=>.ok (.ref st.length) (st++[.lst ys])
  | some x=>(noErr (fe (some x::env) st)).bind fun y st1=>compR fe env n m (i+1) (ys++[y]) st1
def compS (fe:zd->Mo PV) (env:zd):Sq->Mo PV
 | .im xs,st=>if xs.length<=lim then compL fe env xs [] st else .stuck
 | .rf n,st=>compR fe env n (lim+1) 0 [] st
def yr (src:zd->Mo Sq) (fe:zd->Mo PV):zd->Mo PV:=fun env st=>(src env st).bind fun q st1=>compS fe env q st1
theorem Rs.snoc {K:Frag}{mg:Str->Option Value}{ρ:List Addr}{H:Hp}{x:PV}{v:V}(r:R K mg ρ H x v):∀{xs:List PV}{vs:List V},Rs K mg ρ H xs vs->Rs K mg ρ H (xs++[x]) (vs++[v])
 | [],_,h=>by cases h;exact ⟨v,[],rfl,r,rfl⟩
 | y::xs,_,h=>by
  obtain ⟨w,q,rfl,h1,h2⟩:=h
  exact ⟨w,q++[v],rfl,h1,Rs.snoc r h2⟩
theorem zoy {elt iter:Expr} {x:Str} {px:Pos} {scope:Scope} {src:zd->Mo Sq} {fe:zd->Mo PV} {M:List Str} (hc:X.calm=true) (S:CompSc X.env.scope scope x) (eN:Hid scope M X.N) (hN0:((".0" : Str)::x::M).Nodup)
  (hi:MI X Er (.Name x px) iter src) (he:∀cl C af aj fp,ME (cxH X M scope cl x C af aj fp (fun _ _=>False)) XN elt fe)
  (hs:∀v,foldedSetIterable iter X.env v=pure v:=by intro _;rfl):ME X Er (.ListComp elt [⟨.Name x px,iter,[],0⟩] scope pos) (yr src fe) :=
 PE.weak (zl8 (te:=tM X.K X.mg XN fe) hc S eN hN0 hi (fun cl C af aj fp=>he cl C af aj fp) hs) fun U H Q ⟨env,st,ρ,re,rs,h⟩=>⟨env,st,ρ,re,rs,h.then fun au H0 q st0 e0 s0 h0 J wk=>by
  cases q with
  | im xs =>
   obtain ⟨hl,h0⟩:=Out.ifp h0
   obtain ⟨w1,w2,w3⟩:=wk
   refine ⟨fun i m ys H=>m=xs.length-i/\i<=xs.length/\ys.length=i/\∃ps st ρ,Rs X.K X.mg ρ H ps ys/\StR X.K X.mg ρ H st/\Ext au H0 ρ H/\Out X.K X.mg ρ H (compL fe env (xs.drop i) ps st) (gV X.K X.mg Q) Er,⟨xs.length,by simp,Nat.zero_le _,rfl,[],st0,au,rfl,s0,Ext.refl,h0⟩,?_⟩
   rintro i m ys H ⟨rfl,hi,hy,ps,st,ρ,rps,rs,ex,h⟩
   by_cases hlt:i<xs.length
   ·refine .inr ⟨w1 i ρ H ex hlt,yQ (by omega),fun v H' y=>?_⟩
    obtain ⟨x,hx,ex2,s2,rx⟩:=w3 i ρ H st v H' ex rs hlt y
    have hd:xs.drop i=x::xs.drop (i+1):=by
     rw [List.drop_eq_getElem_cons hlt]
     have:=(List.getElem?_eq_some_iff.mp hx).2
     rw [this]
    rw [hd] at h
    simp only [compL] at h
    refine ⟨some x::env,st,ρ,(re.ext (e0.trans (ex.trans ex2))).cons rx,s2,wn (Out.ext h ex2) fun aq H3 y st3 e3 s3 h3 v ry=>⟨xs.length-(i+1),by omega,rfl,hlt,by simp [hy],ps++[y],st3,aq,Rs.snoc ry (Rs.ext (ex2.trans e3) ps rps),s3,(ex.trans ex2).trans e3,h3⟩⟩
   ·have e:i=xs.length:=by omega
    subst e
    rw [List.drop_length] at h
    exact .inl ⟨w2 _ ρ H ex (Nat.le_refl _),yQ (by omega),fun l hl=>Out.newList h rs rps hl⟩
  | rf n =>
   obtain ⟨a,ha,rfl⟩:=wk
   refine ⟨fun i m ys H=>m+i=lim+1/\ys.length=i/\∃ps st ρ,Rs X.K X.mg ρ H ps ys/\StR X.K X.mg ρ H st/\Ext au H0 ρ H/\ρ[n]?=some a/\Out X.K X.mg ρ H (compR fe env n m i ps st) (gV X.K X.mg Q) Er,⟨lim+1,rfl,rfl,[],st0,au,rfl,s0,Ext.refl,ha,h0⟩,?_⟩
   rintro i m ys H ⟨hm,hy,ps,st,ρ,rps,rs,ex,ha,h⟩
   cases m with
   | zero=>exact False.elim h
   | succ m =>
    obtain ⟨xs,hn,h⟩:=jf h
    obtain ⟨vs,hH,hR⟩:=rs.addr hn ha
    cases hx:xs[i]? with
    | none =>
     simp only [hx] at h
     have:vs.length<=i:=by rw [<-hR.len];exact List.getElem?_eq_none_iff.mp hx
     exact .inl ⟨⟨vs,SqL.of hH,this⟩,yQ (by omega),fun l hl=>Out.newList h rs rps hl⟩
    | some x =>
     simp only [hx] at h
     obtain ⟨v,hv,rv⟩:=hR.get hx
     refine .inr ⟨⟨vs,v,SqL.of hH,hv⟩,yQ (by omega),fun v' H' y=>?_⟩
     obtain ⟨e1,y⟩:=y
     subst e1
     have e2:=y vs (SqL.of hH)
     rw [hv] at e2
     cases e2
     exact ⟨some x::env,st,ρ,(re.ext (e0.trans ex)).cons rv,rs,wn h fun aq H3 y st3 e3 s3 h3 v ry=>⟨m,Nat.lt_succ_self m,by omega,by simp [hy],ps++[y],st3,aq,Rs.snoc ry (Rs.ext e3 ps rps),s3,ex.trans e3,e3.get ha,h3⟩⟩⟩
theorem js {elt iter:Expr} {x:Str} {px:Pos} {scope:Scope} {src:zd->Mo Sq} {fe:zd->Mo PV} {N:List Str} (hc:X.calm=true) (S:CompSc X.env.scope scope x) (eN:X.N=N) (hN0:((".0" : Str)::x::N).Nodup)
  (hi:MI X Er (.Name x px) iter src) (he:∀cl C af aj fp,ME (cxC X scope cl x C af aj fp (fun _ _=>False)) XN elt fe)
  (hs:∀v,foldedSetIterable iter X.env v=pure v:=by intro _;rfl):ME X Er (.ListComp elt [⟨.Name x px,iter,[],0⟩] scope pos) (yr src fe) :=
 zoy hc S Hid.refl (eN▸hN0) hi he hs
end
section
variable {env:Env}{es:List Expr}{pos:Pos}
abbrev St1 (e:Expr) (es:List Expr) (env:Env):Prop:=starEach (e::es) env=(false,eval e env)::starEach es env
theorem zoz {c j}:St1 (.Constant c j pos) es env:=(rfl)
end
end Mi
namespace L2
open PySem PySem.Spec PyProof.Rows PySem.W
abbrev ZB (h:Heap) (z TI TO T:Addr) (f:Bool):Prop:=h.get? z=some { cls:=.type "zip", dict:=none,data:=.fields #[rawInt T,.bool f,.bool false,.ref TI,.ref TO],slots:=#[] }
section
variable {prog:Program}{w:World}{A:Around}{E:Value->Shared->Prop}{s:Shared}{z TI TO T i1 i2 t1 t2:Addr}{k:Nat}{xs ys:Array Value}{x y a b:Value}{S1 S2:Nat->Heap->Prop}{f:Bool}{o:Obj}
end
structure ZS (z TI TO i1 i2 a b:Addr) (xs ys:Array Value) (k:Nat) (h:Heap):Prop where
 zi:(IsZip h z TI TO .none/\∃u v,IsPair h TO u v)\/∃T f o,ZB h z TI TO T f/\h.get? T=some o
 ti:IsPair h TI (.ref i1) (.ref i2)
 s1:StT i1 a xs k h
 s2:StT i2 b ys k h
section
variable {prog:Program}{w:World}{A:Around}{E:Value->Shared->Prop}{s:Shared}{z TI TO i1 i2 a b:Addr}{k:Nat}{xs ys:Array Value}{x y:Value}
theorem ZS.type (st:ZS z TI TO i1 i2 a b xs ys k s.heap):s.TypeIs (.ref z) "zip" := by
 rcases st.zi with ⟨hz,_⟩|⟨T,f,o,hz,_⟩<;>exact ⟨_,hz,rfl⟩
end
structure Ap (d z TI TO i1 i2 a b:Addr):Prop where
 z:d≠z
 TI:d≠TI
 TO:d≠TO
 i1:d≠i1
 i2:d≠i2
 a:d≠a
 b:d≠b
section
variable {prog:Program}{w:World}{A:Around}{R:Result->Shared->Prop}{z TI TO i1 i2 a b d:Addr}{xs ys:Array Value}{keys:List Key}{vals:List V}
theorem ZS.keep {k:Nat}{h h':Heap}(st:ZS z TI TO i1 i2 a b xs ys k h) (P:Ap d z TI TO i1 i2 a b) (hs:Heap.SameBut d h h') (hd:∃o,h'.get? d=some o):ZS z TI TO i1 i2 a b xs ys k h':=by
 have up:∀c o,c≠d->h.get? c=some o->h'.get? c=some o:=fun c o n e=>hs.extBut _ _ n e
 obtain ⟨⟨⟨o1,g1,r1⟩,⟨p1,e1,t1⟩⟩,⟨⟨o2,g2,r2⟩,⟨p2,e2,t2⟩⟩⟩:=And.intro st.s1 st.s2
 refine ⟨?_,up _ _ P.TI.symm st.ti,⟨⟨o1,up _ _ P.i1.symm g1,r1⟩,⟨p1,up _ _ P.a.symm e1,t1⟩⟩,⟨⟨o2,up _ _ P.i2.symm g2,r2⟩,⟨p2,up _ _ P.b.symm e2,t2⟩⟩⟩
 rcases st.zi with ⟨hz,u,v,hTO⟩|⟨T,f,o,hz,hT⟩
 ·exact .inl ⟨up _ _ P.z.symm hz,u,v,up _ _ P.TO.symm hTO⟩
 ·by_cases e:T=d
  ·obtain ⟨o',ho'⟩:=hd
   exact .inr ⟨T,f,o',up _ _ P.z.symm hz,by rw [e];exact ho'⟩
  ·exact .inr ⟨T,f,o,up _ _ P.z.symm hz,up _ _ e hT⟩
end
section
variable {prog:Program}{w:World}{A:Around}{E:Value->Shared->Prop}{s:Shared}{z TI TO i1 i2 a b:Addr}{xs ys:Array Value}{keys:List Key}{vals:List V}
end
end L2
namespace Mi
open PySem L2 PySem.W PySem.Spec
section
variable {X:Cx}{K:Frag}{mg:Str->Option Value}{Er:XK}{e o:Expr}{es:List Expr}{pos p apos:Pos}{k:Nat}{x:Str}{m:List PV->Mo PV}{fs:zd->Mo (List PV)}{fo fa:zd->Mo PV}
end
section
variable {X:Cx}{K:Frag}{mg:Str->Option Value}{Er:XK}{e o:Expr}{es:List Expr}{pos p apos:Pos}{fs:zd->Mo (List PV)}{fo fa:zd->Mo PV}
def strsOf:List PV->Option (List Str)
 | []=>some []
 | .str z::r=>(strsOf r).map (z::·)
 | _::_=>none
theorem zhi {ρ:List Addr}{H:Hp}:∀{xs:List PV}{zs:List Str}{vs:List V},strsOf xs=some zs->Rs K mg ρ H xs vs->vs=(zs.map Sum.inr:List Key).map kV
 | [],zs,vs,e,h=>by cases e;cases h;rfl
 | .str z::r,zs,vs,e,h=>by
  simp only [strsOf,Option.map_eq_some_iff] at e
  obtain ⟨zr,e1,rfl⟩:=e
  obtain ⟨v,r',rfl,h1,h2⟩:=h
  cases h1
  rw [zhi e1 h2]
  rfl
 | .non::_,_,_,e,_=>by cases e
 | .bl _::_,_,_,e,_=>by cases e
 | .int _::_,_,_,e,_=>by cases e
 | .ty _::_,_,_,e,_=>by cases e
 | .tup _::_,_,_,e,_=>by cases e
 | .frl _::_,_,_,e,_=>by cases e
 | .ref _::_,_,_,e,_=>by cases e
 | .fn _::_,_,_,e,_=>by cases e
 | .kd _ _::_,_,_,e,_=>by cases e
 | .exo _ _ _::_,_,_,e,_=>by cases e
end
end Mi
namespace L2
open PySem PySem.Spec PyProof.Rows PySem.W
end L2
namespace Mi
open PySem L2 PySem.W PySem.Spec
section
variable {X:Cx}{Er:XK}{pos:Pos}{sts:List Stmt}{gb:zd->Mo Fl}{fs:zd->Mo (List PV)}
def zba:List PV->Mo Nat
 | [.ref n],st=>ye st n fun _=>.ok n st
 | _,_=>.stuck
theorem zoA {α:Type}{K:Frag}{mg:Str->Option Value}{ρ:List Addr}{H:Hp}{vs:List PV}{st:Sto}{f:Nat->Mo α}{good:List Addr->Hp->α->Sto->Prop}(h:Out K mg ρ H ((zba vs st).bind f) good Er):∃n xs,vs=[.ref n]/\st[n]?=some (.lst xs)/\Out K mg ρ H (f n st) good Er:=by
 unfold zba at h
 split at h
 ·rename_i n
  unfold ye at h
  cases hn:st[n]? with
  | none=>simp only [hn] at h;exact False.elim h
  | some so =>
   cases so with
   | lst xs=>simp only [hn] at h;exact ⟨n,xs,rfl,hn,h⟩
   | _=>simp only [hn] at h;exact False.elim h
 ·exact False.elim h
end
section
variable {X:Cx}{Er:XK}{pos:Pos}{fs:zd->Mo (List PV)}
end
end Mi
namespace L2
open PySem PySem.Spec PyProof.Rows PySem.W
theorem zhj:∀{is:List Int}{its:List Value},Vals (is.map V.int) its->(∀v∈its,∃a t,v=Value.int a t)/\numsOf its=is
 | [],_,.nil=>⟨fun _ h=>absurd h (by simp),rfl⟩
 | i::is,_,.cons r rs=>by
  obtain ⟨t,rfl⟩:=r
  obtain ⟨h1,h2⟩:=zhj rs
  refine ⟨fun v hv=>?_,by show i::numsOf _=_;rw [h2]⟩
  rcases List.mem_cons.mp hv with q|q
  ·exact ⟨i,t,q⟩
  ·exact h1 v q
theorem zoB {X:Cx} (hc:X.calm=true):CallR X (.builtin "sum") (fun xs H Q=>∃(a:Addr) (is:List Int),xs=[V.ref a]/\SqL X.K H a (is.map V.int)/\Q (.int is.sum) H):=by
 intro pins s U H xs us Q I r h
 obtain ⟨a,is,rfl,hq,q⟩:=h
 obtain ⟨u,rfl,ru⟩:=r.one
 obtain rfl:u=Value.ref a:=ru
 obtain ⟨its,rv,p,hz⟩:=I.list hq
 obtain ⟨h1,h2⟩:=zhj rv
 obtain ⟨ys,e⟩:=AllInts.items (vs:=its.toArray) (fun v hv=>h1 v (by simpa using hv))
 have hl:=p.isList
 rw [e] at hl
 refine sum_intListG (I.ok.hd hc) hl fun h' tk t' hk=>?_
 have es:preSum (numAt ys) ys.size=is.sum:=by
  rw [preSum_eq,List.take_of_length_le (by simp),<-nums_intItems,<-e]
  show (numsOf its).sum=_
  rw [h2]
 rw [es]
 exact ⟨.int is.sum,H,I.kept (t':=tk) hk,⟨_,rfl⟩,q⟩
def repS (z:Str) (n:Int):Str:=if n<1 then Str.empty else if (n==1||z.length==0)=true then z else ⟨(List.replicate n.toNat z.cps).foldl (·++·) #[]⟩
theorem zhk (c:Array Nat):∀(k:Nat) (a:Array Nat),((List.replicate k c).foldl (·++·) a).size=a.size+k*c.size
 | 0,a=>by simp
 | k+1,a=>by
  rw [List.replicate_succ,List.foldl_cons,zhk c k,Array.size_append,Nat.succ_mul]
  omega
theorem zoC (z:Str) (n:Int):(repS z n).length=n.toNat*z.length:=by
 unfold repS
 split
 ·rename_i h
  have:n.toNat=0:=by omega
  rw [this,Nat.zero_mul];rfl
 ·rename_i h
  split
  ·rename_i h2
   simp only [Bool.or_eq_true,beq_iff_eq] at h2
   rcases h2 with h2|h2
   ·subst h2;simp
   ·rw [h2];simp
  ·show ((List.replicate n.toNat z.cps).foldl (·++·) #[]).size=_
   rw [zhk]
   show 0+n.toNat*z.cps.size=_
   rw [Nat.zero_add];rfl
def zhl:R2:=fun x y H Q=>∃z n,x=.str z/\y=.int n/\(0<=n/\n<=1000/\z.length<=1000)/\Q (.str (repS z n)) H
theorem zoD {X:Cx}:OpR X (binaryOp .Mult) zhl:=by
 intro pins s U H x y v u Q I rx ry h
 obtain ⟨z,n,rfl,rfl,⟨h0,h1,h2⟩,q⟩:=h
 obtain ⟨t,rfl⟩:=rx
 obtain ⟨t',rfl⟩:=ry
 have hb:n.toNat*z.length<=1000000:=by
  have:n.toNat<=1000:=by omega
  calc n.toNat*z.length<=1000*1000:=Nat.mul_le_mul this h2
   _=1000000:=rfl
 have hsz:=sizeLine_eq
 refine PySem.P.mul_str (by rw [decide_eq_false (by omega),decide_eq_false (by omega)];rfl) (fun ha _=>?_) (fun _ _=>?_) ?_
 ·have:(2 ^ 63-1:Int)/n>=1000:=by
   rw [ge_iff_le,Int.le_ediv_iff_mul_le (by omega)]
   omega
  omega
 ·show decide _=false
  rw [decide_eq_false_iff_not]
  have:z.length*n.toNat<=1000000:=by rw [Nat.mul_comm];exact hb
  rw [sizeLine_eq];omega
 ·by_cases c1:n<1
  ·rw [if_pos c1]
   have e:repS z n=Str.empty:=by unfold repS;rw [if_pos c1]
   rw [e] at q
   exact ⟨by decide,.str Str.empty,H,I.tok _,⟨_,rfl⟩,q⟩
  ·rw [if_neg c1]
   by_cases c2:(n==1||z.length==0)=true
   ·rw [if_pos c2]
    have e:repS z n=z:=by unfold repS;rw [if_neg c1,if_pos c2]
    rw [e] at q
    exact ⟨.str z,H,I,⟨_,rfl⟩,q⟩
   ·rw [if_neg c2]
    have e:repS z n=⟨(List.replicate n.toNat z.cps).foldl (·++·) #[]⟩:=by unfold repS;rw [if_neg c1,if_neg c2]
    have hl:=zoC z n
    rw [e] at q hl
    exact ⟨by rw [hl,sizeLine_eq];omega,.str _,H,I.tok _,⟨_,rfl⟩,q⟩
end L2
namespace Mi
open PySem L2 PySem.W PySem.Spec
section
variable {X:Cx}{K:Frag}{mg:Str->Option Value}{Er:XK}{e o:Expr}{es:List Expr}{pos apos:Pos}{fs:zd->Mo (List PV)}{fo fa:zd->Mo PV}
def yG:PV->PV->Mo PV
 | .int i,.int j,st=>zgB (.int i) (.int j) st
 | .str z,.int n,st=>if 0<=n/\n<=1000/\z.length<=1000 then .ok (.str (repS z n)) st else .stuck
 | _,_,_=>.stuck
theorem j4:BinOk X .Mult yG:=by
 obtain ⟨r,h1,h2⟩:=zng (X:=X)
 refine ⟨fun x y H Q=>r x y H Q\/zhl x y H Q,h1.or zoD,fun ρ H st x y v w Q E s rx ry h=>?_⟩
 cases x with
 | int i =>
  cases y with
  | int j=>exact .inl (h2 ρ H st (.int i) (.int j) v w Q E s rx ry h)
  | _=>exact False.elim h
 | str z =>
  cases y with
  | int n =>
   obtain ⟨c,h⟩:=Out.ifp h
   cases rx;cases ry
   exact .inr ⟨z,n,rfl,rfl,c,Out.now (x:=PV.str (repS z n)) h s _ rfl⟩
  | _=>exact False.elim h
 | _=>exact False.elim h
def intsP:List PV->Option (List Int)
 | []=>some []
 | .int i::r=>(intsP r).map (i::·)
 | _::_=>none
theorem zhm {ρ:List Addr}{H:Hp}:∀{xs:List PV}{is:List Int}{vs:List V},intsP xs=some is->Rs K mg ρ H xs vs->vs=is.map V.int
 | [],is,vs,e,h=>by cases e;cases h;rfl
 | .int i::r,is,vs,e,h=>by
  simp only [intsP,Option.map_eq_some_iff] at e
  obtain ⟨ir,e1,rfl⟩:=e
  obtain ⟨v,r',rfl,h1,h2⟩:=h
  cases h1
  rw [zhm e1 h2]
  rfl
 | .non::_,_,_,e,_=>by cases e
 | .bl _::_,_,_,e,_=>by cases e
 | .str _::_,_,_,e,_=>by cases e
 | .ty _::_,_,_,e,_=>by cases e
 | .tup _::_,_,_,e,_=>by cases e
 | .frl _::_,_,_,e,_=>by cases e
 | .ref _::_,_,_,e,_=>by cases e
 | .fn _::_,_,_,e,_=>by cases e
 | .kd _ _::_,_,_,e,_=>by cases e
 | .exo _ _ _::_,_,_,e,_=>by cases e
def jI:List PV->Mo PV:=fun vs st=>(zba vs st).bind fun n st=>ye st n fun xs=>match intsP xs with
 | some is=>.ok (.int is.sum) st
 | none=>.stuck
theorem zaw (hc:X.calm=true):BltOk X (.builtin "sum") jI:=⟨_,zoB hc,fun ρ H st xs vs Q E s r h=>by
 obtain ⟨n,ys,rfl,hn,h⟩:=zoA h
 obtain ⟨xs',hn',h⟩:=jf h
 obtain ⟨v,rfl,rv⟩:=r.one
 obtain ⟨a,rfl,ha⟩:=rv
 obtain ⟨ws,hH,hR⟩:=s.addr hn' ha
 cases hi:intsP xs' with
 | none=>simp only [hi] at h;exact False.elim h
 | some is =>
  simp only [hi] at h
  have e:=zhm hi hR
  subst e
  exact ⟨a,is,rfl,SqL.of hH,Out.now (x:=PV.int is.sum) h s _ rfl⟩⟩
theorem zax:bootBuiltins "sum" = some (.builtin "sum"):=by decide +kernel
def strE:List Expr->Option (List Str)
 | []=>some []
 | .Constant (.str z) _ _::r=>(strE r).map (z::·)
 | _::_=>none
def zdY (zs:List Str):zd->Mo (List PV):=fun _ st=>.ok (zs.map PV.str) st
theorem zoE:∀{es:List Expr}{zs:List Str},strE es=some zs->MA X Er es (zdY zs):=by
 intro es
 induction es with
 | nil=>intro zs h;cases h;exact zn
 | cons e r ih =>
  intro zs h
  cases e with
  | Constant c j p =>
   cases c with
   | str z =>
    simp only [strE,Option.map_eq_some_iff] at h
    obtain ⟨zr,h1,rfl⟩:=h
    exact zgz zW (ih h1) zoz
   | _=>cases h
  | _=>cases h
end
section
variable {env:zd}{st:Sto}{fa fb fo fi fv fe:zd->Mo PV}{fs:zd->Mo (List PV)}{ft:zd->Mo Bool}{g:zd->Mo Fl}{src:zd->Mo Sq}
@[simp] theorem zhn (xs:List PV) (i:Int):zq (.tup xs) (.int i) st=optR (atI xs i) st:=(rfl)
@[simp] theorem ztF (xs:List PV) (i:Int):zq (.frl xs) (.int i) st=optR (atI xs i) st:=(rfl)
@[simp] theorem zbb (n:Nat) (i:Int):zq (.ref n) (.int i) st=ye st n fun xs=>optR (atI xs i) st:=(rfl)
@[simp] theorem zcu (z:Str) (i:Int):zq (.str z) (.int i) st=if z.length<=lim then optR ((atI z.cps.toList i).map fun c=>.str ⟨#[c]⟩) st else .stuck:=(rfl)
@[simp] theorem zbc:yr src fe env st=(src env st).bind fun q st1=>compS fe env q st1:=(rfl)
@[simp] theorem zoF (xs:List PV):compS fe env (.im xs) st=if xs.length<=lim then compL fe env xs [] st else .stuck:=(rfl)
@[simp] theorem w6:iRng1 fs env st=(fs env st).bind wG:=(rfl)
@[simp] theorem zho (j:Int):wG [.int j] st=if cR j=true then .ok (.im (nums 0 j.toNat)) st else .stuck:=(rfl)
@[simp] theorem zhp (n:Nat):zba [.ref n] st=ye st n fun _=>.ok n st:=(rfl)
@[simp] theorem zoG (zs:List Str):zdY zs env st=.ok (zs.map PV.str) st:=(rfl)
@[simp] theorem zoH (i j:Int):yG (.int i) (.int j) st=if cMul i j=true then .ok (.int (i*j)) st else .stuck:=(rfl)
@[simp] theorem zhq (vs:List PV):jI vs st=(zba vs st).bind fun n st=>ye st n fun xs=>match intsP xs with|some is=>.ok (.int is.sum) st|none=>.stuck:=(rfl)
@[simp] theorem zoI (neg:Bool) (x:PV) (ys:List PV):yx neg x (.tup ys) st=if okIn x ys then .ok (.bl (neg.xor (ys.any fun y=>eqP y x))) st else .stuck:=by unfold yx;cases x<;>rfl
theorem zoJ {neg:Bool}{x:PV}{n:Nat}{ys:List PV}(h:st[n]?=some (.lst ys)):yx neg x (.ref n) st=if okIn x ys then .ok (.bl (neg.xor (ys.any fun y=>eqP y x))) st else .stuck:=by unfold yx;cases x<;>(simp only [h])
@[simp] theorem zbd (n:Nat) (l u:Option Int):y4 (.ref n) l u st=ye st n fun xs=>.ok (.ref st.length) (st++[.lst (cutP xs l u)]):=(rfl)
@[simp] theorem w8 (n:Nat):jP [.ref n] st=ye st n fun xs=>.ok (.tup xs) st:=(rfl)
@[simp] theorem zhr (n:Nat) (y:PV):yS (.ref n) y st=ye st n fun xs=>if xs.length<lim then .ok .non (st.set n (.lst (xs++[y]))) else .stuck:=(rfl)
end
def Pre (a b:Sto):Prop:=∃d,b=a++d
theorem Pre.refl (st:Sto):Pre st st:=⟨[],by simp⟩
theorem Pre.of (st d:Sto):Pre st (st++d):=⟨d,rfl⟩
theorem Pre.get {a b:Sto}(h:Pre a b) {n:Nat}{so:SO}(e:a[n]?=some so):b[n]?=some so:=by
 obtain ⟨d,rfl⟩:=h
 rw [List.getElem?_append_left (List.getElem?_eq_some_iff.mp e).1]
 exact e
theorem yu (st:Sto) (so:SO):(st++[so])[st.length]?=some so:=by simp
theorem zhs {fe:zd->Mo PV}{env:zd}{f:PV->PV}{st:Sto}:∀(xs:List PV),(∀x∈xs,fe (some x::env) st=.ok (f x) st)->∀(ys:List PV),compL fe env xs ys st=.ok (.ref st.length) (st++[.lst (ys++xs.map f)])
 | [],_,ys=>by simp [compL]
 | x::xs,h,ys=>by
  simp only [compL,h x (List.mem_cons_self ..),zau,zJ]
  rw [zhs xs (fun x' hx'=>h x' (List.mem_cons_of_mem _ hx'))]
  simp
theorem zcv {fe:zd->Mo PV}{env:zd}{f:PV->PV}{st:Sto}{n:Nat}{xs:List PV}(hn:st[n]?=some (.lst xs)) (h:∀x∈xs,fe (some x::env) st=.ok (f x) st) :
  ∀(k i:Nat) (m:Nat) (ys:List PV),xs.length-i=k->i<=xs.length->k<m->compR fe env n m i ys st=.ok (.ref st.length) (st++[.lst (ys++(xs.drop i).map f)]):=by
 intro k
 induction k with
 | zero =>
  intro i m ys hk hi hm
  obtain ⟨m',rfl⟩:∃m',m=m'+1:=⟨m-1,by omega⟩
  have hi':i=xs.length:=by omega
  subst hi'
  simp [compR,ye,hn]
 | succ k ih =>
  intro i m ys hk hi hm
  obtain ⟨m',rfl⟩:∃m',m=m'+1:=⟨m-1,by omega⟩
  have hlt:i<xs.length:=by omega
  have e:xs[i]?=some xs[i]:=by simp [hlt]
  simp only [compR,ye,hn,e,h xs[i] (List.getElem_mem hlt),zau,zJ]
  rw [ih (i+1) m' _ (by omega) (by omega) (by omega),List.drop_eq_getElem_cons hlt]
  rw [List.map_cons,List.append_assoc,List.singleton_append]
theorem zoK {K:Frag}{mg:Str->Option Value}{t:IsT}(hs:t.sub=fun _ _=>none) (hT:t.subT=fun _ _=>none) (hC:t.tyC=fun _ _=>none):IsF K mg t where
 s c B b h:=by rw [hs] at h;cases h
 tt c n b h:=by rw [hT] at h;cases h
 u T B b h:=by rw [hC] at h;cases h
 x c C h hm z:=by
  rcases z with ⟨B,b,z⟩|⟨n,b,z⟩
  ·rw [hs] at z;cases z
  ·rw [hT] at z;cases z
 i c C h hm z:=by
  rcases z with ⟨B,b,z⟩|⟨n,b,z⟩
  ·rw [hs] at z;cases z
  ·rw [hT] at z;cases z
section
variable {X:Cx}{Er:XK}{pos:Pos}
inductive MPs (X:Cx) (Er:XK):List (Option Expr)->List Expr->List Str->List (zd->Mo PV)->Prop
 | nil:MPs X Er [] [] [] []
 | cons {z:Str} {j} {p:Pos} {v:Expr} {f:zd->Mo PV} {ks:List (Option Expr)} {vs:List Expr} {zs:List Str} {fs:List (zd->Mo PV)} (hv:ME X Er v f) (hr:MPs X Er ks vs zs fs):MPs X Er (some (.Constant (.str z) j p)::ks) (v::vs) (z::zs) (f::fs)
theorem MPs.len {ks:List (Option Expr)}{vs:List Expr}{zs:List Str}{fs:List (zd->Mo PV)}(h:MPs X Er ks vs zs fs):ks.length=vs.length/\zs.length=fs.length/\ks.length=zs.length/\ks.all (·.isSome)=true:=by
 induction h with
 | nil=>exact ⟨rfl,rfl,rfl,rfl⟩
 | cons hv hr ih=>exact ⟨by simp [ih.1],by simp [ih.2.1],by simp [ih.2.2.1],by simpa using ih.2.2.2⟩
end
section
variable {X:Cx}
def zay:List PV->Mo PV
 | [.int i,.int j],st=>.ok (.int (if j<i then j else i)) st
 | _,_=>.stuck
def zdZ:List PV->Mo PV
 | [.int i,.int j],st=>.ok (.int (if j>i then j else i)) st
 | _,_=>.stuck
theorem zoL (hc:X.calm=true):BltOk X (.builtin "min") zay:=⟨_,zkY hc,fun ρ H st xs vs Q E s r h=>by
 unfold zay at h
 split at h
 ·rename_i st' i j
  obtain ⟨v,w,rfl,r1,r2⟩:=r.two
  cases r1;cases r2
  exact ⟨i,j,rfl,Out.now (x:=PV.int (if j<i then j else i)) h s _ rfl⟩
 ·exact False.elim h⟩
theorem zoM (hc:X.calm=true):BltOk X (.builtin "max") zdZ:=⟨_,zkX hc,fun ρ H st xs vs Q E s r h=>by
 unfold zdZ at h
 split at h
 ·rename_i st' i j
  obtain ⟨v,w,rfl,r1,r2⟩:=r.two
  cases r1;cases r2
  exact ⟨i,j,rfl,Out.now (x:=PV.int (if j>i then j else i)) h s _ rfl⟩
 ·exact False.elim h⟩
theorem zoN:bootBuiltins "min" = some (.builtin "min"):=by decide +kernel
theorem zoO:bootBuiltins "max" = some (.builtin "max"):=by decide +kernel
end
section
variable {X:Cx}
theorem zoP:OpR X (compareOp .Is) (fun x y H Q=>∃a b,x=.bl a/\y=.bl b/\Q (.bl (a==b)) H):=by
 intro pins s U H x y v u Q I rx ry h
 obtain ⟨a,b,rfl,rfl,q⟩:=h
 cases rx;cases ry
 exact PyProof.Rows.is_bool ⟨.bl (a==b),H,I,rfl,q⟩
def zbe:PV->PV->Mo PV
 | .bl a,.bl b,st=>.ok (.bl (a==b)) st
 | x,y,st=>oIs x y st
theorem zoQ:CmpOk X .Is zbe:=by
 obtain ⟨r,h1,h2⟩:=znn (X:=X)
 refine ⟨fun x y H Q=>r x y H Q\/_,h1.or zoP,fun ρ H st x y v w Q E s rx ry h=>?_⟩
 unfold zbe at h
 split at h
 ·rename_i a b
  cases rx;cases ry
  exact .inr ⟨_,_,rfl,rfl,Out.now (x:=PV.bl (a==b)) h s _ rfl⟩
 ·exact .inl (h2 ρ H st _ _ v w Q E s rx ry h)
end
def allE (f:PV->PV->Option Bool):List PV->List PV->Option Bool
 | [],[]=>some true
 | x::xs,y::ys=>match f x y,allE f xs ys with
  | some a,some b=>some (a&&b)
  | _,_=>none
 | _,_=>some false
def hitsE (f:PV->PV->Option Bool) (ks':List Str) (xs':List PV):List Str->List PV->Option Bool
 | k::ks,x::xs=>match (ks'.zip xs').lookup k with
  | none=>some false
  | some y=>match f x y,hitsE f ks' xs' ks xs with
   | some a,some b=>some (a&&b)
   | _,_=>none
 | _,_=>some true
def jt (x y:PV):Option Bool:=if plain x=true/\plain y=true/\dep x<=100 then some (eqP x y) else none
def eqSO:Option SO->Option SO->Option Bool
 | some (.lst xs),some (.lst ys)=>allE jt xs ys
 | some (.dic ks xs),some (.dic ks' xs')=>if ks.Nodup/\ks.length=xs.length then if ks.length=ks'.length then hitsE jt ks' xs' ks xs else some false else none
 | _,_=>none
def eqS (st:Sto):Nat->PV->PV->Option Bool
 | n+1,.tup xs,.tup ys=>if plain (.tup xs)=true/\plain (.tup ys)=true/\dep (.tup xs)<=100 then some (eqP (.tup xs) (.tup ys)) else allE (eqS st n) xs ys
 | _+1,.ref a,.ref b=>eqSO st[a]? st[b]?
 | _,x,y=>jt x y
theorem zcw {f:PV->PV->Option Bool}:∀{xs ys:List PV}{b:Bool},allE f xs ys=some b->∃e:Nat->Bool,(∀j x y,xs[j]?=some x->ys[j]?=some y->f x y=some (e j))/\((List.range (min xs.length ys.length)).all e&&xs.length==ys.length)=b
 | [],[],b,h=>by cases h;exact ⟨fun _=>true,fun j x y h=>by simp at h,by simp⟩
 | [],y::ys,b,h=>by cases h;exact ⟨fun _=>true,fun j x y h=>by simp at h,by simp⟩
 | x::xs,[],b,h=>by cases h;exact ⟨fun _=>true,fun j x y _ h=>by simp at h,by simp⟩
 | x::xs,y::ys,b,h=>by
  simp only [allE] at h
  cases hf:f x y with
  | none=>rw [hf] at h;cases h
  | some a =>
   cases hr:allE f xs ys with
   | none=>rw [hf,hr] at h;cases h
   | some c =>
    rw [hf,hr] at h
    cases h
    obtain ⟨e,h1,h2⟩:=zcw hr
    refine ⟨fun j=>match j with|0=>a|j+1=>e j,fun j u v hu hv=>?_,?_⟩
    ·cases j with
     | zero=>simp at hu hv;subst hu;subst hv;exact hf
     | succ j=>simp at hu hv;exact h1 j u v hu hv
    ·have e1:min (x::xs).length (y::ys).length=min xs.length ys.length+1:=by simp only [List.length_cons];omega
     have e2:((x::xs).length==(y::ys).length)=(xs.length==ys.length):=by
      rw [Bool.eq_iff_iff];simp
     rw [e1,e2,List.range_succ_eq_map,List.all_cons,List.all_map,<-h2,Bool.and_assoc]
     rfl
section
variable {X:Cx}{Er:XK}{K:Frag}{mg:Str->Option Value}{ρ:List Addr}{pins:List (Addr×Obj)}{U:L2.St}{H:Hp}{s:Shared}{st:Sto}
theorem zcx (I:Inv X pins U H s) {x y:PV}{v:V}{b:Bool}(h:jt x y=some b) (rx:R X.K mg ρ H x v) (ry:R X.K mg ρ H y v):b=true:=by
 unfold jt at h
 split at h
 ·rename_i c
  cases h
  exact zcc I x y c.1 c.2.1 rx ry
 ·cases h
theorem zht {ρ:List Addr}(nd:ρ.Nodup) {n m:Nat}{a:Addr}(h:ρ[n]?=some a) (h':ρ[m]?=some a):n=m:=by
 obtain ⟨h1,h2⟩:=List.getElem?_eq_some_iff.mp h
 obtain ⟨h3,h4⟩:=List.getElem?_eq_some_iff.mp h'
 have pw:=List.pairwise_iff_getElem.mp nd
 rcases Nat.lt_trichotomy n m with c|c|c
 ·exact absurd (h2.trans h4.symm) (pw n m h1 h3 c)
 ·exact c
 ·exact absurd (h4.trans h2.symm) (pw m n h3 h1 c)
theorem zcy {f:PV->PV->Option Bool}(hf:∀x y v b,f x y=some b->R K mg ρ H x v->R K mg ρ H y v->b=true):∀{xs ys:List PV}{vs:List V}{b:Bool},allE f xs ys=some b->Rs K mg ρ H xs vs->Rs K mg ρ H ys vs->b=true
 | [],[],vs,b,h,_,_=>by cases h;rfl
 | [],y::ys,vs,b,h,rx,ry=>by cases rx;obtain ⟨_,_,e,_⟩:=ry;cases e
 | x::xs,[],vs,b,h,rx,ry=>by cases ry;obtain ⟨_,_,e,_⟩:=rx;cases e
 | x::xs,y::ys,vs,b,h,rx,ry=>by
  obtain ⟨v,r,rfl,r1,r2⟩:=rx
  obtain ⟨v',r',e,r3,r4⟩:=ry
  cases e
  simp only [allE] at h
  cases h1:f x y with
  | none=>rw [h1] at h;cases h
  | some a =>
   cases h2:allE f xs ys with
   | none=>rw [h1,h2] at h;cases h
   | some c =>
    rw [h1,h2] at h
    cases h
    rw [hf x y v a h1 r1 r3,zcy hf h2 r2 r4]
    rfl
theorem zd0 {f:PV->PV->Option Bool}(hf:∀x v b,f x x=some b->R K mg ρ H x v->b=true) {ks0:List Str}{xs0:List PV}:∀{ks:List Str}{xs:List PV}{vs:List V}{b:Bool},(∀k x,(k,x)∈ks.zip xs->(ks0.zip xs0).lookup k=some x)->hitsE f ks0 xs0 ks xs=some b->Rs K mg ρ H xs vs->b=true
 | [],xs,vs,b,_,h,_=>by cases xs<;>(cases h;rfl)
 | k::ks,[],vs,b,_,h,_=>by cases h;rfl
 | k::ks,x::xs,vs,b,hm,h,rx=>by
  obtain ⟨v,r,rfl,r1,r2⟩:=rx
  simp only [hitsE] at h
  rw [hm k x (by simp)] at h
  simp only at h
  cases h1:f x x with
  | none=>rw [h1] at h;cases h
  | some a =>
   cases h2:hitsE f ks0 xs0 ks xs with
   | none=>rw [h1,h2] at h;cases h
   | some c =>
    rw [h1,h2] at h
    cases h
    rw [hf x v a h1 r1,zd0 hf (fun k' x' h'=>hm k' x' (by simp [h'])) h2 r2]
    rfl
theorem zd1:∀{ks:List Str}{xs:List PV},ks.Nodup->∀k x,(k,x)∈ks.zip xs->(ks.zip xs).lookup k=some x
 | [],_,_,k,x,h=>by simp at h
 | _::_,[],_,k,x,h=>by simp at h
 | k0::ks,x0::xs,nd,k,x,h=>by
  rw [List.nodup_cons] at nd
  rw [List.zip_cons_cons] at h ⊢
  rcases List.mem_cons.mp h with e|h'
  ·cases e;simp [List.lookup_cons]
  ·have hk:k∈ks:=(List.of_mem_zip h').1
   have ne:(k==k0)=false:=by
    simp only [beq_eq_false_iff_ne]
    intro e;subst e;exact nd.1 hk
   rw [List.lookup_cons,ne]
   exact zd1 nd.2 k x h'
theorem zhu {n:Nat}{x y:PV}(ht:¬∃xs ys,x=.tup xs/\y=.tup ys) (hr:¬∃i j,x=.ref i/\y=.ref j):eqS st n x y=jt x y:=by
 unfold eqS
 split
 ·exact absurd ⟨_,_,rfl,rfl⟩ ht
 ·exact absurd ⟨_,_,rfl,rfl⟩ hr
 ·rfl
theorem zhv (I:Inv X pins U H s) (S:StR X.K mg ρ H st):∀(n:Nat) (x y:PV) (v:V) (b:Bool),eqS st n x y=some b->R X.K mg ρ H x v->R X.K mg ρ H y v->b=true:=by
 intro n
 induction n with
 | zero=>intro x y v b h rx ry;exact zcx I (by simpa [eqS] using h) rx ry
 | succ n ih =>
  intro x y v b h rx ry
  by_cases ht:∃xs ys,x=.tup xs/\y=.tup ys
  ·obtain ⟨xs,ys,rfl,rfl⟩:=ht
   simp only [eqS] at h
   split at h
   ·rename_i c
    cases h
    exact zcc I _ _ c.1 c.2.1 rx ry
   ·obtain ⟨a,vs,rfl,h1,h2⟩:=rx
    obtain ⟨a',ws,e,h3,h4⟩:=ry
    cases e
    have:=I.tuple_inj h1 h3
    subst this
    exact zcy (fun x y v b=>ih x y v b) h h2 h4
  by_cases hr:∃i j,x=.ref i/\y=.ref j
  ·obtain ⟨i,j,rfl,rfl⟩:=hr
   obtain ⟨a,rfl,h1⟩:=rx
   obtain ⟨a',e,h2⟩:=ry
   cases e
   obtain rfl:=zht S.nd h1 h2
   have h:eqSO st[i]? st[i]?=some b:=h
   obtain ⟨so,e,q⟩:=S.in_ h1
   rw [e] at h
   cases so with
   | lst xs =>
    obtain ⟨vs,_,k2⟩:=q
    exact zcy (fun x y v b e r r'=>zcx I e r r') (show allE jt xs xs=some b from h) k2 k2
   | dic ks xs =>
    obtain ⟨vs,_,k2,_⟩:=q
    simp only [eqSO] at h
    split at h
    ·rename_i nd
     exact zd0 (fun x v b e r=>zcx I e r r) (zd1 nd.1) (show hitsE jt ks xs ks xs=some b by simpa using h) k2
    ·cases h
   | ins c ks xs=>cases h
   | fdi ks xs=>cases h
  ·rw [zhu ht hr] at h
   exact zcx I h rx ry
end
def EqW (P:Program) (W:World) (A:Around) (s:Shared) (u u':Value) (b:Bool):Prop:=∀(E:Value->Shared->Prop) (Q:Bool->Shared->Prop),Q b s->wpAny (model P W) A (eqBool u u') Q E s
def RcW (P:Program) (W:World) (A:Around) (s:Shared) (u u':Value) (b:Bool):Prop:=∀(E Q:Value->Shared->Prop),Q (.bool b) s->wpAny (model P W) A (richCompare .Eq u u') Q E s
section
variable {P:Program}{W:World}{A:Around}{s:Shared}
theorem EqW.of_refs {l b:Addr}{k:Bool}(hne:l≠b) (h:RcW P W A s (.ref l) (.ref b) k):EqW P W A s (.ref l) (.ref b) k:=fun E Q hq=>by
 unfold eqBool
 refine wpAny_holding (wpAny_ite_split (fun hab=>absurd (by have:=eq_of_beq hab;injection this) hne) fun _=>?_)
 exact wpAny_bind (h E _ (wpAny_truthy_bool hq))
theorem zoR {l b:Addr}{its its2:Array Value}{n n2:Nat}{dd dd2:Option Addr}{sl sl2:Array (Option Value)}{e:Nat->Bool}{E Q:Value->Shared->Prop}
  (hl:s.heap.get? l=some { cls:=.type "tuple", dict:=dd,data:=.seq its n,slots:=sl }) (hb:s.heap.get? b=some { cls:=.type "tuple", dict:=dd2,data:=.seq its2 n2,slots:=sl2 })
  (he:∀j (h1:j<its.size) (h2:j<its2.size),EqW P W A.in1 s its[j] its2[j] (e j)) (h:Q (.bool ((List.range (min its.size its2.size)).all e&&its.size==its2.size)) s) :
  wpAny (model P W) A.in1 (Builtin.«tuple.__eq__» ⟨[.ref l,.ref b],[]⟩) (fun fin s'=>∃v,fin=.done (.ret v)/\Q v s') E s:=by
 obtain ⟨hp,g,d,tk,os⟩:=s
 have f2:=AutoSeq1.sub_tuple_tuple
 have hZ:(its.toList.zip its2.toList).length=min its.size its2.size:=by simp
 wp_walk using AutoSeq1.wpAny_loadPart' hl,AutoSeq1.wpAny_loadPart' hb,wpAny_forIn_list _ (fun rest b s'=>b.1=none/\s'=⟨hp,g,d,tk,os⟩/\∃i,rest=(its.toList.zip its2.toList).drop i/\Q (.bool (((List.range (min its.size its2.size)).drop i).all e&&its.size==its2.size)) ⟨hp,g,d,tk,os⟩) _
 case turn =>
  rintro ⟨y,x⟩ rest b s' ⟨hb',rfl,i,hz,hR⟩
  have hlt:i<(its.toList.zip its2.toList).length:=by
   rcases Nat.lt_or_ge i (its.toList.zip its2.toList).length with h'|h'
   ·exact h'
   ·rw [List.drop_of_length_le h'] at hz;cases hz
  have hm:i<min its.size its2.size:=hZ▸hlt
  have h1:i<its.size:=by omega
  have h2:i<its2.size:=by omega
  rw [List.drop_eq_getElem_cons hlt] at hz
  injection hz with hyx hrest
  have hy:y=its[i]:=by have:=congrArg Prod.fst hyx;simpa using this
  have hx:x=its2[i]:=by have:=congrArg Prod.snd hyx;simpa using this
  subst hy hx
  have hd:(List.range (min its.size its2.size)).drop i=i::(List.range (min its.size its2.size)).drop (i+1):=by simp [List.drop_eq_getElem_cons,hm]
  rw [hd,List.all_cons] at hR
  refine wpAny_bind (he i h1 h2 _ _ ?_)
  cases hy:e i with
  | true =>
   rw [hy] at hR
   wp_walk
   exact ⟨rfl,rfl,i+1,hrest,by simpa using hR⟩
  | false =>
   rw [hy] at hR
   wp_walk
   exact ⟨_,rfl,by simpa using hR⟩
 case fin =>
  rintro ⟨b1,b2⟩ s' ⟨hb',rfl,i,hz,hR⟩
  simp only at hb'
  subst hb'
  have hge:min its.size its2.size<=i:=by
   rcases Nat.lt_or_ge i (its.toList.zip its2.toList).length with h'|h'
   ·rw [List.drop_eq_getElem_cons h'] at hz;cases hz
   ·exact hZ▸h'
  rw [List.drop_of_length_le (by simpa using hge)] at hR
  wp_walk
  exact ⟨_,rfl,by simpa [Builtin.Tuple.tupleCompareSizes] using hR⟩
 case h=>exact ⟨rfl,rfl,0,rfl,by simpa using h⟩
theorem RcW.tuples {l b:Addr}{its its2:Array Value}{e:Nat->Bool}(hl:s.heap.IsTuple l its) (hb:s.heap.IsTuple b its2) (hu:A.units<cLine)
  (he:∀j (h1:j<its.size) (h2:j<its2.size),EqW P W A.in1 s its[j] its2[j] (e j)):RcW P W A s (.ref l) (.ref b) ((List.range (min its.size its2.size)).all e&&its.size==its2.size):=fun E Q h=>by
 obtain ⟨⟨cls,dd,data,sl⟩,ho,hc,n,hd⟩:=id hl
 obtain ⟨⟨cls2,dd2,data2,sl2⟩,ho2,hc2,n2,hd2⟩:=id hb
 simp only at hc hd hc2 hd2
 subst hc hd hc2 hd2
 refine wpAny_richCompare_same_room (op:=.Eq) ⟨_,ho,rfl⟩ ⟨_,ho2,rfl⟩ F.slot_tuple_eq (wpAny_call_entry F.slot_tuple_eq ⟨_,ho,rfl⟩ F.entry_tuple_eq (zoR (Q:=fun v s'=>v ≠ .notImplemented/\Q v s') ho ho2 he (show Value.bool ((List.range (min its.size its2.size)).all e&&its.size==its2.size)≠Value.notImplemented/\Q (.bool ((List.range (min its.size its2.size)).all e&&its.size==its2.size)) s from ⟨(fun x=>nomatch x),h⟩)) (F.args_tuple_eq_2 _ _)) hu
end
section
variable {X:Cx}{Er:XK}{K:Frag}{mg:Str->Option Value}{ρ:List Addr}{pins:List (Addr×Obj)}{U:L2.St}{H:Hp}{s:Shared}{st:Sto}
theorem zd2 {k:Str}{ks:List Str}{v:V}{vs:List V}{us:List (Key×Value)}(h:KV (kz (k::ks) (v::vs)) us):∃u r,us=(Sum.inr k,u)::r/\RelV v u/\KV (kz ks vs) r:=by
 cases h with
 | @cons p q ps qs h t =>
  obtain ⟨h1,h2⟩:=h
  obtain ⟨k',u⟩:=q
  have:k'=Sum.inr k:=h1.symm
  subst this
  exact ⟨u,qs,rfl,h2,t⟩
theorem zd3 {f:Str}:∀{ks:List Str}{xs:List PV}{vs:List V},Rs K mg ρ H xs vs->(ks.zip xs).lookup f=none->(ks.zip vs).lookup f=none
 | [],_,_,_,_=>by simp
 | k::ks,[],_,r,_=>by cases r;simp
 | k::ks,y::xs,_,r,h=>by
  obtain ⟨v,r',rfl,h1,h2⟩:=r
  simp only [List.zip_cons_cons,List.lookup_cons] at h ⊢
  split at h
  ·cases h
  ·exact zd3 h2 h
theorem zhw {A:Around}{f:PV->PV->Option Bool}(hf:∀x y v w u u' b,f x y=some b->R K mg ρ H x v->R K mg ρ H y w->RelV v u->RelV w u'->SeqAt.EqAt A s u u' b) {ks':List Str}{xs':List PV}{ws:List V}{kb:List (Key×Value)}(r':Rs K mg ρ H xs' ws) (kv':KV (kz ks' ws) kb) :
  ∀{ks:List Str} {xs:List PV} {vs:List V} {ka:List (Key×Value)} {b:Bool},ks.length=vs.length->Rs K mg ρ H xs vs->KV (kz ks vs) ka->hitsE f ks' xs' ks xs=some b->KeqHits A s kb ka b
 | [],xs,[],ka,b,_,_,kv,h=>by
  have:b=true:=by cases xs<;>(cases h;rfl)
  subst this
  cases kv
  exact .nil
 | [],xs,_::_,ka,b,hl,_,_,_=>by simp at hl
 | k::ks,xs,[],ka,b,hl,_,_,_=>by simp at hl
 | k::ks,xs,v::vs,ka,b,hl,r,kv,h=>by
  obtain ⟨u,ka',rfl,ru,kv2⟩:=zd2 kv
  cases xs with
  | nil=>cases r
  | cons x xs =>
   obtain ⟨v',rs',e,r1,r2⟩:=r
   cases e
   simp only [hitsE] at h
   have hv:=kv'.val (Sum.inr k)
   rw [zav] at hv
   cases hl2:(ks'.zip xs').lookup k with
   | none =>
    rw [hl2] at h
    cases h
    rw [zd3 r' hl2] at hv
    cases hu:valueAt kb (Sum.inr k) with
    | none=>exact .miss hu
    | some _=>rw [hu] at hv;exact (show False from hv).elim
   | some y =>
    rw [hl2] at h
    simp only at h
    cases h1:f x y with
    | none=>rw [h1] at h;cases h
    | some a =>
     cases h2:hitsE f ks' xs' ks xs with
     | none=>rw [h1,h2] at h;cases h
     | some c =>
      rw [h1,h2] at h
      cases h
      obtain ⟨w,hw,rw'⟩:=wg r' hl2
      rw [hw] at hv
      cases hu:valueAt kb (Sum.inr k) with
      | none=>rw [hu] at hv;exact (show False from hv).elim
      | some u' =>
       rw [hu] at hv
       exact .hit hu (hf x y v w u u' a h1 r1 rw' ru hv) (zhw hf r' kv' (by simpa using hl) r2 kv2 h2)
theorem zd4 (I:Inv X pins U H s) {x y:PV}{v w:V}{u u':Value}{b:Bool}{A:Around}(h:jt x y=some b) (rx:R X.K mg ρ H x v) (ry:R X.K mg ρ H y w) (rv:RelV v u) (rw:RelV w u') (hu:A.units+100<cLine):SeqAt.EqAt A s u u' b/\SeqAt.RcAt A s u u' b:=by
 unfold jt at h
 split at h
 ·rename_i c
  cases h
  have:=zce I 100 x y A c.2.2 c.1 c.2.1 rx ry rv rw (by omega)
  exact ⟨this.1,this.2.1⟩
 ·cases h
theorem zd5 {f:PV->PV->Option Bool}{G:Value->Value->Bool->Prop}(hf:∀x y v w u u' b,f x y=some b->R K mg ρ H x v->R K mg ρ H y w->RelV v u->RelV w u'->G u u' b) {xs ys:List PV}{vs ws:List V}{its its2:List Value}{e:Nat->Bool}(h2:Rs K mg ρ H xs vs) (h4:Rs K mg ρ H ys ws) (r1:Vals vs its) (r2:Vals ws its2) (he:∀j x y,xs[j]?=some x->ys[j]?=some y->f x y=some (e j)) :
  ∀j (g1:j<its.toArray.size) (g2:j<its2.toArray.size),G its.toArray[j] its2.toArray[j] (e j):=by
 intro j g1 g2
 have l1:=h2.len
 have l2:=h4.len
 have l3:=r1.length
 have l4:=r2.length
 have k1:j<xs.length:=by rw [l1,l3];simpa using g1
 have k2:j<ys.length:=by rw [l2,l4];simpa using g2
 obtain ⟨v1,e1,rr1⟩:=h2.get (List.getElem?_eq_getElem k1)
 obtain ⟨v2,e2,rr2⟩:=h4.get (List.getElem?_eq_getElem k2)
 obtain ⟨u1,f1,ru1⟩:=r1.get e1
 obtain ⟨u2,f2,ru2⟩:=r2.get e2
 have w1:its.toArray[j]=u1:=by
  obtain ⟨_,z⟩:=List.getElem?_eq_some_iff.mp f1
  simpa using z
 have w2:its2.toArray[j]=u2:=by
  obtain ⟨_,z⟩:=List.getElem?_eq_some_iff.mp f2
  simpa using z
 rw [w1,w2]
 exact hf xs[j] ys[j] v1 v2 u1 u2 (e j) (he j _ _ (List.getElem?_eq_getElem k1) (List.getElem?_eq_getElem k2)) rr1 rr2 ru1 ru2
theorem zoS (I:Inv X pins U H s) (S:StR X.K mg ρ H st):∀(n:Nat) (x y:PV) (v w:V) (u u':Value) (b:Bool) (A:Around),eqS st n x y=some b->R X.K mg ρ H x v->R X.K mg ρ H y w->RelV v u->RelV w u'->A.units+n+101<cLine ->
  EqW X.prog X.w A s u u' b/\RcW X.prog X.w A s u u' b:=by
 have base:∀(x y:PV) (v w:V) (u u':Value) (b:Bool) (A:Around),jt x y=some b->R X.K mg ρ H x v->R X.K mg ρ H y w->RelV v u->RelV w u'->A.units+100<cLine->EqW X.prog X.w A s u u' b/\RcW X.prog X.w A s u u' b:=by
  intro x y v w u u' b A h rx ry rv rw hu
  obtain ⟨h1,h2⟩:=zd4 I h rx ry rv rw hu
  exact ⟨fun E Q q=>h1 _ _ E Q q,fun E Q q=>h2 _ _ E Q q⟩
 intro n
 induction n with
 | zero=>intro x y v w u u' b A h rx ry rv rw hu;exact base x y v w u u' b A (by simpa [eqS] using h) rx ry rv rw (by omega)
 | succ n ih =>
  intro x y v w u u' b A h rx ry rv rw hu
  by_cases ht:∃xs ys,x=.tup xs/\y=.tup ys
  ·obtain ⟨xs,ys,rfl,rfl⟩:=ht
   have h0:=h
   simp only [eqS] at h0
   split at h0
   ·rename_i c
    exact base _ _ v w u u' b A (by unfold jt;rw [if_pos c];exact h0) rx ry rv rw (by omega)
   obtain ⟨a,vs,rfl,h1,h2⟩:=id rx
   obtain ⟨a',ws,rfl,h3,h4⟩:=id ry
   cases rv
   cases rw
   obtain ⟨its,r1,p1,_⟩:=I.tuple h1
   obtain ⟨its2,r2,p2,_⟩:=I.tuple h3
   obtain ⟨e,he,hb⟩:=zcw h0
   have it:=zd5 (G:=EqW X.prog X.w A.in1 s) (fun x y v w u u' b e r1 r2 r3 r4=>(ih x y v w u u' b A.in1 e r1 r2 r3 r4 (by rw [wW];omega)).1) h2 h4 r1 r2 he
   have eb:((List.range (min its.toArray.size its2.toArray.size)).all e&&its.toArray.size==its2.toArray.size)=b:=by
    rw [h2.len,h4.len,r1.length,r2.length] at hb
    simpa using hb
   have rc:RcW X.prog X.w A s (.ref a) (.ref a') b:=by
    rw [<-eb]
    exact RcW.tuples (show s.heap.IsTuple a its.toArray from p1) (show s.heap.IsTuple a' its2.toArray from p2) (by omega) it
   refine ⟨?_,rc⟩
   by_cases hab:a=a'
   ·subst hab
    rw [zhv I S (n+1) _ _ _ _ h rx ry]
    exact fun E Q q=>SeqAt.EqAt.same _ _ _ E Q q
   ·exact .of_refs hab rc
  by_cases hr:∃i j,x=.ref i/\y=.ref j
  ·obtain ⟨i,j,rfl,rfl⟩:=hr
   obtain ⟨a,rfl,h1⟩:=id rx
   obtain ⟨a',rfl,h2⟩:=id ry
   cases rv
   cases rw
   have h0:eqSO st[i]? st[j]?=some b:=h
   obtain ⟨so,e1,q1⟩:=S.in_ h1
   obtain ⟨so',e2,q2⟩:=S.in_ h2
   rw [e1,e2] at h0
   have both:RcW X.prog X.w A s (.ref a) (.ref a') b:=by
    cases so with
    | lst xs =>
     cases so' with
     | lst ys =>
      obtain ⟨vs,k1,k2⟩:=q1
      obtain ⟨ws,k3,k4⟩:=q2
      obtain ⟨its,r1,p1,_⟩:=I.list (SqL.of k1)
      obtain ⟨its2,r2,p2,_⟩:=I.list (SqL.of k3)
      obtain ⟨e,he,hb⟩:=zcw (show allE jt xs ys=some b from h0)
      have it:=zd5 (G:=SeqAt.EqAt A.in1 s) (fun x y v w u u' b e r1 r2 r3 r4=>(zd4 I e r1 r2 r3 r4 (by rw [wW];omega)).1) k2 k4 r1 r2 he
      rw [k2.len,k4.len,r1.length,r2.length] at hb
      by_cases hz:its.toArray.size=its2.toArray.size
      ·have eb:(List.range its.toArray.size).all e=b:=by
        have hz':its.length=its2.length:=by simpa using hz
        rw [hz'] at hb
        simp only [hz,List.size_toArray]
        simpa using hb
       rw [<-eb];exact fun E Q q=>SeqAt.RcAt.lists p1.isList p2.isList hz (by omega) it _ _ E Q q
      ·have hz':¬its.length=its2.length:=by simpa using hz
       have eb:b=false:=by rw [<-hb];simp [hz']
       rw [eb]
       exact fun E Q q=>SeqAt.RcAt.lists_lengths p1.isList p2.isList (by simpa using hz) (by omega) _ _ E Q q
     | dic _ _=>cases h0
     | fdi _ _=>cases h0
     | ins _ _ _=>cases h0
    | dic ks xs =>
     cases so' with
     | dic ks' xs' =>
      obtain ⟨vs,k1,k2,k3⟩:=q1
      obtain ⟨ws,k4,k5,k6⟩:=q2
      obtain ⟨_,s1,ka,kva,da⟩:=yT I.hok (.inl k1)
      obtain ⟨_,s2,kb,kvb,db⟩:=yT I.hok (.inl k4)
      have la:ka.length=ks.length:=by rw [<-kva.length];simp [kz,k3]
      have lb:kb.length=ks'.length:=by rw [<-kvb.length];simp [kz,k6]
      simp only [eqSO] at h0
      split at h0
      ·split at h0
       ·rename_i _ hkk
        have hits:ka.length=kb.length->KeqHits A.in1 s kb ka b:=fun _=>zhw (fun x y v w u u' b e r1 r2 r3 r4=>(zd4 I e r1 r2 r3 r4 (by rw [wW];omega)).1) k5 kvb k3 k2 kva h0
        have hbb:(ka.length==kb.length&&b)=b:=by rw [la,lb,hkk];simp
        exact fun E Q hq=>keq_eq s1 s2 da db (by omega) hits (by rw [hbb];exact hq)
       ·rename_i _ hkk
        cases h0
        have hbb:(ka.length==kb.length&&true)=false:=by rw [la,lb];simpa using hkk
        exact fun E Q hq=>keq_eq (r:=true) s1 s2 da db (by omega) (fun z=>absurd (by rw [<-la,<-lb];exact z) hkk) (by rw [hbb];exact hq)
      ·cases h0
     | lst _=>cases h0
     | fdi _ _=>cases h0
     | ins _ _ _=>cases h0
    | fdi _ _=>cases h0
    | ins _ _ _=>cases h0
   refine ⟨?_,both⟩
   by_cases hab:a=a'
   ·subst hab
    rw [zhv I S (n+1) _ _ _ _ h rx ry]
    exact fun E Q q=>SeqAt.EqAt.same _ _ _ E Q q
   ·exact .of_refs hab both
  ·rw [zhu ht hr] at h
   exact base x y v w u u' b A h rx ry rv rw (by omega)
def zaz:PV->PV->Mo PV:=fun x y st=>match eqS st 8 x y with
 | some b=>.ok (.bl b) st
 | none=>.stuck
def zoT (K:Frag) (mg:Str->Option Value):R2:=fun v w H Q=>∃ρ st x y b,StR K mg ρ H st/\eqS st 8 x y=some b/\R K mg ρ H x v/\R K mg ρ H y w/\Q (.bl b) H
theorem zoU (hu:X.A.units+200<cLine):OpR X (compareOp .Eq) (zoT X.K X.mg):=by
 intro pins s U H x y v u Q I rx ry h
 obtain ⟨ρ,st,a,b,k,S,e,ra,rb,q⟩:=h
 exact (zoS I S 8 a b x y v u k X.A e ra rb rx ry (by omega)).2 _ _ ⟨.bl k,H,I,rfl,q⟩
theorem zoV (hu:X.A.units+200<cLine):CmpOk X .Eq zaz:=⟨_,zoU hu,fun ρ H st x y v w Q E s rx ry h=>by
 unfold zaz at h
 cases e:eqS st 8 x y with
 | none=>rw [e] at h;exact False.elim h
 | some b=>rw [e] at h;exact ⟨ρ,st,x,y,b,s,e,rx,ry,h.now s _ rfl⟩⟩
end
section
variable {X:Cx}{Er:XK}{K:Frag}{mg:Str->Option Value}
theorem vals_strs:∀{ks:List Str}{us:List Value},us.length=ks.length->(∀(j:Nat) v,us[j]?=some v->∃k,ks[j]?=some k/\∃t,v=Value.str k t)->Vals (ks.map V.str) us
 | [],[],_,_=>.nil
 | [],_::_,h,_=>by simp at h
 | _::_,[],h,_=>by simp at h
 | k::ks,u::us,h,hv=>by
  obtain ⟨k',e,t,ev⟩:=hv 0 u rfl
  simp at e
  subst e
  exact .cons ⟨t,ev⟩ (vals_strs (by simpa using h) fun j v e=>by simpa using hv (j+1) v (by simpa using e))
theorem zoW (hc:X.calm=true):CallR X (.type "list") (fun xs H Q=>∃p ks vs,xs=[.ref p]/\H p=some (.dK (kz ks vs))/\ks.length=vs.length/\∀l,H l=none->Q (.ref l) (upd H l (.lst (ks.map V.str)))):=by
 intro pins s U H xs us Q I r h
 obtain ⟨p,ks,vs,rfl,hp,hl,q⟩:=h
 obtain ⟨u,rfl,rx⟩:=wy r
 cases rx
 obtain ⟨hz,lo,kv,kvr,hd⟩:=yT I.hok (.inl hp)
 obtain ⟨ep,hat⟩:=hd.dictAt
 have lk:kv.length=ks.length:=by rw [<-kvr.length];simp [kz,hl]
 have keys:kv.map (·.1)=ks.map Sum.inr:=by
  rw [<-kvr.keys]
  simp [kz,hl,List.map_fst_zip]
 refine kdl_call (kdl_dict (knd:=mixKind X.prog X.w) (kvs:=kv) (ep:=ep) lo) (I.ok.hd hc) hat (by rw [<-kvr.length];exact hz) fun h' tk acc' c' hk hS hitems=>?_
 have hv:Vals (ks.map V.str) acc'.toList:=vals_strs (by rw [Array.length_toList,hitems.1,lk]) fun j v e=>by
  obtain ⟨k,x,e1,e2⟩:=hitems.2 j v (by rw [<-Array.getElem?_toList];exact e)
  have e3:(kv.map (·.1))[j]?=some k:=by rw [List.getElem?_map,e1];rfl
  rw [keys,List.getElem?_map] at e3
  cases e4:ks[j]? with
  | none=>rw [e4] at e3;cases e3
  | some k' =>
   rw [e4] at e3
   cases e3
   rcases jL (show keyIs (Sum.inr k') v=true from e2) with ⟨i,t,z,_⟩|⟨y,t,z,z'⟩
   ·cases z
   ·cases z;exact ⟨k',rfl,t,z'⟩
 exact ⟨.ref s.heap.objs.size,_,I.laid (t':=tk) hk (Nat.le_refl _) (show ObjOk X.prog X.w _ h' _ (.lst (ks.map V.str)) from ⟨by rw [List.length_map,<-lk,<-kvr.length];exact hz,acc'.toList,c',hv,by simpa using hS⟩),rfl,q _ I.fresh⟩
def zaA:List PV->Mo PV:=fun xs st=>match xs with
 | [.ref n]=>match st[n]? with
  | some (.dic ks _)=>.ok (.ref st.length) (st++[.lst (ks.map PV.str)])
  | _=>za1 xs st
 | _=>za1 xs st
theorem zhx {ρ:List Addr}{H:Hp}:∀{ks:List Str},Rs K mg ρ H (ks.map PV.str) (ks.map V.str)
 | []=>rfl
 | k::ks=>⟨_,_,rfl,rfl,zhx⟩
theorem zoX (hc:X.calm=true):BltOk X (.type "list") zaA:=by
 obtain ⟨r,h1,h2⟩:=znw (X:=X)
 refine ⟨_,h1.or (zoW hc),fun ρ H st xs vs Q E s rx h=>?_⟩
 by_cases hx:∃n ks ys,xs=[.ref n]/\st[n]?=some (.dic ks ys)
 ·obtain ⟨n,ks,ys,rfl,e⟩:=hx
  have h:Out X.K X.mg ρ H (.ok (.ref st.length) (st++[.lst (ks.map PV.str)])) (gV X.K X.mg Q) E:=by
   simpa only [zaA,e] using h
  obtain ⟨v,rfl,rv⟩:=Rs.one rx
  obtain ⟨a,vs,rfl,_,k1,_,k3⟩:=R.refD s rv e
  exact .inr ⟨a,ks,vs,rfl,k1,k3,fun l hl=>Out.newList (xs:=ks.map PV.str) h s zhx hl⟩
 ·refine .inl (h2 ρ H st xs vs Q E s rx ?_)
  have:zaA xs st=za1 xs st:=by
   unfold zaA
   split
   ·rename_i n
    split
    ·rename_i ks ys e;exact absurd ⟨n,ks,ys,rfl,e⟩ hx
    ·rfl
   ·rfl
  rw [this] at h
  exact h
theorem zoY {ss:List Stmt}:MSs X Er ss zgJ:=PSs.weak zkm fun D U H ⟨env,st,ρ,re,rs,h⟩=>h
end
section
variable {P:Program}{W:World}{A:Around}{s:Shared}{E:Value->Shared->Prop}{K:Type} [DecidableEq K] {knd:KeyKind P W K}
theorem zaB {d:Addr} {kv:List (K×Value)} {x:Value} {T:String} {name:Str} (sl:Slot "dict" name "dict.__eq__") (hd:s.heap.DictOf knd d kv) (hx:s.TypeIs x T) (hs:isSubtype (.type T) (.type "dict")=pure false) (Q:Value->Shared->Prop) (h:Q .notImplemented s) :
  wpAny (model P W) A (call (.builtin "dict.__eq__") [.ref d,x]) Q E s:=by
 refine wpAny_call_entry sl hd.typeIs PySem.F.entry_dict_eq ?_ (PySem.F.args_dict_eq_2 _ _)
 show wpAny _ _ (Builtin.Dict.dictSlotArgs "__eq__" ⟨[.ref d,x],[]⟩ >>= _) _ _ s
 refine wpAny_bind ?_
 unfold Builtin.Dict.dictSlotArgs
 refine wpAny_bind (wpAny_notOrdered_dict hd.typeIs ?_)
 show wpAny _ _ (pure (Value.ref d,x)) _ _ s
 refine wpAny_pure ?_
 refine wpAny_bind (wpAny_isInstance hx hs ?_)
 simp only [Bool.not_false,if_true]
 exact wpAny_bind (wpAny_rule (wpAny_pure ⟨_,rfl,h⟩))
theorem zhy {d:Addr} {o:Obj} {b:Int} {u:Tok} {name:Str} (sl:Slot "int" name "int.__eq__") (ho:s.heap.get? d=some o) (hd:o.cls=.type "dict") {es:Array DictEntry} {ep:Nat} (hq':o.data=.dict es ep) (Q:Value->Shared->Prop) (h:Q .notImplemented s) :
  wpAny (model P W) A (call (.builtin "int.__eq__") [.int b u,.ref d]) Q E s:=by
 refine wpAny_call_entry sl (typeIs_int s b u) PySem.F.entry_int_eq ?_ (PySem.F.args_int_eq_2 _ _)
 obtain ⟨hp,g,dd,tk,os⟩:=s
 obtain ⟨c,d1,d2,d3⟩:=o
 cases hd
 cases hq'
 wp_walk using AutoSeq1.wpAny_loadPart' ho,wpAny_load ho
 exact ⟨_,rfl,h⟩
theorem zhz {d:Addr} {o:Obj} {b:Str} {u:Tok} {name:Str} (sl:Slot "str" name "str.__eq__") (ho:s.heap.get? d=some o) (hd:o.cls=.type "dict") {es:Array DictEntry} {ep:Nat} (hq':o.data=.dict es ep) (Q:Value->Shared->Prop) (h:Q .notImplemented s) :
  wpAny (model P W) A (call (.builtin "str.__eq__") [.str b u,.ref d]) Q E s:=by
 refine wpAny_call_entry sl (typeIs_str s b u) PySem.F.entry_str_eq ?_ (PySem.F.args_str_eq_2 _ _)
 obtain ⟨hp,g,dd,tk,os⟩:=s
 obtain ⟨c,d1,d2,d3⟩:=o
 cases hd
 cases hq'
 wp_walk using AutoSeq1.wpAny_loadPart' ho,wpAny_load ho
 exact ⟨_,rfl,h⟩
theorem zhA {d t:Addr} {o ot:Obj} {its:Array Value} {n:Nat} {name:Str} (sl:Slot "tuple" name "tuple.__eq__") (ht:s.heap.get? t=some ot) (hc:ot.cls=.type "tuple") (hq:ot.data=.seq its n) (ho:s.heap.get? d=some o) (hd:o.cls=.type "dict") {es:Array DictEntry} {ep:Nat} (hq':o.data=.dict es ep) (Q:Value->Shared->Prop) (h:Q .notImplemented s) :
  wpAny (model P W) A (call (.builtin "tuple.__eq__") [.ref t,.ref d]) Q E s:=by
 refine wpAny_call_entry sl ⟨_,ht,hc⟩ PySem.F.entry_tuple_eq ?_ (PySem.F.args_tuple_eq_2 _ _)
 obtain ⟨hp,g,dd,tk,os⟩:=s
 obtain ⟨c,d1,d2,d3⟩:=o
 obtain ⟨c',d1',d2',d3'⟩:=ot
 cases hd
 cases hq'
 cases hc
 cases hq
 have f1:=PySem.F.sub_dict_tuple
 wp_walk using AutoSeq1.wpAny_loadPart' ht,AutoSeq1.wpAny_loadPart' ho
 exact ⟨_,rfl,h⟩
theorem EqW.of_ref {d:Addr}{u':Value}{k:Bool}(hne:Value.ref d≠u') (h:RcW P W A s (.ref d) u' k):EqW P W A s (.ref d) u' k:=fun E Q hq=>by
 unfold eqBool
 refine wpAny_holding (wpAny_ite_split (fun hab=>absurd (eq_of_beq hab) hne) fun _=>?_)
 exact wpAny_bind (h E _ (wpAny_truthy_bool hq))
theorem EqW.of_num {d:Addr}{b:Int}{u:Tok}{k:Bool}(h:RcW P W A s (.int b u) (.ref d) k):EqW P W A s (.int b u) (.ref d) k:=fun E Q hq=>by
 unfold eqBool
 refine wpAny_holding (wpAny_ite_split (fun hab=>absurd (eq_of_beq hab) nofun) fun _=>?_)
 exact wpAny_bind (h E _ (wpAny_truthy_bool hq))
theorem EqW.of_txt {d:Addr}{b:Str}{u:Tok}{k:Bool}(h:RcW P W A s (.str b u) (.ref d) k):EqW P W A s (.str b u) (.ref d) k:=fun E Q hq=>by
 unfold eqBool
 refine wpAny_holding (wpAny_ite_split (fun hab=>absurd (eq_of_beq hab) nofun) fun _=>?_)
 exact wpAny_bind (h E _ (wpAny_truthy_bool hq))
theorem RcW.rec_num {d:Addr}{kv:List (K×Value)}(hd:s.heap.DictOf knd d kv) (b:Int) (u:Tok) (hu:A.units<cLine):RcW P W A s (.ref d) (.int b u) false:=fun E Q h=>by
 obtain ⟨o,es,ep,ho,hx,hda,_⟩:=id hd
 have ty:=hd.typeIs
 obtain ⟨o',ho',hc⟩:=id ty
 rw [ho] at ho'
 cases ho'
 exact SeqAt.rc_eq_decline_or (k:=false) ty (typeIs_int s b u) (by decide) PySem.F.sub_int_dict PySem.F.slot_dict_eq PySem.F.slot_int_eq_refl (zaB PySem.F.slot_dict_eq hd (typeIs_int s b u) PySem.F.sub_int_dict) (zhy PySem.F.slot_int_eq_refl ho hc hda)
  (fun _ hq=>wpAny_of_eq (rfl:isSame (.ref d) (.int b u)=pure false) hq) (.inr hu) h
theorem RcW.num_rec {d:Addr}{kv:List (K×Value)}(hd:s.heap.DictOf knd d kv) (b:Int) (u:Tok) (hu:A.units<cLine):RcW P W A s (.int b u) (.ref d) false:=fun E Q h=>by
 obtain ⟨o,es,ep,ho,hx,hda,_⟩:=id hd
 have ty:=hd.typeIs
 obtain ⟨o',ho',hc⟩:=id ty
 rw [ho] at ho'
 cases ho'
 exact SeqAt.rc_eq_decline_or (k:=false) (typeIs_int s b u) ty (by decide) PySem.F.sub_dict_int PySem.F.slot_int_eq PySem.F.slot_dict_eq_refl (zhy PySem.F.slot_int_eq ho hc hda) (zaB PySem.F.slot_dict_eq_refl hd (typeIs_int s b u) PySem.F.sub_int_dict)
  (fun _ hq=>wpAny_of_eq (rfl:isSame (.int b u) (.ref d)=pure false) hq) (.inr hu) h
theorem RcW.rec_txt {d:Addr}{kv:List (K×Value)}(hd:s.heap.DictOf knd d kv) (b:Str) (u:Tok) (hu:A.units<cLine):RcW P W A s (.ref d) (.str b u) false:=fun E Q h=>by
 obtain ⟨o,es,ep,ho,hx,hda,_⟩:=id hd
 have ty:=hd.typeIs
 obtain ⟨o',ho',hc⟩:=id ty
 rw [ho] at ho'
 cases ho'
 exact SeqAt.rc_eq_decline_or (k:=false) ty (typeIs_str s b u) (by decide) PySem.F.sub_str_dict PySem.F.slot_dict_eq PySem.F.slot_str_eq_refl (zaB PySem.F.slot_dict_eq hd (typeIs_str s b u) PySem.F.sub_str_dict) (zhz PySem.F.slot_str_eq_refl ho hc hda)
  (fun _ hq=>wpAny_of_eq (rfl:isSame (.ref d) (.str b u)=pure false) hq) (.inr hu) h
theorem RcW.txt_rec {d:Addr}{kv:List (K×Value)}(hd:s.heap.DictOf knd d kv) (b:Str) (u:Tok) (hu:A.units<cLine):RcW P W A s (.str b u) (.ref d) false:=fun E Q h=>by
 obtain ⟨o,es,ep,ho,hx,hda,_⟩:=id hd
 have ty:=hd.typeIs
 obtain ⟨o',ho',hc⟩:=id ty
 rw [ho] at ho'
 cases ho'
 exact SeqAt.rc_eq_decline_or (k:=false) (typeIs_str s b u) ty (by decide) PySem.F.sub_dict_str PySem.F.slot_str_eq PySem.F.slot_dict_eq_refl (zhz PySem.F.slot_str_eq ho hc hda) (zaB PySem.F.slot_dict_eq_refl hd (typeIs_str s b u) PySem.F.sub_str_dict)
  (fun _ hq=>wpAny_of_eq (rfl:isSame (.str b u) (.ref d)=pure false) hq) (.inr hu) h
theorem zaC {d t:Addr}{kv:List (K×Value)}{its:Array Value}(hd:s.heap.DictOf knd d kv) (ht:s.heap.IsTuple t its):d≠t:=fun e=>by
 subst e
 obtain ⟨o,ho,hc⟩:=hd.typeIs
 obtain ⟨o2,ho2,hc2,_⟩:=ht
 rw [ho] at ho2
 cases ho2
 rw [hc] at hc2
 exact absurd hc2 (by simp)
theorem RcW.rec_row {d t:Addr}{kv:List (K×Value)}{its:Array Value}(hd:s.heap.DictOf knd d kv) (ht:s.heap.IsTuple t its) (hu:A.units<cLine):RcW P W A s (.ref d) (.ref t) false:=fun E Q h=>by
 have ne:=zaC hd ht
 obtain ⟨o,es,ep,ho,hx,hda,_⟩:=id hd
 have ty:=hd.typeIs
 obtain ⟨o',ho',hc⟩:=id ty
 rw [ho] at ho'
 cases ho'
 obtain ⟨ot,ht1,ht2,n,ht3⟩:=id ht
 exact SeqAt.rc_eq_decline_or (k:=false) ty ⟨_,ht1,ht2⟩ (by decide) PySem.F.sub_tuple_dict PySem.F.slot_dict_eq PySem.F.slot_tuple_eq_refl (zaB PySem.F.slot_dict_eq hd ⟨_,ht1,ht2⟩ PySem.F.sub_tuple_dict) (zhA PySem.F.slot_tuple_eq_refl ht1 ht2 ht3 ho hc hda)
  (fun _ hq=>wpAny_isSame_ref_other ne ho ht1 (by rw [hc];simp) hq) (.inr hu) h
theorem RcW.row_rec {d t:Addr}{kv:List (K×Value)}{its:Array Value}(hd:s.heap.DictOf knd d kv) (ht:s.heap.IsTuple t its) (hu:A.units<cLine):RcW P W A s (.ref t) (.ref d) false:=fun E Q h=>by
 have ne:=zaC hd ht
 obtain ⟨o,es,ep,ho,hx,hda,_⟩:=id hd
 have ty:=hd.typeIs
 obtain ⟨o',ho',hc⟩:=id ty
 rw [ho] at ho'
 cases ho'
 obtain ⟨ot,ht1,ht2,n,ht3⟩:=id ht
 exact SeqAt.rc_eq_decline_or (k:=false) ⟨_,ht1,ht2⟩ ty (by decide) PySem.F.sub_dict_tuple PySem.F.slot_tuple_eq PySem.F.slot_dict_eq_refl (zhA PySem.F.slot_tuple_eq ht1 ht2 ht3 ho hc hda) (zaB PySem.F.slot_dict_eq_refl hd ⟨_,ht1,ht2⟩ PySem.F.sub_tuple_dict)
  (fun _ hq=>SeqAt.wpAny_isSame_ref_other' ne.symm ht1 ho (by rw [hc];simp) hq) (.inr hu) h
inductive HitsW (P:Program) (W:World) (A:Around) (s:Shared) (kb:List (K×Value)):List (K×Value)->Bool->Prop
 | nil:HitsW P W A s kb [] true
 | miss {k:K} {v:Value} {r:List (K×Value)} (h:valueAt kb k=none):HitsW P W A s kb ((k,v)::r) false
 | hit {k:K} {v y:Value} {r:List (K×Value)} {e b:Bool} (h:valueAt kb k=some y) (he:EqW P W A s v y e) (hr:HitsW P W A s kb r b):HitsW P W A s kb ((k,v)::r) (e&&b)
theorem HitsW.inv {kb r:List (K×Value)}{k:K}{v:Value}{b:Bool}(h:HitsW P W A s kb ((k,v)::r) b):(valueAt kb k=none/\b=false)\/∃y e c,valueAt kb k=some y/\EqW P W A s v y e/\HitsW P W A s kb r c/\b=(e&&c):=by
 cases h with
 | miss h=>exact .inl ⟨h,rfl⟩
 | hit h he hr=>exact .inr ⟨_,_,_,h,he,hr,rfl⟩
theorem pairsW {nm:String}{a b:Addr}{ka kb:List (K×Value)}{r:Bool}{Q:Bool->Shared->Prop}(la:(a==sysModules)=false) (lb:(b==sysModules)=false) (da:s.heap.DictOf knd a ka) (db:s.heap.DictOf knd b kb)
  (hits:ka.length=kb.length->HitsW P W A s kb ka r) (h:Q (ka.length==kb.length&&r) s):wpAny (model P W) A (Builtin.Dict.samePairs nm a b) Q E s:=by
 obtain ⟨oa,ea,na,ga,_,qa,ha,pa,_⟩:=da
 obtain ⟨ob,eb,nb,gb,_,qb,hb,pb,_⟩:=db
 have za:ka.length=ea.size:=by rw [<-pa.length];exact Array.length_toList
 have zb:kb.length=eb.size:=by rw [<-pb.length];exact Array.length_toList
 have look:∀k,findBy knd.is eb k=valueAt kb k:=fun k=>by
  rw [<-pb.find k]
  clear zb pb hb qb gb
  obtain ⟨l⟩:=eb
  simp [findBy]
 rw [za,zb] at h
 unfold Builtin.Dict.samePairs Builtin.Dict.showsAll
 rw [if_neg (by rw [la];decide),if_neg (by rw [lb];decide)]
 refine wpAny_bind (wpAny_pure (wpAny_bind (wpAny_pure (wpAny_bind (wpAny_dictEntries ga qa ?_)))))
 dsimp only
 refine wpAny_bind (wpAny_dictEntries gb qb ?_)
 by_cases hz:ea.size=eb.size
 ·have h':Q r s:=by simpa [hz] using h
  have hh:=hits (by rw [za,zb];exact hz)
  rw [if_neg (by rw [hz];simp)]
  refine wpAny_bind (wpAny_dictEpoch ga qa (wpAny_bind ?_))
  rw [Std.Legacy.Range.forIn_eq_forIn_range']
  simp only [Std.Legacy.Range.size,Nat.sub_zero,Nat.add_sub_cancel,Nat.div_one]
  refine wpAny_forIn_list _ (fun rest q s'=>s'=s/\q=(none,())/\∃i,rest=List.range' i (ea.size-i)/\i<=ea.size/\HitsW P W A s kb (ka.drop i) r) _ ?_ ?_ _ _ ⟨rfl,rfl,0,by simp,Nat.zero_le _,hh⟩
  ·rintro x rest q s' ⟨rfl,rfl,i,hr,hi,hp⟩
   have lt:i<ea.size:=by
    rcases Nat.lt_or_ge i ea.size with c|c
    ·exact c
    ·rw [Nat.sub_eq_zero_of_le c] at hr;simp at hr
   have e0:ea.size-i=(ea.size-(i+1))+1:=by omega
   rw [e0,List.range'_succ] at hr
   injection hr with hx hrest
   subst hx
   refine wpAny_bind (wpAny_dictEntries ga qa ?_)
   rw [Array.getElem?_eq_getElem lt]
   have lt':x<ka.length:=by rw [za];exact lt
   obtain ⟨k,v,hkv⟩:∃k v,ka[x]=(k,v):=⟨_,_,rfl⟩
   have hdrop:ka.drop x=(k,v)::ka.drop (x+1):=by rw [<-hkv];exact List.drop_eq_getElem_cons lt'
   obtain ⟨hkey,hval⟩:=pa.get? (i:=x) (e:=ea[x]) (k:=k) (v:=v) (by rw [Array.getElem?_toList];exact Array.getElem?_eq_getElem lt) (by rw [List.getElem?_eq_getElem lt',hkv])
   obtain ⟨k',hk',hs⟩:=ha ea[x] (Array.getElem_mem lt)
   rw [knd.inj _ _ _ hk' hkey] at hs
   rw [hdrop] at hp
   show wpAny _ _ (holding [ea[x].key,ea[x].val] _ >>= _) _ _ _
   rw [hs]
   refine wpAny_bind (wpAny_holding (wpAny_bind (wpAny_dictFind_of hkey gb qb hb ?_)))
   cases hj:eb.findIdx? fun e=>knd.is k e.key with
   | none =>
    have hn:valueAt kb k=none:=by rw [<-look k,findBy_of_findIdx?,hj]
    rcases hp.inv with ⟨_,er⟩|⟨y,_,_,hy,_⟩
    ·rw [er] at h'
     refine wpAny_pure ?_
     show wpAny _ _ (if (!false)=true then _ else _) _ _ _
     rw [if_pos (by decide)]
     exact wpAny_pure (wpAny_pure h')
    ·rw [hn] at hy;exact nomatch hy
   | some j =>
    obtain ⟨jl,_,_⟩:=Array.findIdx?_eq_some_iff_getElem.mp hj
    have hv':valueAt kb k=some eb[j].val:=by
     rw [<-look k,findBy_of_findIdx?,hj]
     simp [Array.getElem?_eq_getElem jl]
    refine wpAny_bind (wpAny_dictEntries gb qb ?_)
    rw [Array.getElem?_eq_getElem jl]
    rcases hp.inv with ⟨hn,_⟩|⟨y,e,c,hy,he,hrr,er⟩
    ·rw [hv'] at hn;exact nomatch hn
    ·have ey:eb[j].val=y:=Option.some.inj (hv'.symm.trans hy)
     rw [<-ey,<-hval] at he
     refine wpAny_holding (he _ _ ?_)
     cases e with
     | false =>
      rw [er,Bool.false_and] at h'
      show wpAny _ _ (if (!false)=true then _ else _) _ _ _
      rw [if_pos (by decide)]
      exact wpAny_pure (wpAny_pure h')
     | true =>
      rw [Bool.true_and] at er
      rw [<-er] at hrr
      show wpAny _ _ (if (!true)=true then _ else _) _ _ _
      rw [if_neg (by decide)]
      refine wpAny_bind (wpAny_dictEpoch ga qa ?_)
      rw [if_neg (by simp)]
      exact wpAny_pure ⟨rfl,rfl,x+1,hrest,lt,hrr⟩
  ·rintro q s' ⟨rfl,rfl,i,hr,hi,hp⟩
   have hin:i=ea.size:=by
    rcases Nat.lt_or_ge i ea.size with c|c
    ·have e:ea.size-i=(ea.size-(i+1))+1:=by omega
     rw [e,List.range'_succ] at hr;exact nomatch hr
    ·omega
   refine wpAny_pure ?_
   rw [hin,<-za,List.drop_length] at hp
   cases hp
   exact h'
 ·rw [if_pos (by simpa using hz)]
  have hf:(ea.size==eb.size)=false:=by simpa using hz
  rw [hf,Bool.false_and] at h
  exact wpAny_bind (wpAny_rule (wpAny_pure h))
theorem RcW.recs {a b:Addr}{ka kb:List (K×Value)}{r:Bool}(la:(a==sysModules)=false) (lb:(b==sysModules)=false) (da:s.heap.DictOf knd a ka) (db:s.heap.DictOf knd b kb) (hu:A.units<cLine)
  (hits:ka.length=kb.length->HitsW P W A.in1 s kb ka r):RcW P W A s (.ref a) (.ref b) (ka.length==kb.length&&r):=fun E Q h=>by
 refine wpAny_richCompare_same_room (op:=.Eq) da.typeIs db.typeIs PySem.F.slot_dict_eq (wpAny_call_entry PySem.F.slot_dict_eq da.typeIs PySem.F.entry_dict_eq ?_ (PySem.F.args_dict_eq_2 _ _)) hu
 show wpAny _ _ (Builtin.Dict.dictSlotArgs "__eq__" ⟨[.ref a,.ref b],[]⟩ >>= _) _ _ s
 refine wpAny_bind ?_
 unfold Builtin.Dict.dictSlotArgs
 refine wpAny_bind (wpAny_notOrdered_dict da.typeIs ?_)
 show wpAny _ _ (pure (Value.ref a,Value.ref b)) _ _ s
 refine wpAny_pure (wpAny_bind (wpAny_isInstance (T := "dict") db.typeIs PySem.F.sub_dict_dict ?_))
 simp only [Bool.not_true,Bool.false_eq_true,if_false]
 refine wpAny_bind (wpAny_pure (wpAny_bind (wpAny_pure (wpAny_bind (pairsW la lb da db hits ?_)))))
 refine wpAny_pure ⟨_,rfl,(fun x=>nomatch x),?_⟩
 simpa using h
end
section
variable {P:Program}{W:World}
end
def isDic:Option SO->Bool
 | some (.dic _ _)=>true
 | _=>false
def kindN (st:Sto):PV->Option Nat
 | .int _=>some 0
 | .str _=>some 1
 | .tup _=>some 2
 | .ref a=>if isDic st[a]?=true then some 3 else none
 | _=>none
def eqDD (f:PV->PV->Option Bool):Option SO->Option SO->Option Bool
 | some (.dic ks xs),some (.dic ks' xs')=>if ks.Nodup/\ks.length=xs.length then if ks.length=ks'.length then hitsE f ks' xs' ks xs else some false else none
 | _,_=>none
def eqN:Option Nat->Option Nat->Option Bool
 | some i,some j=>if i=j then none else some false
 | _,_=>none
def eqT (st:Sto):Nat->PV->PV->Option Bool
 | 0,_,_=>none
 | n+1,x,y=>match x,y with
  | .int a,.int b=>some (a==b)
  | .str a,.str b=>some (a==b)
  | .tup xs,.tup ys=>allE (eqT st n) xs ys
  | .ref a,.ref b=>eqDD (eqT st n) st[a]? st[b]?
  | x,y=>eqN (kindN st x) (kindN st y)
section
variable {X:Cx}{Er:XK}{K:Frag}{mg:Str->Option Value}{ρ:List Addr}{pins:List (Addr×Obj)}{U:L2.St}{H:Hp}{s:Shared}{st:Sto}
inductive Kn (K:Frag) (mg:Str->Option Value) (ρ:List Addr) (H:Hp) (st:Sto):PV->V->Nat->Prop
 | num (i:Int):Kn K mg ρ H st (.int i) (.int i) 0
 | txt (z:Str):Kn K mg ρ H st (.str z) (.str z) 1
 | row {xs:List PV} {a:Addr} {vs:List V} (h:SqT K H a vs) (r:Rs K mg ρ H xs vs):Kn K mg ρ H st (.tup xs) (.ref a) 2
 | rec_ {n:Nat} {a:Addr} {ks:List Str} {xs:List PV} {vs:List V} (e:st[n]?=some (.dic ks xs)) (ha:ρ[n]?=some a) (h:H a=some (.dK (kz ks vs))) (r:Rs K mg ρ H xs vs) (l:ks.length=vs.length):Kn K mg ρ H st (.ref n) (.ref a) 3
theorem Kn.of (S:StR K mg ρ H st) {x:PV}{v:V}{i:Nat}(r:R K mg ρ H x v) (h:kindN st x=some i):Kn K mg ρ H st x v i:=by
 cases x with
 | int j=>cases h;cases r;exact .num j
 | str z=>cases h;cases r;exact .txt z
 | tup xs=>cases h;obtain ⟨a,vs,rfl,h1,h2⟩:=r;exact .row h1 h2
 | ref n =>
  simp only [kindN] at h
  split at h
  ·rename_i hd
   cases h
   cases e:st[n]? with
   | none=>rw [e] at hd;cases hd
   | some so =>
    cases so with
    | dic ks xs =>
     obtain ⟨a,vs,rfl,ha,k1,k2,k3⟩:=R.refD S r e
     exact .rec_ e ha k1 k2 k3
    | lst _=>rw [e] at hd;cases hd
    | ins _ _ _=>rw [e] at hd;cases hd
    | fdi _ _=>rw [e] at hd;cases hd
  ·cases h
 | _=>cases h
theorem zoZ (I:Inv X pins U H s) {x y:PV}{v:V}{i j:Nat}(hx:Kn X.K mg ρ H st x v i) (hy:Kn X.K mg ρ H st y v j):i=j:=by
 cases hx with
 | num=>cases hy;rfl
 | txt=>cases hy;rfl
 | row h1 r1 =>
  cases hy with
  | row=>rfl
  | rec_ e ha h2 =>
   obtain ⟨_,_,kv,_,d⟩:=yT I.hok (.inl h2)
   obtain ⟨its,_,p,_⟩:=I.tuple h1
   exact absurd rfl (zaC d p)
 | rec_ e ha h2 =>
  cases hy with
  | rec_=>rfl
  | row h1 r1 =>
   obtain ⟨_,_,kv,_,d⟩:=yT I.hok (.inl h2)
   obtain ⟨its,_,p,_⟩:=I.tuple h1
   exact absurd rfl (zaC d p)
theorem zo0 (I:Inv X pins U H s) {x y:PV}{v w:V}{u u':Value}{i j:Nat}{A:Around}(hx:Kn X.K mg ρ H st x v i) (hy:Kn X.K mg ρ H st y w j) (rv:RelV v u) (rw:RelV w u') (hij:i≠j) (hu:A.units<cLine):EqW X.prog X.w A s u u' false/\RcW X.prog X.w A s u u' false:=by
 cases hx with
 | num a =>
  obtain ⟨t,rfl⟩:=rv
  cases hy with
  | num=>exact absurd rfl hij
  | txt b=>obtain ⟨t',rfl⟩:=rw;exact ⟨fun E Q q=>SeqAt.EqAt.int_str a t b t' _ _ E Q q,fun E Q q=>SeqAt.RcAt.int_str a t b t' _ _ E Q q⟩
  | row h1 r1 =>
   cases rw
   obtain ⟨its,_,p,_⟩:=I.tuple h1
   exact ⟨fun E Q q=>SeqAt.EqAt.int_tuple a t p hu _ _ E Q q,fun E Q q=>SeqAt.RcAt.int_tuple a t p hu _ _ E Q q⟩
  | rec_ e ha h2 =>
   cases rw
   obtain ⟨_,_,kv,_,d⟩:=yT I.hok (.inl h2)
   exact ⟨.of_num (.num_rec d a t hu),.num_rec d a t hu⟩
 | txt a =>
  obtain ⟨t,rfl⟩:=rv
  cases hy with
  | txt=>exact absurd rfl hij
  | num b=>obtain ⟨t',rfl⟩:=rw;exact ⟨fun E Q q=>SeqAt.EqAt.str_int a t b t' _ _ E Q q,fun E Q q=>SeqAt.RcAt.str_int a t b t' _ _ E Q q⟩
  | row h1 r1 =>
   cases rw
   obtain ⟨its,_,p,_⟩:=I.tuple h1
   exact ⟨fun E Q q=>SeqAt.EqAt.str_tuple a t p hu _ _ E Q q,fun E Q q=>SeqAt.RcAt.str_tuple a t p hu _ _ E Q q⟩
  | rec_ e ha h2 =>
   cases rw
   obtain ⟨_,_,kv,_,d⟩:=yT I.hok (.inl h2)
   exact ⟨.of_txt (.txt_rec d a t hu),.txt_rec d a t hu⟩
 | row h0 r0 =>
  cases rv
  obtain ⟨its,_,p,_⟩:=I.tuple h0
  cases hy with
  | row=>exact absurd rfl hij
  | num b=>obtain ⟨t',rfl⟩:=rw;exact ⟨fun E Q q=>SeqAt.EqAt.tuple_int b t' p hu _ _ E Q q,fun E Q q=>SeqAt.RcAt.tuple_int b t' p hu _ _ E Q q⟩
  | txt b=>obtain ⟨t',rfl⟩:=rw;exact ⟨fun E Q q=>SeqAt.EqAt.tuple_str b t' p hu _ _ E Q q,fun E Q q=>SeqAt.RcAt.tuple_str b t' p hu _ _ E Q q⟩
  | rec_ e ha h2 =>
   cases rw
   obtain ⟨_,_,kv,_,d⟩:=yT I.hok (.inl h2)
   have ne:=zaC d p
   exact ⟨.of_ref (fun z=>ne (by injection z with z;exact z.symm)) (.row_rec d p hu),.row_rec d p hu⟩
 | rec_ e0 ha0 h0 =>
  cases rv
  obtain ⟨_,_,kv,_,d⟩:=yT I.hok (.inl h0)
  cases hy with
  | rec_=>exact absurd rfl hij
  | num b=>obtain ⟨t',rfl⟩:=rw;exact ⟨.of_ref nofun (.rec_num d b t' hu),.rec_num d b t' hu⟩
  | txt b=>obtain ⟨t',rfl⟩:=rw;exact ⟨.of_ref nofun (.rec_txt d b t' hu),.rec_txt d b t' hu⟩
  | row h1 r1 =>
   cases rw
   obtain ⟨its,_,p,_⟩:=I.tuple h1
   have ne:=zaC d p
   exact ⟨.of_ref (fun z=>ne (by injection z)) (.rec_row d p hu),.rec_row d p hu⟩
theorem zo1 {a b:Option Nat}{k:Bool}(h:eqN a b=some k):∃i j,a=some i/\b=some j/\i≠j/\k=false:=by
 unfold eqN at h
 split at h
 ·split at h
  ·cases h
  ·rename_i i j c;cases h;exact ⟨i,j,rfl,rfl,c,rfl⟩
 ·cases h
inductive EqC (st:Sto) (f:PV->PV->Option Bool):PV->PV->Bool->Prop
 | num (a b:Int):EqC st f (.int a) (.int b) (a==b)
 | txt (a b:Str):EqC st f (.str a) (.str b) (a==b)
 | row {xs ys:List PV} {k:Bool} (h:allE f xs ys=some k):EqC st f (.tup xs) (.tup ys) k
 | rec_ {a b:Nat} {k:Bool} (h:eqDD f st[a]? st[b]?=some k):EqC st f (.ref a) (.ref b) k
 | apart {x y:PV} {i j:Nat} (hx:kindN st x=some i) (hy:kindN st y=some j) (h:i≠j):EqC st f x y false
theorem zhB {n:Nat}{x y:PV}{k:Bool}(h:eqT st (n+1) x y=some k):EqC st (eqT st n) x y k:=by
 unfold eqT at h
 split at h
 ·cases h;exact .num _ _
 ·cases h;exact .txt _ _
 ·exact .row h
 ·exact .rec_ h
 ·obtain ⟨i,j,h1,h2,h3,rfl⟩:=zo1 h
  exact .apart h1 h2 h3
theorem zhC {f:PV->PV->Option Bool}{a b:Option SO}{k:Bool}(h:eqDD f a b=some k):∃ks xs ks' xs',a=some (.dic ks xs)/\b=some (.dic ks' xs')/\ks.Nodup/\ks.length=xs.length/\((ks.length=ks'.length/\hitsE f ks' xs' ks xs=some k)\/(ks.length≠ks'.length/\k=false)):=by
 unfold eqDD at h
 split at h
 ·rename_i ks xs ks' xs'
  split at h
  ·rename_i c
   split at h
   ·rename_i c';exact ⟨_,_,_,_,rfl,rfl,c.1,c.2,.inl ⟨c',h⟩⟩
   ·rename_i c';cases h;exact ⟨_,_,_,_,rfl,rfl,c.1,c.2,.inr ⟨c',rfl⟩⟩
  ·cases h
 ·cases h
theorem zhD (I:Inv X pins U H s) (S:StR X.K mg ρ H st):∀(n:Nat) (x y:PV) (v:V) (b:Bool),eqT st n x y=some b->R X.K mg ρ H x v->R X.K mg ρ H y v->b=true:=by
 intro n
 induction n with
 | zero=>intro x y v b h;cases h
 | succ n ih =>
  intro x y v b h rx ry
  cases zhB h with
  | num a c=>cases rx;cases ry;simp
  | txt a c=>cases rx;cases ry;simp
  | row h0 =>
   obtain ⟨a,vs,rfl,h1,h2⟩:=rx
   obtain ⟨a',ws,e,h3,h4⟩:=ry
   cases e
   have:=I.tuple_inj h1 h3
   subst this
   exact zcy (fun x y v b=>ih x y v b) h0 h2 h4
  | @rec_ i j _ h0 =>
   obtain ⟨a,rfl,h1⟩:=rx
   obtain ⟨a',e,h2⟩:=ry
   cases e
   obtain rfl:=zht S.nd h1 h2
   obtain ⟨ks,xs,ks',xs',e1,e2,nd,hl,hc⟩:=zhC h0
   rw [e1] at e2
   cases e2
   obtain ⟨vs,_,k2,_⟩:=S.addr e1 h1
   rcases hc with ⟨_,hc⟩|⟨hc,_⟩
   ·exact zd0 (fun x v b e r=>ih x x v b e r r) (zd1 nd) hc k2
   ·exact absurd rfl hc
  | apart hx hy hij=>exact absurd (zoZ I (Kn.of S rx hx) (Kn.of S ry hy)) hij
theorem zhE {A:Around}{f:PV->PV->Option Bool}(hf:∀x y v w u u' b,f x y=some b->R K mg ρ H x v->R K mg ρ H y w->RelV v u->RelV w u'->EqW X.prog X.w A s u u' b) {ks':List Str}{xs':List PV}{ws:List V}{kb:List (Key×Value)}(r':Rs K mg ρ H xs' ws) (kv':KV (kz ks' ws) kb) :
  ∀{ks:List Str} {xs:List PV} {vs:List V} {ka:List (Key×Value)} {b:Bool},ks.length=vs.length->Rs K mg ρ H xs vs->KV (kz ks vs) ka->hitsE f ks' xs' ks xs=some b->HitsW X.prog X.w A s kb ka b
 | [],xs,[],ka,b,_,_,kv,h=>by
  have:b=true:=by cases xs<;>(cases h;rfl)
  subst this
  cases kv
  exact .nil
 | [],xs,_::_,ka,b,hl,_,_,_=>by simp at hl
 | k::ks,xs,[],ka,b,hl,_,_,_=>by simp at hl
 | k::ks,xs,v::vs,ka,b,hl,r,kv,h=>by
  obtain ⟨u,ka',rfl,ru,kv2⟩:=zd2 kv
  cases xs with
  | nil=>cases r
  | cons x xs =>
   obtain ⟨v',rs',e,r1,r2⟩:=r
   cases e
   simp only [hitsE] at h
   have hv:=kv'.val (Sum.inr k)
   rw [zav] at hv
   cases hl2:(ks'.zip xs').lookup k with
   | none =>
    rw [hl2] at h
    cases h
    rw [zd3 r' hl2] at hv
    cases hu:valueAt kb (Sum.inr k) with
    | none=>exact .miss hu
    | some _=>rw [hu] at hv;exact (show False from hv).elim
   | some y =>
    rw [hl2] at h
    simp only at h
    cases h1:f x y with
    | none=>rw [h1] at h;cases h
    | some a =>
     cases h2:hitsE f ks' xs' ks xs with
     | none=>rw [h1,h2] at h;cases h
     | some c =>
      rw [h1,h2] at h
      cases h
      obtain ⟨w,hw,rw'⟩:=wg r' hl2
      rw [hw] at hv
      cases hu:valueAt kb (Sum.inr k) with
      | none=>rw [hu] at hv;exact (show False from hv).elim
      | some u' =>
       rw [hu] at hv
       exact .hit hu (hf x y v w u u' a h1 r1 rw' ru hv) (zhE hf r' kv' (by simpa using hl) r2 kv2 h2)
theorem zo2 (I:Inv X pins U H s) (S:StR X.K mg ρ H st):∀(n:Nat) (x y:PV) (v w:V) (u u':Value) (b:Bool) (A:Around),eqT st n x y=some b->R X.K mg ρ H x v->R X.K mg ρ H y w->RelV v u->RelV w u'->A.units+n<cLine ->
  EqW X.prog X.w A s u u' b/\RcW X.prog X.w A s u u' b:=by
 intro n
 induction n with
 | zero=>intro x y v w u u' b A h;cases h
 | succ n ih =>
  intro x y v w u u' b A h rx ry rv rw hu
  cases zhB h with
  | num a c=>cases rx;cases ry;obtain ⟨t,rfl⟩:=rv;obtain ⟨t',rfl⟩:=rw;exact ⟨fun E Q q=>SeqAt.EqAt.int_int a t c t' _ _ E Q q,fun E Q q=>SeqAt.RcAt.int_int a t c t' _ _ E Q q⟩
  | txt a c=>cases rx;cases ry;obtain ⟨t,rfl⟩:=rv;obtain ⟨t',rfl⟩:=rw;exact ⟨fun E Q q=>SeqAt.EqAt.str_str a t c t' _ _ E Q q,fun E Q q=>SeqAt.RcAt.str_str a t c t' _ _ E Q q⟩
  | row h0 =>
   obtain ⟨a,vs,rfl,h1,h2⟩:=id rx
   obtain ⟨a',ws,rfl,h3,h4⟩:=id ry
   cases rv
   cases rw
   obtain ⟨its,r1,p1,_⟩:=I.tuple h1
   obtain ⟨its2,r2,p2,_⟩:=I.tuple h3
   obtain ⟨e,he,hb⟩:=zcw h0
   have it:=zd5 (G:=EqW X.prog X.w A.in1 s) (fun x y v w u u' b e r1 r2 r3 r4=>(ih x y v w u u' b A.in1 e r1 r2 r3 r4 (by rw [wW];omega)).1) h2 h4 r1 r2 he
   have eb:((List.range (min its.toArray.size its2.toArray.size)).all e&&its.toArray.size==its2.toArray.size)=b:=by
    rw [h2.len,h4.len,r1.length,r2.length] at hb
    simpa using hb
   have rc:RcW X.prog X.w A s (.ref a) (.ref a') b:=by
    rw [<-eb]
    exact RcW.tuples (show s.heap.IsTuple a its.toArray from p1) (show s.heap.IsTuple a' its2.toArray from p2) (by omega) it
   refine ⟨?_,rc⟩
   by_cases hab:a=a'
   ·subst hab
    rw [zhD I S (n+1) _ _ _ _ h rx ry]
    exact fun E Q q=>SeqAt.EqAt.same _ _ _ E Q q
   ·exact .of_refs hab rc
  | @rec_ i j _ h0 =>
   obtain ⟨a,rfl,h1⟩:=id rx
   obtain ⟨a',rfl,h2⟩:=id ry
   cases rv
   cases rw
   obtain ⟨ks,xs,ks',xs',e1,e2,nd,hl,hc⟩:=zhC h0
   obtain ⟨vs,k1,k2,k3⟩:=S.addr e1 h1
   obtain ⟨ws,k4,k5,k6⟩:=S.addr e2 h2
   obtain ⟨_,s1,ka,kva,da⟩:=yT I.hok (.inl k1)
   obtain ⟨_,s2,kb,kvb,db⟩:=yT I.hok (.inl k4)
   have la:ka.length=ks.length:=by rw [<-kva.length];simp [kz,k3]
   have lb:kb.length=ks'.length:=by rw [<-kvb.length];simp [kz,k6]
   have both:RcW X.prog X.w A s (.ref a) (.ref a') b:=by
    rcases hc with ⟨hkk,hc⟩|⟨hkk,rfl⟩
    ·have hits:ka.length=kb.length->HitsW X.prog X.w A.in1 s kb ka b:=fun _=>zhE (fun x y v w u u' b e r1 r2 r3 r4=>(ih x y v w u u' b A.in1 e r1 r2 r3 r4 (by rw [wW];omega)).1) k5 kvb k3 k2 kva hc
     have hbb:(ka.length==kb.length&&b)=b:=by rw [la,lb,hkk];simp
     rw [<-hbb]
     exact RcW.recs s1 s2 da db (by omega) hits
    ·have hbb:(ka.length==kb.length&&true)=false:=by rw [la,lb];simpa using hkk
     rw [<-hbb]
     exact RcW.recs s1 s2 da db (by omega) fun z=>absurd (by rw [<-la,<-lb];exact z) hkk
   refine ⟨?_,both⟩
   by_cases hab:a=a'
   ·subst hab
    rw [zhD I S (n+1) _ _ _ _ h rx ry]
    exact fun E Q q=>SeqAt.EqAt.same _ _ _ E Q q
   ·exact .of_refs hab both
  | apart hx hy hij=>exact zo0 I (Kn.of S rx hx) (Kn.of S ry hy) rv rw hij (by omega)
def wH:PV->PV->Mo PV:=fun x y st=>match eqT st 150 x y with
 | some b=>.ok (.bl b) st
 | none=>.stuck
def zo3 (K:Frag) (mg:Str->Option Value):R2:=fun v w H Q=>∃ρ st x y b,StR K mg ρ H st/\eqT st 150 x y=some b/\R K mg ρ H x v/\R K mg ρ H y w/\Q (.bl b) H
theorem zo4 (hu:X.A.units+200<cLine):OpR X (compareOp .Eq) (zo3 X.K X.mg):=by
 intro pins s U H x y v u Q I rx ry h
 obtain ⟨ρ,st,a,b,k,S,e,ra,rb,q⟩:=h
 exact (zo2 I S 150 a b x y v u k X.A e ra rb rx ry (by omega)).2 _ _ ⟨.bl k,H,I,rfl,q⟩
theorem zhF (hu:X.A.units+200<cLine):CmpOk X .Eq wH:=⟨_,zo4 hu,fun ρ H st x y v w Q E s rx ry h=>by
 unfold wH at h
 cases e:eqT st 150 x y with
 | none=>rw [e] at h;exact False.elim h
 | some b=>rw [e] at h;exact ⟨ρ,st,x,y,b,s,e,rx,ry,h.now s _ rfl⟩⟩
end
section
variable {X:Cx}{Er:XK}{K:Frag}{mg:Str->Option Value}{ρ:List Addr}{pins:List (Addr×Obj)}{U:L2.St}{H:Hp}{s:Shared}{st:Sto}{o:Expr}{fo:zd->Mo PV}{apos cpos p0 pos0:Pos}
open Classical in
noncomputable def eInT (K:Frag) (mg:Str->Option Value) (ρ:List Addr) (H:Hp) (st:Sto) (ys:List PV) (x:PV) (u:Value):Bool:=decide (∃y v,y∈ys/\R K mg ρ H y v/\RelV v u/\eqT st 150 y x=some true)
open Classical in
theorem zhG:∀{ks:List Str}{vs:List V}{kv:List (Key×Value)},ks.length=vs.length->KV (kz ks vs) kv->Vals vs (kv.map (·.2))
 | [],[],_,_,h=>by cases h;exact .nil
 | [],_::_,_,hl,_=>by simp at hl
 | _::_,[],_,hl,_=>by simp at hl
 | k::ks,v::vs,kv,hl,h=>by
  obtain ⟨u,r,rfl,h1,h2⟩:=zd2 h
  exact .cons h1 (zhG (by simpa using hl) h2)
def tLV (to:TE):TE:=fun U H Q=>to U H fun x H1=>∃a ks vs,x=.ref a/\H1 a=some (.dK (kz ks vs))/\ks.length=vs.length/\∀l,H1 l=none->Q (.ref l) (upd H1 l (.lst vs))
theorem zo6 {to:TE} (hc:X.calm=true) (hg0:Gl X "list") (hm0:X.mg "list" = none) (ho:PE X o to) (hbase:attributeBase o "values" X.env (eval o X.env)=eval o X.env) (hline:(apos.endLine==cpos.line)=true) :
  PE X (.Call (.Name "list" p0) [.Call (.Attribute o "values" apos) [] [] cpos] [] pos0) (tLV to):=by
 intro pins s U H Q I h
 refine PyProof.Rows.Call_ (zak I hg0 hm0 zgL (PyProof.Rows.callWith_type1 ?_ rfl rfl))
 show wpAny _ _ (spliced ((false,eval (.Call (.Attribute o "values" apos) [] [] cpos) X.env)::backTo pos0 (starEach [] X.env))) _ _ s
 refine Calls.spliced_cons ?_
 refine wpAny_Call_method0_late hbase hline (thn (ho pins s U H _ I h) fun v s1 ⟨x,H1,I1,r1,q1⟩=>?_)
 obtain ⟨a,ks,vs,rfl,e,hl,q⟩:=q1
 obtain rfl:v=Value.ref a:=r1
 obtain ⟨hz,lo,kv,kvr,hd⟩:=yT I1.hok (.inl e)
 obtain ⟨ep,hat⟩:=hd.dictAt
 refine ⟨"dict", "dict.values", PySem.F.plainAttrs_dict,PySem.F.slot_dict_values,PySem.F.type_dict_values,?_,?_,Calls.callWith_builtin rfl (PySem.evalArgs_none (call_meetsIn PySem.F.slot_dict_values hd.typeIs PySem.F.entry_dict_values (PySem.F.args_dict_values_1 _) (meets_dict_values (mixKind X.prog X.w) a lo) ⟨⟨kv,hd⟩,?_⟩))⟩
 ·exact (zdr I1 (x:=.ref a) rfl (.inr (.inr (.inl ⟨rfl,.inl ⟨_,e⟩⟩)))).1
 ·exact (zdr I1 (x:=.ref a) rfl (.inr (.inr (.inl ⟨rfl,.inl ⟨_,e⟩⟩)))).2
 refine Calls.spliced_nil ?_
 have hle:s1.heap.objs.size<=(s1.heap.push { cls:=.type "dict_values", data:=.fields #[.ref a] }).objs.size:=by rw [Heap.size_push];exact Nat.le_succ _
 refine kdl_call (s:={ s1 with heap:=s1.heap.push { cls:=.type "dict_values", data:=.fields #[.ref a] } }) (kdl_values (knd:=mixKind X.prog X.w) (kvs:=kv) (ep:=ep)) (I.ok.hd hc) ⟨⟨_,Heap.get?_push_size _ rfl,rfl,rfl⟩,hat.push _⟩ (by rw [<-kvr.length];exact hz) fun h' tk acc' c' hk hS hitems=>?_
 have ev:acc'.toList=kv.map (·.2):=kdl_vals_eq _ (by rw [Array.length_toList];exact hitems.1) fun j u e=>hitems.2 j u (by rw [<-Array.getElem?_toList];exact e)
 have hv:Vals vs acc'.toList:=by rw [ev];exact zhG hl kvr
 have lv:vs.length<=sizeLine:=by
  have:(kz ks vs).length=vs.length:=by simp [kz,hl]
  rw [<-this];exact hz
 exact ⟨.ref _,_,I1.laid (t':=tk) (fun b ob eb=>hk b ob (Heap.get?_push_of_some _ eb)) hle (show ObjOk X.prog X.w _ h' _ (.lst vs) from ⟨lv,acc'.toList,c',hv,by simpa using hS⟩),rfl,q _ (I1.hok.fresh hle)⟩
def zd6:PV->Mo PV
 | .ref n,st=>yU st n fun _ xs=>.ok (.ref st.length) (st++[.lst xs])
 | _,_=>.stuck
theorem zo7 (hc:X.calm=true) (hm0:X.mg "list" = none) (ho:ME X Er o fo) (hg0:Gl X "list" := by rfl) (hbase:attributeBase o "values" X.env (eval o X.env)=eval o X.env:=by rfl) (hline:(apos.endLine==cpos.line)=true:=by rfl) :
  ME X Er (.Call (.Name "list" p0) [.Call (.Attribute o "values" apos) [] [] cpos] [] pos0) (jc zd6 fo) :=
 PE.weak (zo6 hc hg0 hm0 ho hbase hline) fun U H Q ⟨env,st,ρ,re,rs,h⟩=>⟨env,st,ρ,re,rs,h.then fun ag H1 x st1 e1 s1 h1 v rv=>by
  cases x with
  | ref n =>
   obtain ⟨ks,xs,e,h1⟩:=zb9 h1
   obtain ⟨a,vs,rfl,_,k1,k2,k3⟩:=R.refD s1 rv e
   exact ⟨a,ks,vs,rfl,k1,k3,fun l hl=>Out.newList (xs:=xs) h1 s1 k2 hl⟩
  | _=>exact False.elim h1⟩
end
end Mi
namespace L2
open PySem PySem.Spec PyProof.Rows
def zo8 (iy:Nat) (wi:TI) (te:TE):TS:=fun D U H=>wi U H fun J H1=>CompW J te U (fun v H2=>D.nx (U.set iy (some v)) H2) H1
theorem zo9 {X:Cx} {elt iter:Expr} {x y:Str} {px pos pos' spos:Pos} {scope:Scope} {wi:TI} {te:TE} {M:List Str} {iy:Nat} (hc:X.calm=true) (S:CompSc X.env.scope scope x) (eN:Hid scope M X.N) (hN0:((".0" : Str)::x::M).Nodup)
  (hi:PI X (.Name x px) iter wi) (he:∀cl C af aj fp,PE (cxH X M scope cl x C af aj fp (fun _ _=>False)) elt te) (hNX:X.N.Nodup) (hiy:X.N[iy]?=some y) (hy:Loc X.env.scope y) (hfy:X.fn y=true\/X.env.scope.names.lookup y=some .local)
  (hsw:swapsWith (.ListComp elt [⟨.Name x px,iter,[],0⟩] scope pos) (some (.Name y pos')) spos.line X.env=pure true) (hs:∀v,foldedSetIterable iter X.env v=pure v:=by intro _;rfl):PS X (.Assign [.Name y pos'] (.ListComp elt [⟨.Name x px,iter,[],0⟩] scope pos) spos) (zo8 iy wi te):=by
 intro pins s U H Dn I h
 have hN:(x::M).Nodup:=(List.nodup_cons.mp hN0).2
 have h0N:(".0" : Str)∉M:=fun z=>(List.nodup_cons.mp hN0).1 (List.mem_cons_of_mem _ z)
 obtain ⟨cl,hclos,hcl1,hcl2⟩:=zga X.env scope fun p hp hf=>I.ok.has p.1 (.inl (S.free p hp hf))
 have hkd:X.env.scope.kind=.function:=I.ok.kind
 rw [exec_Assign_Name_used _ _ _ _ hsw]
 refine wpAny_bind (wpAny_standAt ?_)
 rw [arm_evalThenUse_ListComp]
 refine wpAny_bind (wpAny_bind (wpAny_comprehension_free (Q:=fun _ s'=>wpAny (model X.prog X.w) X.A (pure ():Sem Unit) (fun _ s'=>wpAny (model X.prog X.w) X.A (pure .next:Sem Flow) (SP X pins Dn) X.xe s') X.xe s') (use:=some (assign (.Name y pos') X.env)) rfl hs hclos S.kind (fun y hy hl=>(S.names y hy hl).1) ?_))
 refine thn (hi pins s U H _ I h) fun v s1 h1=>thn h1 fun itv af h2=>?_
 obtain ⟨it,fp,tn,J,H2,e,I2,T,st2,f2,W,⟨m0,w0⟩,turn⟩:=h2
 subst e
 refine wpAny_newObj_type (wpAny_newFunctionEnv S.ncell (by intro y hy;simp at hy) (fun aB aF aE=>?_) S.kind)
 dsimp only at aF aE ⊢
 generalize hH2:af.heap.push { cls:=.type "list", dict:=none,data:=.seq ([]:List Value).toArray }=G2 at aF aE ⊢
 have hC:G2.objs.size=af.heap.objs.size+1:=by rw [<-hH2,Heap.size_push]
 have hDC:af.heap.objs.size≠G2.objs.size:=by rw [hC];exact Nat.ne_of_lt (Nat.lt_succ_self _)
 have hCle:af.heap.objs.size<=G2.objs.size:=by rw [hC];exact Nat.le_succ _
 have old:∀b o,af.heap.get? b=some o->aB.get? b=some o:=fun b o e=>by
  have hb:b≠G2.objs.size:=by rw [hC];exact Nat.ne_of_lt (Nat.lt_succ_of_lt (Heap.lt_size e))
  exact aE.extBut b o hb (Heap.get?_push_of_some _ (hH2▸Heap.get?_push_of_some _ e))
 have hacc:aB.get? af.heap.objs.size=some { cls:=.type "list", data:=.seq (#[]:Array Value) 0 }:=aE.extBut _ _ hDC (Heap.get?_push_of_some _ (hH2▸Heap.get?_push_size _ rfl))
 generalize hD:af.heap.objs.size=D at *
 generalize hCC:G2.objs.size=C at *
 have ltS:∀{b:Nat} {o:Obj},af.heap.get? b=some o->b<D:=fun e=>by rw [<-hD];exact Heap.lt_size e
 have nofr:∀b,D<=b->b∉frs X.stack:=fun b hb z=>by
  rcases List.mem_cons.mp (I2.stkSub b z) with q|q
  ·exact ar1 I2.lt hD hb q
  ·exact I2.nofs (by rw [hD];exact hb) q
 let E':Value->Shared->Prop:=notedBy (model X.prog X.w) X.A (compEnvC scope cl C X.env) fun e s'=>compPost (model X.prog X.w) X.A X.xe (some (assign (.Name y pos') X.env)) (fun _ s'=>wpAny (model X.prog X.w) X.A (pure ():Sem Unit) (fun _ s'=>wpAny (model X.prog X.w) X.A (pure .next:Sem Flow) (SP X pins Dn) X.xe s') X.xe s') (.ref D) C (.error e) s'
 let Y:Cx:=cxH X M scope cl x C af H2 fp E'
 have fpX:∀b∈fp,FpOk X pins H2 b:=f2
 have okY:Y.Ok:=by
  refine ⟨I2.ok.mod,S.kind,I2.ok.glob,I2.ok.blt,(by show af.heap.objs.size<=C;omega),fun y z c h1 h2=>?_,fun y hy=>?_,fun y c hf=>?_,I2.ok.hd,I2.ok.frames,.inl rfl,fun b hb=>?_,I2.bs,Nat.le_trans I2.ok.bsz I2.sz,fun b o hb hx=>?_,fun b hb hx=>?_,I2.stack,I2.stkFree⟩
  ·exact I2.ok.inj y z c (hcl1 y c h1) (hcl1 z c h2)
  ·exact hcl2 y (zdu S hkd hy)
  ·cases hf
  ·refine ⟨fun z=>?_,fun y c hy=>(fpX b hb).2.2.2.2.1 y c (hcl1 y c hy)⟩
   obtain ⟨o,ho,_⟩:=T.obj 0 _ st2 b hb
   exact wS (ltS ho) hC z
  ·rcases (fpX b hx).2.2.2.1 with z|z
   ·exact I2.ok.noex b o hb z
   ·exact ar3 (Heap.lt_size hb) I2.ok.bsz z
  ·rcases List.mem_cons.mp (I2.stkSub b hx) with q|q
   ·exact (fpX b hb).2.1 q
   ·exact (fpX b hb).2.2.1 q
 have hpinD:∀{s':Shared} {H':Hp} {o:Obj},s'.heap.get? D=some o->H' D=none->(∀v,o.data ≠ .cell v)->∀p∈[(D,o)],s'.heap.get? p.1=some p.2/\H' p.1=none/\p.1≠Y.env.locals/\p.1∉Y.fs/\∀v,p.2.data ≠ .cell v:=fun {s' H' o} e1 e2 e3 p hp=>by
  have ep:p=(D,o):=by simpa using hp
  subst ep
  exact ⟨e1,e2,hDC,nofr D (Nat.le_refl _),e3⟩
 have I0:Inv Y [(D,{ cls:=.type "list", data:=.seq (#[]:Array Value) 0 })] (none::U) H2 { af with heap:=aB,toks:=af.toks+([]:List (Str×Value)).length }:=by
  have fresh:∀b,D<=b->H2 b=none:=fun b hb=>I2.hok.fresh (by rw [hD];exact hb)
  refine ⟨okY,rfl,I2.bare,Un.kept old,⟨_,aF,fun i y v e1 e2 e3=>?_⟩,fun y c hy=>?_,fresh C (by omega),fun y c hy=>I2.freeC y c (hcl1 y c hy),fun p hp=>hpinD hacc (fresh D (Nat.le_refl _)) (fun v z=>by cases z) p hp,I2.hok.kept old,?_⟩
  ·cases i with
   | zero=>simp at e2
   | succ i =>
    have e0':M[i]?=some y:=by simpa [Y,cxH] using e1
    have e1':X.N[i]?=some y:=by
     rcases eN.get e0' with q|q
     ·exact q
     ·refine absurd ?_ q
      rcases e3 with e3|e3|e3<;>(obtain ⟨k0,hm,_⟩:=wA e3;exact List.mem_map.mpr ⟨_,hm,rfl⟩)
    have e2':U[i]?=some (some v):=by simpa using e2
    have hyx:¬(y=x\/y = ".0"):=fun z=>by
     have hm:=List.mem_of_getElem? e0'
     rcases z with z|z
     ·rw [z] at hm
      exact (List.nodup_cons.mp hN).1 hm
     ·rw [z] at hm
      exact h0N hm
    have hfr:(y,NameKind.free)∈scope.names:=by
     rcases e3 with e3|e3|e3
     ·exact absurd (zgb S e3) hyx
     ·exact zdu S hkd (.inl e3)
     ·exact zdu S hkd (.inr e3)
    have hkc:X.env.scope.names.lookup y=some .cell:=S.free _ hfr rfl
    obtain ⟨m,hn,hl⟩:=I2.loc
    obtain ⟨u,r,l⟩:=hl i y v e1' e2' (.inr (.inl hkc))
    refine ⟨u,r,?_⟩
    rcases l with ⟨hk,_⟩|⟨_,c,hcc,hcell⟩
    ·have:X.env.kindOf y=some .cell:=hkc
     rw [this] at hk;cases hk
    ·obtain ⟨c',hc'⟩:=hcl2 y hfr
     have:=hcl1 y c' hc'
     rw [hcc] at this
     cases this
     refine .inr ⟨?_,c,hc',?_⟩
     ·rcases e3 with e3|e3|e3
      ·exact absurd (zgb S e3) hyx
      ·exact .inl e3
      ·exact .inr e3
     ·obtain ⟨o,ho,hd⟩:=hcell
      exact ⟨o,old c o ho,hd⟩
  ·obtain ⟨v,o,ho,hd⟩:=I2.cell y c (hcl1 y c hy)
   exact ⟨v,o,old c o ho,hd⟩
  ·show (none::U).length=(x::M).length
   simp [I2.len,eN.1]
 have fpY:∀{pl:List (Addr×Obj)} {H':Hp},(∀p∈pl,p.1=D)->(∀b∈fp,H' b=none)->∀b∈fp,FpOk Y pl H' b:=fun {pl H'} hpl hn b hb=>by
  obtain ⟨o,ho,_⟩:=T.obj 0 _ st2 b hb
  refine ⟨hn b hb,fun z=>?_,?_,.inl hb,(okY.exf b hb).2,fun p hp z=>?_⟩
  ·exact wS (ltS ho) hC z
  ·exact okY.exfs b hb
  ·have hp':p∈pl:=by simpa [Y,cxH] using hp
   exact ar4 (ltS ho) (hpl p hp') z
 have loop:codeAny (model X.prog X.w) X.A (.compLoop (.ListComp elt [⟨.Name x px,iter,[],0⟩] scope pos) 0 (.ref it) (.ref D) (compEnvC scope cl C X.env))
   (compPost (model X.prog X.w) X.A X.xe (some (assign (.Name y pos') X.env)) (fun _ s'=>wpAny (model X.prog X.w) X.A (pure ():Sem Unit) (fun _ s'=>wpAny (model X.prog X.w) X.A (pure .next:Sem Flow) (SP X pins Dn) X.xe s') X.xe s') (.ref D) C) { af with heap:=aB,toks:=af.toks+([]:List (Str×Value)).length }:=by
  refine zl3 (fun n s'=>∃i ys H' its k,Inv Y [(D,{ cls:=.type "list", data:=.seq (its:List Value).toArray k })] (none::U) H' s'/\Vals ys its/\tn i s'.heap/\(∀b∈fp,H' b=none)/\W i n ys H') ?_ m0
   ⟨0,[],H2,[],0,I0,.nil,T.keep 0 _ _ st2 (fun b hb o e=>old b o e),fun b hb=>(fpX b hb).1,w0⟩
  rintro n s3 ⟨i,ys,H3,its,k,I3,rv,st3,fr3,w3⟩
  have pinl:∀{o:Obj},∀p∈[(D,o)],p.1=D:=fun {o} p hp=>by
   have ep:p=(D,o):=by simpa using hp
   rw [ep]
  obtain ⟨gD,nD,_,_,_⟩:=I3.pin (D,_) (List.mem_append_right _ List.mem_cons_self)
  rcases turn i n ys H3 w3 with ⟨stop,hz,q⟩|⟨go,hz,step⟩
  ·refine thn (T.done Y rfl rfl rfl hc i _ s3 _ H3 E' I3 (fpY pinl fr3) st3 stop) fun r s4 ⟨hr,I4⟩=>?_
   subst hr
   obtain ⟨gD4,nD4,_,_,_⟩:=I4.pin (D,_) (List.mem_append_right _ List.mem_cons_self)
   obtain ⟨m4,hn4,_⟩:=id I4.loc
   have fin:∀h',Heap.SameBut C s4.heap h'->Inv X pins U (upd H3 D (.lst ys)) { s4 with heap:=h' }:=fun h' hsb=>by
    have neC:∀{b:Addr} {u:HO},H3 b=some u->b≠C:=fun e z=>by
     have:H3 C=none:=I4.free
     rw [z,this] at e;cases e
    refine I2.call' (s':={ s4 with heap:=h' }) (ch:=fp) (H':=upd H3 D (.lst ys)) I4.os ?_ ?_ I4.bare fun b hb=>⟨(fpX b hb).2.2.2.1,(fpX b hb).2.1,(fpX b hb).2.2.2.2.1,(fpX b hb).2.2.2.2.2⟩
    ·have B:=I4.base
     have ltC:∀{b:Nat} {o:Obj},af.heap.get? b=some o->b≠C:=fun e z=>wS (ltS e) hC z
     have neD:∀{b:Addr} {u:HO},H3 b=some u->b≠D:=fun e z=>by rw [z,nD4] at e;cases e
     refine ⟨fun b o e nn hb hx=>(hsb.2 b (ltC e)).trans (B.keep b o e nn hb hx),fun b o e nn hb hx=>?_,fun b o e nn hx=>?_,fun b o e hx=>?_,fun b xs e=>?_,fun b o u e=>?_,fun b ps e=>?_⟩
     ·obtain ⟨sl,z⟩:=B.slot b o e nn hb hx
      exact ⟨sl,(hsb.2 b (ltC e)).trans z⟩
     ·have hbD:b≠D:=Nat.ne_of_lt (ltS e)
      rw [zG hbD]
      exact B.free b o e nn hx
     ·obtain ⟨o',z⟩:=B.there b o e hx
      exact ⟨o',(hsb.2 b (ltC e)).trans z⟩
     ·have z:=B.tups b xs e
      rw [zG (neD z)];exact z
     ·have z:=B.frzs b o u e
      rw [zG (neD z)];exact z
     ·obtain ⟨more,z⟩:=B.tbls b ps e
      exact ⟨more,by rw [zG (neD z)];exact z⟩
    ·intro a o e
     by_cases ha:a=D
     ·subst ha
      rw [yp] at e
      cases e
      exact ⟨hz,its,k,rv,(hsb.2 _ hDC).trans gD4⟩
     ·rw [zG ha] at e
      have keepNe:∀b u,H3 b=some u->(upd H3 D (.lst ys)) b=some u:=fun b u z=>by
       have hb:b≠D:=fun w=>by rw [w,nD4] at z;cases z
       rw [zG hb];exact z
      refine (I4.hok a o e).stay (fun b u hb z=>(hsb.2 b ?_).trans z) (fun b z=>keepNe b _ z) fun b xs z=>keepNe b _ z
      rcases hb with hb|hb
      ·rw [hb];exact neC e
      ·exact neC hb
   have hCD:C≠D:=fun z=>hDC z.symm
   have IX:=fin s4.heap ⟨rfl,fun _ _=>rfl⟩
   obtain ⟨oC,eC,pC,gC,rC⟩:=id hn4
   have hCn:upd H3 D (.lst ys) C=none:=by rw [zG hCD];exact I4.free
   have hCe:∀b o,af.heap.get? b=some o->b≠C:=fun b o e z=>wS (ltS e) hC z
   have hCl:C≠X.env.locals:=fun z=>by
    obtain ⟨m2,hn2,_⟩:=id I2.loc
    obtain ⟨o2,_,_,g2,_⟩:=hn2
    exact hCe _ _ g2 z.symm
   have hCf:C∉X.fs:=I2.nofs (by rw [hD];omega)
   have IP:Inv X (pins++[(C,oC)]) U (upd H3 D (.lst ys)) s4:=IX.pins_of fun p hp=>by
    rcases List.mem_append.mp hp with hp|hp
    ·exact IX.pin p (List.mem_append_right _ hp)
    ·have ep:p=(C,oC):=by simpa using hp
     subst ep
     exact ⟨gC,hCn,hCl,hCf,fun v z=>by rw [rC.1] at z;cases z⟩
   show wpAny _ _ (assign (.Name y pos') X.env (.ref D)) _ _ s4
   have hst:wpAny (model X.prog X.w) X.A (assign (.Name y pos') X.env (.ref D)) (fun _ s5=>Inv X (pins++[(C,oC)]) (U.set iy (some (.ref D))) (upd H3 D (.lst ys)) s5) X.xe s4:=wpAny_assign_Name (zaj IP hNX hiy hy (v:=.ref D) rfl (fun s5 I5=>I5) hfy)
   refine thn hst fun _ s5 I5=>?_
   have g5:=(I5.pin (C,oC) (List.mem_append_right _ (List.mem_append_right _ List.mem_cons_self))).1
   refine ⟨m4,⟨oC,eC,pC,g5,rC⟩,fun h'' hsb=>wpAny_pure (wpAny_pure ⟨_,_,?_,q D nD4⟩)⟩
   exact (I5.pins_of (pins':=pins) fun p hp=>I5.pin p (List.mem_append_right _ (List.mem_append_left _ hp))).turned (it:=C) (t':=s5.toks) (fun b o hb e=>(hsb.2 b hb).trans e) hCn hCl
    (.inr (by have:=I2.sz;rw [hD] at this;omega)) (fun a c ha z=>by
     obtain ⟨v',o',ho',_⟩:=I2.cell a c ha
     exact hCe _ _ ho' z) (fun p hp=>hCe _ _ (I2.pin p hp).1)
  ·refine thn (T.item Y rfl rfl rfl hc i _ s3 _ H3 E' I3 (fpY pinl fr3) st3 go) fun r s4 ⟨u,hr,h4⟩=>?_
   subst hr
   refine thn h4 fun _ s5 ⟨z,H5,I5,r5,y5,st5,fr5⟩=>?_
   have I5':=I5.pinned (fpY pinl fr5) (T.obj _ _ st5)
   have pgx:PG Y (.Name x px) (wx 0):=zal (X:=Y) hN rfl (.inl (lookup_relabel_local S.hx)) (.inr (lookup_relabel_local S.hx))
   have peY:PE Y elt te:=PE.nox (X:=Y) (he cl C af H2 fp)
   refine thn (pgx _ s5 (none::U) H5 z u (fun ai H'=>ai=some z::U/\H'=H5) I5' r5 ⟨rfl,rfl⟩) fun _ s6 ⟨aI,H6,I6,e1,e2⟩=>?_
   subst e1 e2
   refine thn (peY _ s6 _ _ _ I6 (step z _ y5)) fun uy s7 ⟨y,H7,I7,ry,m',hm,w7⟩=>?_
   obtain ⟨gD7,nD7,_,_,_⟩:=I7.pin (D,_) (List.mem_append_right _ (List.mem_append_left _ List.mem_cons_self))
   refine wpAny_list_append_plain ⟨k,gD7⟩ (fun h' hpl hsb=>?_) (by rw [List.size_toArray,<-rv.length];exact hz)
   obtain ⟨k',gD'⟩:=hpl
   have I8:Inv Y [] (some z::U) H7 { s7 with heap:=h' }:=(I7.pins_of (pins':=[]) (fun p hp=>nomatch hp)).turned (it:=D) (t':=s7.toks) (fun b o hb e=>(hsb.2 b hb).trans e) nD7 hDC
    (.inr (by show af.heap.objs.size<=D;omega)) (fun a c hy hz'=>by
     obtain ⟨v',o',ho',_⟩:=I2.cell a c (hcl1 a c hy)
     exact Nat.ne_of_lt (ltS ho') hz') (fun p hp=>by simp [Y,cxH] at hp)
   have I9:Inv Y [] (none::U) H7 { s7 with heap:=h' }:=I8.weak (by simp) fun j v e=>by
    cases j with
    | zero=>simp at e
    | succ j=>simpa using e
   have pinOf:∀b∈fp,∃o,s5.heap.get? b=some o/\s7.heap.get? b=some o/\H7 b=none:=fun b hb=>by
    obtain ⟨o,e,_⟩:=T.obj _ _ st5 b hb
    have q:=I7.pin (b,o) (List.mem_append_right _ (List.mem_append_right _ (zaT hb e)))
    exact ⟨o,e,q.1,q.2.1⟩
   have fpD:∀b∈fp,b≠D:=fun b hb=>by
    obtain ⟨o,ho,_⟩:=T.obj 0 _ st2 b hb
    exact Nat.ne_of_lt (ltS ho)
   have eT:its.toArray.push uy=(its++[uy]).toArray:=by simp
   rw [eT] at gD'
   refine ⟨m',hm,i+1,ys++[y],H7,its++[uy],k',I9.pins_of (hpinD gD' nD7 fun v e=>by cases e),rv.append (.cons ry .nil),T.keep (i+1) _ _ st5 fun b hb o e=>?_,fun b hb=>?_,w7⟩
   ·obtain ⟨o',e1,e2,_⟩:=pinOf b hb
    rw [e] at e1
    cases e1
    exact (hsb.2 b (fpD b hb)).trans e2
   ·obtain ⟨_,_,_,q⟩:=pinOf b hb
    exact q
 exact codeAny_compStart_list loop (T.self X.A 0 _ _ _ (T.keep 0 _ _ st2 (fun b hb o e=>old b o e)) loop)
end L2
namespace Mi
open PySem L2 PySem.W PySem.Spec
section
variable {X:Cx}{Er:XK}{pos:Pos}
def tMI (X:Cx) (Er:XK) (src:zd->Mo Sq):TI:=fun U H R=>∃env st ρ,EnvR X.K X.mg ρ H env U/\StR X.K X.mg ρ H st/\Out X.K X.mg ρ H (src env st) (fun ah H' q st'=>∀J,Walk X.K X.mg J ah H' q->R J H') Er
theorem zpa {src:zd->Mo Sq}{fe:zd->Mo PV}(U:L2.St) (H:Hp) (Q:VK) (hh:tM X.K X.mg Er (yr src fe) U H Q):zgc (tMI X Er src) (tM X.K X.mg XN fe) U H Q:=by
 obtain ⟨env,st,ρ,re,rs,h⟩:=hh
 refine ⟨env,st,ρ,re,rs,h.then fun au H0 q st0 e0 s0 h0 J wk=>?_⟩
 cases q with
 | im xs =>
  obtain ⟨hl,h0⟩:=Out.ifp h0
  obtain ⟨w1,w2,w3⟩:=wk
  refine ⟨fun i m ys H=>m=xs.length-i/\i<=xs.length/\ys.length=i/\∃ps st ρ,Rs X.K X.mg ρ H ps ys/\StR X.K X.mg ρ H st/\Ext au H0 ρ H/\Out X.K X.mg ρ H (compL fe env (xs.drop i) ps st) (gV X.K X.mg Q) Er,⟨xs.length,by simp,Nat.zero_le _,rfl,[],st0,au,rfl,s0,Ext.refl,h0⟩,?_⟩
  rintro i m ys H ⟨rfl,hi,hy,ps,st,ρ,rps,rs,ex,h⟩
  by_cases hlt:i<xs.length
  ·refine .inr ⟨w1 i ρ H ex hlt,yQ (by omega),fun v H' y=>?_⟩
   obtain ⟨x,hx,ex2,s2,rx⟩:=w3 i ρ H st v H' ex rs hlt y
   have hd:xs.drop i=x::xs.drop (i+1):=by
    rw [List.drop_eq_getElem_cons hlt]
    have:=(List.getElem?_eq_some_iff.mp hx).2
    rw [this]
   rw [hd] at h
   simp only [compL] at h
   refine ⟨some x::env,st,ρ,(re.ext (e0.trans (ex.trans ex2))).cons rx,s2,wn (Out.ext h ex2) fun aq H3 y st3 e3 s3 h3 v ry=>⟨xs.length-(i+1),by omega,rfl,hlt,by simp [hy],ps++[y],st3,aq,Rs.snoc ry (Rs.ext (ex2.trans e3) ps rps),s3,(ex.trans ex2).trans e3,h3⟩⟩
  ·have e:i=xs.length:=by omega
   subst e
   rw [List.drop_length] at h
   exact .inl ⟨w2 _ ρ H ex (Nat.le_refl _),yQ (by omega),fun l hl=>Out.newList h rs rps hl⟩
 | rf n =>
  obtain ⟨a,ha,rfl⟩:=wk
  refine ⟨fun i m ys H=>m+i=lim+1/\ys.length=i/\∃ps st ρ,Rs X.K X.mg ρ H ps ys/\StR X.K X.mg ρ H st/\Ext au H0 ρ H/\ρ[n]?=some a/\Out X.K X.mg ρ H (compR fe env n m i ps st) (gV X.K X.mg Q) Er,⟨lim+1,rfl,rfl,[],st0,au,rfl,s0,Ext.refl,ha,h0⟩,?_⟩
  rintro i m ys H ⟨hm,hy,ps,st,ρ,rps,rs,ex,ha,h⟩
  cases m with
  | zero=>exact False.elim h
  | succ m =>
   obtain ⟨xs,hn,h⟩:=jf h
   obtain ⟨vs,hH,hR⟩:=rs.addr hn ha
   cases hx:xs[i]? with
   | none =>
    simp only [hx] at h
    have:vs.length<=i:=by rw [<-hR.len];exact List.getElem?_eq_none_iff.mp hx
    exact .inl ⟨⟨vs,SqL.of hH,this⟩,yQ (by omega),fun l hl=>Out.newList h rs rps hl⟩
   | some x =>
    simp only [hx] at h
    obtain ⟨v,hv,rv⟩:=hR.get hx
    refine .inr ⟨⟨vs,v,SqL.of hH,hv⟩,yQ (by omega),fun v' H' y=>?_⟩
    obtain ⟨e1,y⟩:=y
    subst e1
    have e2:=y vs (SqL.of hH)
    rw [hv] at e2
    cases e2
    exact ⟨some x::env,st,ρ,(re.ext (e0.trans ex)).cons rv,rs,wn h fun aq H3 y st3 e3 s3 h3 v ry=>⟨m,Nat.lt_succ_self m,by omega,by simp [hy],ps++[y],st3,aq,Rs.snoc ry (Rs.ext e3 ps rps),s3,ex.trans e3,e3.get ha,h3⟩⟩
theorem zpb (i:Nat) {elt iter:Expr} {x y:Str} {px pos' spos:Pos} {scope:Scope} {src:zd->Mo Sq} {fe:zd->Mo PV} {M:List Str} (hc:X.calm=true) (S:CompSc X.env.scope scope x) (eN:Hid scope M X.N) (hN0:((".0" : Str)::x::M).Nodup)
  (hi:MI X Er (.Name x px) iter src) (he:∀cl C af aj fp,ME (cxH X M scope cl x C af aj fp (fun _ _=>False)) XN elt fe) (hNX:X.N.Nodup) (hiy:X.N[i]?=some y) (hy:Loc X.env.scope y) (hfy:X.fn y=true\/X.env.scope.names.lookup y=some .local)
  (hsw:swapsWith (.ListComp elt [⟨.Name x px,iter,[],0⟩] scope pos) (some (.Name y pos')) spos.line X.env=pure true) (hs:∀v,foldedSetIterable iter X.env v=pure v:=by intro _;rfl) :
  MS X Er (.Assign [.Name y pos'] (.ListComp elt [⟨.Name x px,iter,[],0⟩] scope pos) spos) (zx i (yr src fe)) :=
 PS.weak (zo9 (te:=tM X.K X.mg XN fe) hc S eN hN0 hi (fun cl C af aj fp=>he cl C af aj fp) hNX hiy hy hfy hsw hs) fun D U H ⟨env,st,ρ,re,rs,h⟩=>by
  refine zpa (X:=X) (Er:=Er) (src:=src) (fe:=fe) U H (fun v H2=>D.nx (U.set i (some v)) H2) ⟨env,st,ρ,re,rs,h.then fun ag H1 x st1 e1 s1 h1 v rv=>?_⟩
  exact h1.now s1 (U.set i (some v)) ((re.ext e1).set i rv)
theorem zpc (i:Nat) {elt iter:Expr} {x y:Str} {px pos' spos:Pos} {scope:Scope} {src:zd->Mo Sq} {fe:zd->Mo PV} {N:List Str} (hc:X.calm=true) (S:CompSc X.env.scope scope x) (eN:X.N=N) (hN0:((".0" : Str)::x::N).Nodup)
  (hi:MI X Er (.Name x px) iter src) (he:∀cl C af aj fp,ME (cxC X scope cl x C af aj fp (fun _ _=>False)) XN elt fe) (hNX:X.N.Nodup) (hiy:X.N[i]?=some y) (hy:Loc X.env.scope y) (hfy:X.fn y=true\/X.env.scope.names.lookup y=some .local)
  (hsw:swapsWith (.ListComp elt [⟨.Name x px,iter,[],0⟩] scope pos) (some (.Name y pos')) spos.line X.env=pure true) (hs:∀v,foldedSetIterable iter X.env v=pure v:=by intro _;rfl) :
  MS X Er (.Assign [.Name y pos'] (.ListComp elt [⟨.Name x px,iter,[],0⟩] scope pos) spos) (zx i (yr src fe)) :=
 zpb i hc S Hid.refl (eN▸hN0) hi he hNX hiy hy hfy hsw hs
end
end Mi
namespace L2
open PySem PySem.Spec PyProof.Rows PySem.W
section
variable {X:Cx}{pins:List (Addr×Obj)}{U:St}{H:Hp}{s:Shared}{a:Addr}{kvs:List (Key×V)}{o:Obj}
theorem Inv.freeze (I:Inv X pins U H s) (ha:H a=some (.dK kvs)) (ho:s.heap.get? a=some o):Inv X pins U (upd H a (.frz o (.dK kvs))) s:=by
 have mu:Mut (H a):=by rw [ha];trivial
 have d:=I.hok a _ ha
 exact I.un (h':=s.heap) (t':=s.toks) (Un.write (e:=a) mu (.inl rfl) (fun b u _ q=>q) ⟨o,ho⟩) (HOk.write (e:=a) I.hok mu (.inl rfl) (fun b u _ q=>q) ⟨o,ho⟩ ⟨ho,d⟩)
theorem Inv.young (I:Inv X pins U H s) (ha:H a=some (.dK kvs)):∀o u,X.H₀ a≠some (.frz o u):=fun o u e=>by
 have:=I.base.frzs a o u e
 rw [ha] at this
 cases this
theorem Inv.thaw (I:Inv X pins U H s) (ha:H a=some (.frz o (.dK kvs))) (hy:∀o u,X.H₀ a≠some (.frz o u)):Inv X pins U (upd H a (.dK kvs)) s:=by
 have ne:∀b,H b=none->b≠a:=fun b n z=>by rw [z,ha] at n;cases n
 have no:∀b u,H b=some u->(∀o k,u ≠ .frz o k)->b≠a:=fun b u e n z=>by rw [z,ha] at e;cases e;exact n _ _ rfl
 refine ⟨I.ok,I.os,I.bare,⟨I.base.keep,I.base.slot,fun b o e n hx=>?_,I.base.there,fun b xs e=>?_,fun b o u e=>?_,fun b ps e=>?_⟩,I.loc,I.cell,?_,fun x c e=>?_,fun p hp=>?_,fun b u e=>?_,I.len⟩
 ·have:=I.base.free b o e n hx
  rw [zG (ne b this)];exact this
 ·have:=I.base.tups b xs e
  rw [zG (no b _ this fun _ _=>nofun)];exact this
 ·have:=I.base.frzs b o u e
  rw [zG (fun z=>hy o u (by rw [<-z];exact e))];exact this
 ·obtain ⟨m,this⟩:=I.base.tbls b ps e
  exact ⟨m,by rw [zG (no b _ this fun _ _=>nofun)];exact this⟩
 ·rw [zG (ne _ I.free)];exact I.free
 ·rw [zG (ne _ (I.freeC x c e))];exact I.freeC x c e
 ·obtain ⟨h1,h2,h3⟩:=I.pin p hp
  exact ⟨h1,by rw [zG (ne _ h2)];exact h2,h3⟩
 ·by_cases hb:b=a
  ·subst hb
   rw [yp] at e
   cases e
   exact (I.hok b _ ha).2
  ·rw [zG hb] at e
   exact (I.hok b u e).stay (fun c v _ q=>q) (fun c q=>by rw [zG (no c _ q fun _ _=>nofun)];exact q) fun c xs q=>by rw [zG (no c _ q fun _ _=>nofun)];exact q
end
def Itd (a:Addr) (o:Obj) (kvs:List (Key×V)):It :=
 ⟨fun i H=>H a=some (.frz o (.dK kvs))/\i<kvs.length,fun i H x H'=>H'=H/\∃kv,kvs[i]?=some kv/\x=kV kv.1,fun i H=>H a=some (.frz o (.dK kvs))/\kvs.length<=i⟩
theorem zpd {k:Key}{u:Value}(h:keyIs k u=true):RelV (kV k) u:=by
 rcases jL h with ⟨i,t,rfl,rfl⟩|⟨y,t,rfl,rfl⟩
 ·exact ⟨t,rfl⟩
 ·exact ⟨t,rfl⟩
theorem zhI {X:Cx}{pins:List (Addr×Obj)}{U:St}{H:Hp}{s:Shared}{a:Addr}{o:Obj}{kvs:List (Key×V)}{es:Array DictEntry}{ep:Nat}(I:Inv X pins U H s) (ha:H a=some (.frz o (.dK kvs))) (hd:o.data=.dict es ep) :
  ∃vs,KV kvs vs/\s.heap.DictAt (mixKind X.prog X.w) a vs ep:=by
 obtain ⟨ho,_,_,vs,r,o',es',ep',e1,e2,e3,e4⟩:=I.hok a _ ha
 rw [ho] at e1
 cases e1
 rw [hd] at e3
 cases e3
 exact ⟨vs,r,o,es,ho,e2,hd,e4⟩
theorem zpe {P:Program}{w:World}{K:PySem.W.Frag}{tg:Expr}{a it:Addr}{o:Obj}{kvs:List (Key×V)}{es:Array DictEntry}{ep:Nat}(hd:o.data=.dict es ep):Turn P w K tg (Itd a o kvs) [it] it (fun i h=>h.IsKeyIter it a i kvs.length ep) where
 mem:=by simp
 obj:=fun i h st b hb=>by
  have e:b=it:=by simpa using hb
  subst e
  obtain ⟨o,e,c,d⟩:=st
  exact ⟨o,e,fun v z=>by rw [d] at z;cases z⟩
 keep:=fun i h h' st k=>st.at fun o e=>k it (by simp) o e
 item:=by
  intro X hP hw hK hc i pins s U H E I hf st hg
  subst hP hw hK
  obtain ⟨ha,hi⟩:=hg
  obtain ⟨vs,r,hat⟩:=zhI I ha hd
  have hl:=r.length
  have hv:vs[i]?=some (vs[i]'(by omega)):=List.getElem?_eq_getElem (by omega)
  have hkv:kvs[i]?=some kvs[i]:=List.getElem?_eq_getElem hi
  have hk:kvs[i].1=(vs[i]'(by omega)).1:=by
   have:=congrArg (fun l:List Key=>l[i]?) r.keys
   simp only [List.getElem?_map,hv,hkv,Option.map_some] at this
   exact Option.some.inj this
  obtain ⟨f0,f1,f2,f3,f4,f5⟩:=hf it (by simp)
  rw [hl] at st
  refine wpAny_pyNext_dict_item st hat (k:=(vs[i]'(by omega)).1) (v:=(vs[i]'(by omega)).2) hv fun key h' hkey st' sb=>?_
  have I1:Inv X pins U H { s with heap:=h' }:=I.turned (t':=s.toks) (fun b o hb e=>(sb.2 b hb).trans e) f0 f1 f3 f4 f5
  obtain ⟨o',e,c,d⟩:=id st'
  refine ⟨key,rfl,zaS (s:={ s with heap:=h' }) e c d (by decide) ⟨kV kvs[i].1,H,I1,?_,⟨rfl,_,hkv,rfl⟩,by rw [<-hl] at st';exact st',fun b hb=>(hf b hb).1⟩⟩
  rw [hk]
  exact zpd hkey
 done:=by
  intro X hP hw hK hc i pins s U H E I hf st hg
  subst hP hw hK
  obtain ⟨ha,hi⟩:=hg
  obtain ⟨vs,r,hat⟩:=zhI I ha hd
  have hl:=r.length
  obtain ⟨f0,f1,f2,f3,f4,f5⟩:=hf it (by simp)
  rw [hl] at st
  exact wpAny_pyNext_dict_end (I.ok.hd hc) st hat (List.getElem?_eq_none_iff.mpr (by omega)) fun h' eb=>⟨rfl,I.turned (t':=s.toks) (fun b o hb e=>eb b o hb e) f0 f1 f3 f4 f5⟩
 self:=fun _ _ _ _ _ st h=>wpAny_pyIter_keyiter st h
def zpf (X:Cx) (tl:TE):TI:=fun U H R=>tl U H fun x H1=>∃a kvs,x=.ref a/\H1 a=some (.dK kvs)/\∀o,kvs.length<=sizeLine->(∀o u,X.H₀ a≠some (.frz o u))->R (Itd a o kvs) (upd H1 a (.frz o (.dK kvs)))
theorem zpg {X:Cx}{l tg:Expr}{tl:TE}(hl:PE X l tl):PI X tg l (zpf X tl):=by
 intro pins s U H R I h
 refine thn (hl pins s U H _ I h) fun v s1 ⟨x,H1,I1,r1,a,kvs,e,ha,q⟩=>?_
 subst e
 cases r1
 obtain ⟨hz,lo,vs,r,o,es,ep,ho,hx,hd,hr⟩:=I1.hok a _ ha
 have I2:=I1.freeze ha ho
 have fr:∀b,s1.heap.objs.size<=b->(upd H1 a (.frz o (.dK kvs))) b=none:=fun b hb=>I2.hok.fresh hb
 refine wpAny_pyIter_dict lo (show s1.heap.DictAt (mixKind X.prog X.w) a vs ep from ⟨o,es,ho,hx,hd,hr⟩) ?_
 refine ⟨s1.heap.objs.size,[s1.heap.objs.size],_,_,_,rfl,I2.kept (t':=s1.toks) (fun b o e=>Heap.get?_push_of_some _ e),zpe hd,?_,fun b hb=>?_,q o hz (I1.young ha)⟩
 ·rw [r.length]
  exact ⟨_,Heap.get?_push_size _ rfl,rfl,rfl⟩
 ·have e:b=s1.heap.objs.size:=by simpa using hb
  subst e
  exact I2.fpOk (Nat.le_refl _) (fr _ (Nat.le_refl _))
def Thaw (X:Cx) (H:Hp) (G:Hp->Prop):Prop:=∃a o kvs,H a=some (.frz o (.dK kvs))/\(∀o u,X.H₀ a≠some (.frz o u))/\G (upd H a (.dK kvs))
theorem zph {X:Cx}{st:Stmt}{t:TS}(h:PS X st t):PS X st (fun D U H=>t ⟨fun ai H'=>Thaw X H' (D.nx ai),fun _ _=>False,fun _ _=>False,fun _ _=>False⟩ U H):=by
 intro pins s U H D I q
 refine thn (h pins s U H _ I q) fun f s1 q1=>?_
 cases f with
 | next =>
  obtain ⟨ai,H',I',a,o,kvs,ha,hy,q'⟩:=q1
  exact ⟨ai,_,I'.thaw ha hy,q'⟩
 | brk=>obtain ⟨_,_,_,q'⟩:=q1;exact q'.elim
 | cont=>obtain ⟨_,_,_,q'⟩:=q1;exact q'.elim
 | ret u=>obtain ⟨_,_,_,_,_,q'⟩:=q1;exact q'.elim
end L2
namespace Mi
open PySem L2 PySem.W PySem.Spec
section
variable {K:Frag}{mg:Str->Option Value}{ρ:List Addr}{H:Hp}{a:Addr}{o:Obj}{kvs:List (Key×V)}{u:HO}
theorem zbf (ha:H a=some (.frz o (.dK kvs))) {b:Addr}{w:HO}(h:H b=some w) (n:∀o k,w ≠ .frz o (.dK k)):upd H a u b=some w:=by
 rw [zG]
 ·exact h
 ·intro z;subst z;rw [ha] at h;cases h;exact n _ _ rfl
theorem zpi (ha:H a=some (.frz o (.dK kvs))) {p:Addr}{xs:List V}(h:SqT K H p xs):SqT K (upd H a u) p xs:=by
 rcases h with (h|⟨o,h⟩)|h
 ·exact .inl (.inl (zbf ha h (fun _ _=>nofun)))
 ·exact .inl (.inr ⟨o,zbf ha h (fun _ _=>nofun)⟩)
 ·exact .inr h
theorem zpj (ha:H a=some (.frz o (.dK kvs))) {p:Addr}{xs:List V}(h:FrL K H p xs):FrL K (upd H a u) p xs:=by
 rcases h with ⟨o,h⟩|h
 ·exact .inl ⟨o,zbf ha h (fun _ _=>nofun)⟩
 ·exact .inr h
mutual
theorem R.th (ha:H a=some (.frz o (.dK kvs))):∀(x:PV) {v:V},R K mg ρ H x v->R K mg ρ (upd H a u) x v
 | .non,_,h=>h
 | .bl _,_,h=>h
 | .int _,_,h=>h
 | .str _,_,h=>h
 | .ty _,_,h=>h
 | .tup xs,_,h=>by
  obtain ⟨a,vs,h1,h2,h3⟩:=h
  exact ⟨a,vs,h1,zpi ha h2,Rs.th ha xs h3⟩
 | .frl xs,_,h=>by
  obtain ⟨a,vs,h1,h2,h3⟩:=h
  exact ⟨a,vs,h1,zpj ha h2,Rs.th ha xs h3⟩
 | .ref n,_,h=>h
 | .fn _,_,h=>h
 | .kd ks xs,_,h=>by
  obtain ⟨a,us,vs,h1,h2,h4,h3⟩:=h
  exact ⟨a,us,vs,h1,h2,h4,Rs.th ha xs h3⟩
 | .exo c ks xs,_,h=>by
  obtain ⟨a,C,d,vs,h1,h2,h3,h4,h5,h6⟩:=h
  exact ⟨a,C,d,vs,h1,h2,zbf ha h3 (fun _ _=>nofun),zbf ha h4 (fun _ _=>nofun),Rs.th ha xs h5,h6⟩
theorem Rs.th (ha:H a=some (.frz o (.dK kvs))):∀(xs:List PV) {vs:List V},Rs K mg ρ H xs vs->Rs K mg ρ (upd H a u) xs vs
 | [],_,h=>h
 | x::xs,_,h=>by
  obtain ⟨v,r,h1,h2,h3⟩:=h
  exact ⟨v,r,h1,R.th ha x h2,Rs.th ha xs h3⟩
end
theorem EnvR.th (ha:H a=some (.frz o (.dK kvs))) {env:zd}{U:L2.St}(h:EnvR K mg ρ H env U):EnvR K mg ρ (upd H a u) env U :=
 ⟨h.len,fun i x hx=>let ⟨v,p,q⟩:=h.at_ i x hx;⟨v,p,R.th ha x q⟩⟩
theorem zpk (ha:H a=some (.frz o (.dK kvs))) {so:SO}{b:Addr}(ne:b≠a) (h:SoR K mg ρ H so b):SoR K mg ρ (upd H a u) so b:=by
 cases so with
 | lst xs=>obtain ⟨vs,h1,h2⟩:=h;exact ⟨vs,by rw [zG ne];exact h1,Rs.th ha xs h2⟩
 | dic ks xs=>obtain ⟨vs,h1,h2,h3⟩:=h;exact ⟨vs,by rw [zG ne];exact h1,Rs.th ha xs h2,h3⟩
 | ins c ks xs=>obtain ⟨C,dx,vs,h0,h1,h2,h3⟩:=h;exact ⟨C,dx,vs,h0,by rw [zG ne];exact h1,Rs.th ha xs h2,h3⟩
 | fdi ks xs=>obtain ⟨o,vs,h1,h2,h3⟩:=h;exact ⟨o,vs,by rw [zG ne];exact h1,Rs.th ha xs h2,h3⟩
theorem StR.thaw {st:Sto}{n:Nat}{ks:List Str}{xs:List PV}(s:StR K mg ρ H st) (hn:ρ[n]?=some a) (ha:H a=some (.frz o (.dK kvs))) (hs:st[n]?=some (.fdi ks xs)):StR K mg ρ (upd H a (.dK kvs)) (st.set n (.dic ks xs)):=by
 refine ⟨by simp [s.len],s.nd,fun i so' e=>?_⟩
 rw [List.getElem?_set] at e
 by_cases hij:n=i
 ·subst hij
  rw [if_pos rfl] at e
  split at e
  ·cases e
   obtain ⟨o',vs,h1,h2,h3⟩:=s.addr hs hn
   rw [ha] at h1
   cases h1
   exact ⟨a,hn,vs,yp,Rs.th ha xs h2,h3⟩
  ·cases e
 ·rw [if_neg hij] at e
  obtain ⟨b,hb,q⟩:=s.at_ i so' e
  have ne:b≠a:=by
   intro z
   subst z
   obtain ⟨h1,h2⟩:=List.getElem?_eq_some_iff.mp hn
   obtain ⟨h3,h4⟩:=List.getElem?_eq_some_iff.mp hb
   have pw:=List.pairwise_iff_getElem.mp s.nd
   rcases Nat.lt_trichotomy n i with c|c|c
   ·exact pw n i h1 h3 c (h2.trans h4.symm)
   ·exact hij c
   ·exact pw i n h3 h1 c (h4.trans h2.symm)
  exact ⟨b,hb,zpk ha ne q⟩
theorem Ext.thawed {ah:List Addr}{H':Hp}{w:HO}(ha:H a=some (.dK kvs)) (e:Ext ρ (upd H a (.frz o (.dK kvs))) ah H'):Ext ρ H ah (upd H' a w) :=
 ⟨e.pre,fun b x h m=>by
  have ne:b≠a:=by intro z;subst z;rw [ha] at h;cases h;cases m
  rw [zG ne]
  exact e.imm b x (by rw [zG ne];exact h) m⟩
end
section
variable {X:Cx}{Er:XK}{pos:Pos}{o:Expr}{sts:List Stmt}{gb:zd->Mo Fl}{fo:zd->Mo PV}{fs:zd->Mo (List PV)}
def zbg {α:Type}(v:PV) (st:Sto) (f:Nat->List Str->List PV->Res α):Res α:=match v with
 | .ref n=>yU st n fun ks xs=>f n ks xs
 | _=>.stuck
def thawM {α:Type}(n:Nat) (st:Sto) (f:Sto->Res α):Res α:=match st[n]? with
 | some (.fdi ks xs)=>f (st.set n (.dic ks xs))
 | _=>.stuck
theorem zpl {α:Type}{K:Frag}{mg:Str->Option Value}{ρ:List Addr}{H:Hp}{st:Sto}{v:PV}{k:Nat->List Str->List PV->Res α}{good:List Addr->Hp->α->Sto->Prop}(h:Out K mg ρ H (zbg v st k) good Er):∃n ks xs,v=.ref n/\st[n]?=some (.dic ks xs)/\Out K mg ρ H (k n ks xs) good Er:=by
 unfold zbg at h
 split at h
 ·rename_i n
  obtain ⟨ks,xs,e,h⟩:=zb9 h
  exact ⟨n,ks,xs,rfl,e,h⟩
 ·exact False.elim h
theorem zpm {α:Type}{K:Frag}{mg:Str->Option Value}{ρ:List Addr}{H:Hp}{st:Sto}{n:Nat}{k:Sto->Res α}{good:List Addr->Hp->α->Sto->Prop}(h:Out K mg ρ H (thawM n st k) good Er):∃ks xs,st[n]?=some (.fdi ks xs)/\Out K mg ρ H (k (st.set n (.dic ks xs))) good Er:=by
 unfold thawM at h
 split at h
 ·rename_i ks xs e;exact ⟨ks,xs,e,h⟩
 ·exact False.elim h
theorem zpn {α β:Type}{K:Frag}{mg:Str->Option Value}{ρ:List Addr}{H:Hp}{r:Res β}{f:β->Mo α}{good:List Addr->Hp->α->Sto->Prop}(h:Out K mg ρ H ((noErr r).bind f) good Er):∃x st,r=.ok x st/\Out K mg ρ H (f x st) good Er:=by
 cases r with
 | ok x st=>exact ⟨x,st,rfl,h⟩
 | err=>exact False.elim h
 | stuck=>exact False.elim h
theorem zpo {α β:Type}{r:Res β}{f:β->Mo α}{x:α}{st:Sto}(h:(noErr r).bind f=.ok x st):∃y st1,r=.ok y st1/\f y st1=.ok x st:=by
 cases r with
 | ok y st1=>exact ⟨y,st1,rfl,h⟩
 | err=>cases h
 | stuck=>cases h
def forD (g:PV->zd->Option zd) (body:zd->Mo Fl):List PV->zd->Mo zd
 | [],env,st=>.ok env st
 | x::xs,env,st=>match g x env with
  | none=>.stuck
  | some env1=>(noErr (body env1 st)).bind fun fl st2=>match fl with
   | .nx e=>forD g body xs e st2
   | .ct e=>forD g body xs e st2
   | _=>.stuck
def zcz (fo:zd->Mo PV) (g:PV->zd->Option zd) (body:zd->Mo Fl):zd->Mo Fl:=fun env st=>(fo env st).bind fun v st1=>zbg v st1 fun n ks xs =>
 (noErr (forD g body (ks.map PV.str) env (st1.set n (.fdi ks xs)))).bind fun e st2=>thawM n st2 fun st3=>.ok (.nx e) st3
theorem zpp {ks:List Str}{vs:List V}{i:Nat}{kv:Key×V}(h:(kz ks vs)[i]?=some kv):∃k,ks[i]?=some k/\kV kv.1=.str k:=by
 unfold kz at h
 rw [List.getElem?_zip_eq_some] at h
 obtain ⟨h1,_⟩:=h
 rw [List.getElem?_map] at h1
 cases hk:ks[i]? with
 | none=>rw [hk] at h1;cases h1
 | some k =>
  rw [hk] at h1
  have:kv.1=Sum.inr k:=(Option.some.inj h1).symm
  exact ⟨k,rfl,by rw [this];rfl⟩
theorem zpq {tg:Expr}{gt:PV->zd->Option zd}(hp:PassesOwn (model X.prog X.w) X.A X.env X.xe) (hc:X.calm=true) (ho:ME X Er o fo) (hg:MG X Er tg gt) (hb:MSs X Er sts gb)
  (hs:∀v,foldedSetIterable o X.env v=pure v:=by intro _;rfl):MS X Er (.For tg o sts [] pos) (zcz fo gt gb) :=
 PS.weak (zph (zfE hp hc (zpg ho) hg hb hs)) fun D U H ⟨env,st,ρ,re,rs,h⟩=>⟨env,st,ρ,re,rs,h.then fun au H0 x st0 e0 s0 h0 v rv=>by
  obtain ⟨n,ks,xs,rfl,hn,h0⟩:=zpl h0
  obtain ⟨a,vs,rfl,ha,k1,k2,k3⟩:=R.refD s0 rv hn
  refine ⟨a,kz ks vs,rfl,k1,fun ob hz hy=>?_⟩
  obtain ⟨e',st',hr,h0⟩:=zpn h0
  obtain ⟨ks',xs',ht,h0⟩:=zpm h0
  have ew:Ext au H0 au (upd H0 a (.frz ob (.dK (kz ks vs)))):=Ext.write k1 rfl
  have hl:(kz ks vs).length=ks.length:=by simp [kz,k3]
  refine ⟨fun i m U H=>m=ks.length-i/\i<=ks.length/\∃env st ρ,EnvR X.K X.mg ρ H env U/\StR X.K X.mg ρ H st/\Ext au (upd H0 a (.frz ob (.dK (kz ks vs)))) ρ H/\forD gt gb ((ks.map PV.str).drop i) env st=.ok e' st',
   ⟨ks.length,by simp,Nat.zero_le _,env,_,au,(re.ext e0).ext ew,s0.write (so:=.fdi ks xs) ha ew ⟨ob,vs,yp,Rs.ext ew _ k2,k3⟩,Ext.refl,hr⟩,?_⟩
  rintro i m U H ⟨rfl,hi,env,st,ρ,re,rs,ex,h⟩
  have hf:H a=some (.frz ob (.dK (kz ks vs))):=ex.imm a _ yp rfl
  have ha':=ex.get ha
  by_cases hlt:i<ks.length
  ·refine .inr ⟨⟨hf,by rw [hl];exact hlt⟩,_,fun ai H' p'=>⟨ks.length-(i+1),by omega,rfl,hlt,p'⟩,fun v H' y=>?_⟩
   obtain ⟨rfl,kv,hkv,rfl⟩:=y
   obtain ⟨k,hk,ev⟩:=zpp hkv
   have hd:(ks.map PV.str).drop i=.str k::(ks.map PV.str).drop (i+1):=by
    rw [List.drop_eq_getElem_cons (by simpa using hlt)]
    have:=(List.getElem?_eq_some_iff.mp hk).2
    simp [this]
   rw [hd] at h
   simp only [forD] at h
   cases hgx:gt (.str k) env with
   | none=>simp only [hgx] at h;cases h
   | some env1 =>
    simp only [hgx] at h
    obtain ⟨fl,st2,hb2,h⟩:=zpo h
    refine ⟨.str k,env,env1,ρ,ev,re,hgx,fun aw r1=>⟨env1,st,ρ,r1,rs,?_⟩⟩
    rw [hb2]
    intro aq H3 e3 s3
    cases fl with
    | nx e=>exact fun aG r4=>⟨e,st2,aq,r4,s3,ex.trans e3,h⟩
    | ct e=>exact fun aG r4=>⟨e,st2,aq,r4,s3,ex.trans e3,h⟩
    | bk e=>cases h
    | rt v=>cases h
  ·have e:i=ks.length:=by omega
   subst e
   rw [List.drop_of_length_le (by simp)] at h
   cases h
   exact .inl ⟨⟨hf,by rw [hl];exact Nat.le_refl _⟩,a,ob,_,hf,hy,h0 ρ _ (Ext.thawed k1 ex) (StR.thaw rs ha' hf ht) U (re.th hf)⟩⟩
def yW:PV->PV->Mo PV:=fun x y st=>match x with
 | .ref n=>match st[n]? with
  | some (.fdi ks xs)=>match y with
   | .str z=>optR ((ks.zip xs).lookup z) st
   | _=>.stuck
  | _=>zq x y st
 | _=>zq x y st
theorem zcA (hu:X.A.units+200<cLine):IxOk X yW:=by
 obtain ⟨r,h1,h2⟩:=zO (X:=X) hu
 refine ⟨_,h1.or (zhb (by omega)),fun ρ H st x y v w Q E s rx ry h=>?_⟩
 by_cases hx:∃n ks xs,x=.ref n/\st[n]?=some (.fdi ks xs)
 ·obtain ⟨n,ks,xs,rfl,e⟩:=hx
  simp only [yW,e] at h
  cases y with
  | str z =>
   obtain ⟨q,hq,h⟩:=wf h
   obtain ⟨a,rfl,ha⟩:=rx
   obtain ⟨ob,vs,k1,k2,_⟩:=s.addr e ha
   cases ry
   obtain ⟨v,hv,rv⟩:=wg k2 hq
   refine .inr ⟨a,v,rfl,.inl ⟨_,Sum.inr z,.inr ⟨ob,k1⟩,rfl,?_⟩,h.now s _ rv⟩
   rw [<-hv]
   exact zav.symm
  | _=>exact False.elim h
 ·refine .inl (h2 ρ H st x y v w Q E s rx ry ?_)
  have:yW x y st=zq x y st:=by
   unfold yW
   split
   ·rename_i n
    split
    ·rename_i ks xs e;exact absurd ⟨n,ks,xs,rfl,e⟩ hx
    ·rfl
   ·rfl
  rw [this] at h
  exact h
end
end Mi
namespace L2
open PySem PySem.Spec PyProof.Rows PySem.W
end L2
namespace Mi
open PySem L2 PySem.W PySem.Spec
section
variable {X:Cx}{Er:XK}{K:Frag}{mg:Str->Option Value}{pos p apos cpos:Pos}{o e f:Expr}{fo fk fx:zd->Mo PV}
inductive MPk (X:Cx) (Er:XK):List (Option Expr)->List Expr->List ((zd->Mo PV)×(zd->Mo PV))->Prop
 | nil:MPk X Er [] [] []
 | cons {k v:Expr} {fk fv:zd->Mo PV} {ks:List (Option Expr)} {vs:List Expr} {fs:List ((zd->Mo PV)×(zd->Mo PV))} (hk:ME X Er k fk) (hv:ME X Er v fv) (hr:MPk X Er ks vs fs):MPk X Er (some k::ks) (v::vs) ((fk,fv)::fs)
theorem MPk.len {ks:List (Option Expr)}{vs:List Expr}{fs:List ((zd->Mo PV)×(zd->Mo PV))}(h:MPk X Er ks vs fs):ks.length=vs.length/\ks.length=fs.length/\ks.all (·.isSome)=true:=by
 induction h with
 | nil=>exact ⟨rfl,rfl,rfl⟩
 | cons hk hv hr ih=>exact ⟨by simp [ih.1],by simp [ih.2.1],by simpa using ih.2.2⟩
theorem zpr {z:Str}{ks:List Str}{xs:List PV}{vs:List V}(hl:xs.length=vs.length) (hk:ks.length=vs.length) (h:(ks.zip xs).lookup z=none):(ks.zip vs).lookup z=none:=by
 refine zcf fun hz=>?_
 obtain ⟨i,hi⟩:=List.getElem?_of_mem hz
 have hl':i<xs.length:=by rw [hl,<-hk];exact (List.getElem?_eq_some_iff.mp hi).1
 have:=List.lookup_eq_none_iff.mp h (z,xs[i]) (List.mem_iff_getElem?.mpr ⟨i,by simp [List.getElem?_zip_eq_some,hi,hl']⟩)
 simp at this
end
section
variable {K:Frag}{mg:Str->Option Value}{h:Heap}
end
section
variable {X:Cx}{Er:XK}{K:Frag}{mg:Str->Option Value}
theorem call_len_dict:CallR X (.builtin "len") (fun xs H Q=>∃p kvs,xs=[.ref p]/\H p=some (.dK kvs)/\Q (.int kvs.length) H):=by
 intro pins s U H xs us Q I r h
 obtain ⟨p,kvs,rfl,hp,q⟩:=h
 obtain ⟨u,rfl,rx⟩:=wy r
 cases rx
 exact zmg I (.inl hp) fun t s' I'=>⟨.int kvs.length,H,I',⟨t,rfl⟩,q⟩
def zS:List PV->Mo PV:=fun xs st=>match xs with
 | [.ref n]=>match st[n]? with
  | some (.dic ks _)=>.ok (.int ks.length) st
  | _=>wY xs st
 | _=>wY xs st
theorem yy:BltOk X (.builtin "len") zS:=by
 obtain ⟨r,h1,h2⟩:=znu (X:=X)
 refine ⟨_,h1.or call_len_dict,fun ρ H st xs vs Q E s rx h=>?_⟩
 by_cases hx:∃n ks ys,xs=[.ref n]/\st[n]?=some (.dic ks ys)
 ·obtain ⟨n,ks,ys,rfl,e⟩:=hx
  have h:Out X.K X.mg ρ H (.ok (.int ks.length) st) (gV X.K X.mg Q) E:=by
   simpa only [zS,e] using h
  obtain ⟨v,rfl,rv⟩:=Rs.one rx
  obtain ⟨a,ws,rfl,_,k1,k2,k3⟩:=R.refD s rv e
  refine .inr ⟨a,_,rfl,k1,?_⟩
  have hl:(kz ks ws).length=ks.length:=by simp [kz,k3]
  rw [hl]
  exact Out.now (x:=PV.int ks.length) h s _ rfl
 ·refine .inl (h2 ρ H st xs vs Q E s rx ?_)
  have:zS xs st=wY xs st:=by
   unfold zS
   split
   ·rename_i n
    split
    ·rename_i ks ys e;exact absurd ⟨n,ks,ys,rfl,e⟩ hx
    ·rfl
   ·rfl
  rw [this] at h
  exact h
end
section
variable {α:Type}{env:zd}{st:Sto}{fa fb fo fk fx:zd->Mo PV}{fs:zd->Mo (List PV)}{g:zd->Mo Fl}
theorem zcB {n:Nat}{ks:List Str}{xs:List PV}(h:st[n]?=some (.dic ks xs)) (k:List Str->List PV->Res α):yU st n k=k ks xs:=by unfold yU;rw [h]
theorem zhJ {n:Nat}{ks:List Str}{xs:List PV}(h:st[n]?=some (.dic ks xs)):zS [.ref n] st=.ok (.int ks.length) st:=by
 simp only [zS,h]
theorem zaD {n:Nat}{xs:List PV}(h:st[n]?=some (.lst xs)):zS [.ref n] st=.ok (.int xs.length) st:=by
 simp only [zS,h]
 show ye st n _=_
 rw [yj h]
@[simp] theorem zps (xs:List PV):zS [.tup xs] st=.ok (.int xs.length) st:=(rfl)
@[simp] theorem ztG (xs:List PV):zS [.frl xs] st=.ok (.int xs.length) st:=(rfl)
@[simp] theorem ztH (z:Str):zS [.str z] st=wY [.str z] st:=(rfl)
@[simp] theorem zpt (gt:PV->zd->Option zd):zcz fo gt g env st=(fo env st).bind fun v st1=>zbg v st1 fun n ks xs=>(noErr (forD gt g (ks.map PV.str) env (st1.set n (.fdi ks xs)))).bind fun e st2=>thawM n st2 fun st3=>.ok (.nx e) st3:=(rfl)
end
end Mi
namespace L2
open PySem PySem.Spec PyProof.Rows PySem.W
section
variable {X:Cx}
end
end L2
namespace Mi
open PySem L2 PySem.W PySem.Spec
section
variable {X:Cx}{Er:XK}{pos:Pos}{K:Frag}{mg:Str->Option Value}{fs:zd->Mo (List PV)}
end
end Mi
namespace PySem
open Sem (wp)
section
variable {prog:Program}{w:World}{A:Around}{s:Shared}{R:Result->Shared->Prop}
variable {I:Addr}{fp wr:List Addr}{G:Array GenState->Array GenState->Prop}{n:Nat}{P:Nat->Value->Prop}{St:Nat->Shared->Prop}
end
section
variable {prog:Program}{w:World}{A:Around}{s:Shared}{R:Result->Shared->Prop}
variable {I:Addr}{fp wr:List Addr}{G:Array GenState->Array GenState->Prop}{n:Nat}{P:Nat->Value->Prop}{St:Nat->Shared->Prop}
end
section
variable {prog:Program}{w:World}{A:Around}{E:Value->Shared->Prop}{s:Shared}
variable {I:Addr}{fp wr:List Addr}{G:Array GenState->Array GenState->Prop}{n:Nat}{P:Nat->Value->Prop}{St:Nat->Shared->Prop}
end
end PySem
namespace L2
open PySem PySem.Spec PyProof.Rows PySem.W
section
variable {X:Cx}
end
end L2
namespace Mi
open PySem L2 PySem.W PySem.Spec
section
variable {X:Cx}{Er:XK}{pos:Pos}{K:Frag}{mg:Str->Option Value}{fs:zd->Mo (List PV)}
end
section
variable {X:Cx}{Er:XK}{pos pos':Pos}{o i value:Expr}{fo fi fv:zd->Mo PV}
end
section
variable {X:Cx}
end
end Mi
namespace L2
open PySem PySem.Spec PyProof.Rows PySem.W
section
variable {prog:Program}{w:World}{A:Around}{E:Value->Shared->Prop}{s:Shared}
end
section
variable {X:Cx}{pos:Pos}
end
end L2
namespace Mi
open PySem L2 PySem.W PySem.Spec
section
variable {X:Cx}{Er:XK}{pos:Pos}{e:Expr}{fa:zd->Mo PV}
end
end Mi
namespace L2
open PySem PySem.Spec PyProof.Rows PySem.W
section
variable {prog:Program}{w:World}{A:Around}{E:Value->Shared->Prop}{s:Shared}
end
end L2
namespace Mi
open PySem L2 PySem.W PySem.Spec
section
variable {X:Cx}{Er:XK}{pos:Pos}{sts:List Stmt}{gb:zd->Mo Fl}{fs:zd->Mo (List PV)}
end
end Mi
namespace L2
open PySem PySem.Spec PyProof.Rows PySem.W
section
variable {prog:Program}{w:World}{A:Around}{E:Value->Shared->Prop}{s:Shared}
theorem zpu {a:Addr}{vs:List (Key×Value)}{Q:Value->Shared->Prop}(hd:s.heap.DictOf (mixKind prog w) a vs) (ha:(a==sysModules)=false) (hz:vs.length<=sizeLine)
  (h:∀h',h'.DictOf (mixKind prog w) s.heap.objs.size vs->(∀c o,s.heap.get? c=some o->h'.get? c=some o)->Q (.ref s.heap.objs.size) { s with heap:=h' }) :
  wpAny (model prog w) A (call (.type "dict") [.ref a]) Q E s:=by
 refine callType_codes (Q₁:=fun obj al=>obj=.ref s.heap.objs.size/\al={ s with heap:=s.heap.push { cls:=.type "dict", data:=.dict #[] } }) F.kt_called_dict (F.kt_typeCall_dict_1 _) F.entry_dict_init (kt_code_dict_new _ ⟨rfl,rfl⟩) ?_
 rintro obj al ⟨rfl,rfl⟩
 have hnew:(s.heap.push { cls:=.type "dict", data:=.dict #[] }).DictOf (mixKind prog w) s.heap.objs.size []:=Heap.DictOf.new s.heap
 have up:∀c o,s.heap.get? c=some o->(s.heap.push { cls:=.type "dict", data:=.dict #[] }).get? c=some o:=fun c o e=>Heap.get?_push_of_some _ e
 have hd':(s.heap.push { cls:=.type "dict", data:=.dict #[] }).DictOf (mixKind prog w) a vs:=hd.push _
 have lt:a<s.heap.objs.size:=let ⟨_,_,_,ho,_⟩:=hd;Heap.lt_size ho
 have ne:s.heap.objs.size≠a:=Nat.ne_of_gt lt
 have nd:(vs.map (·.1)).Nodup:=let ⟨_,_,_,_,_,_,_,_,hn⟩:=hd;hn
 refine ⟨hnew.typeIs,F.args_dict_init_2 _ _,?_⟩
 unfold Builtin.«dict.__init__»
 refine wpAny_bind ?_
 unfold Builtin.Dict.selfAndRest
 refine wpAny_bind (wpAny_notOrdered_dict hnew.typeIs ?_)
 show wpAny _ _ (pure (s.heap.objs.size,[Value.ref a])) _ _ _
 refine wpAny_pure ?_
 show wpAny _ _ (Builtin.Dict.updateFrom "dict.__init__" s.heap.objs.size (.ref a) [] .none) _ _ _
 unfold Builtin.Dict.updateFrom
 refine wpAny_bind (wpAny_typeOf hd'.typeIs ?_)
 rw [if_neg (by decide)]
 refine wpAny_bind ?_
 unfold Builtin.Dict.merge
 refine wpAny_bind ?_
 unfold Builtin.Dict.readDirectly
 refine wpAny_bind (wpAny_isInstance hd'.typeIs isSubtype_dict_dict ?_)
 simp only [Bool.not_true,Bool.false_eq_true,if_false]
 refine wpAny_bind (wpAny_specialOf hd'.typeIs F.slot_dict_iter.lookup (wpAny_pure ?_))
 simp only [beq_self_eq_true,if_true]
 refine wpAny_bind (wpAny_pure ?_)
 refine wpAny_mergeDict (hsz:=by simpa using hz) ne ha hnew hd' fun h' h1 h2 hs'=>?_
 rw [merged_nil_of_nodup vs nd] at h1
 show wpAny _ _ (Builtin.Dict.addKeywords s.heap.objs.size [] >>= _) _ _ _
 refine wpAny_bind (wpAny_pure (wpAny_pure ?_))
 exact ⟨rfl,h h' h1 fun c o e=>hs'.extBut c o (Nat.ne_of_lt (Heap.lt_size e)) (up c o e)⟩
end
theorem zpv {X:Cx}:CallR X (.type "dict") (fun xs H Q=>∃(a:Addr) (kvs:List (Key×V)),xs=[.ref a]/\H a=some (.dK kvs)/\∀q,H q=none->Q (.ref q) (upd H q (.dK kvs))):=by
 intro pins s U H xs us Q I r h
 obtain ⟨a,kvs,rfl,hH,q⟩:=h
 obtain ⟨u,rfl,ru⟩:=wy r
 cases ru
 obtain ⟨hz,ha,vs,rel,dd⟩:=zgk I.hok hH
 refine zpu dd ha (by rw [<-rel.length];exact hz) fun h' d2 keep=>⟨.ref s.heap.objs.size,_,I.laid (a:=s.heap.objs.size) (o:=.dK kvs) (t':=s.toks) keep (Nat.le_refl _) (zgm hz ?_ rel d2),rfl,q _ (I.hok.fresh (Nat.le_refl _))⟩
 exact beq_eq_false_iff_ne.mpr (Ne.symm (Nat.ne_of_lt I.big))
end L2
namespace Mi
open PySem L2 PySem.W PySem.Spec
section
variable {X:Cx}
def zcC:List PV->Mo PV:=fun xs st=>match xs with
 | [.ref n]=>yU st n fun ks xs=>.ok (.ref st.length) (st++[.dic ks xs])
 | _=>.stuck
theorem zpw:BltOk X (.type "dict") zcC:=⟨_,zpv,fun ρ H st xs vs Q E s r h=>by
 unfold zcC at h
 split at h
 ·rename_i n
  obtain ⟨ks,ys,hn,h⟩:=zb9 h
  obtain ⟨v,rfl,rv⟩:=r.one
  obtain ⟨a,vs,rfl,ha,k1,k2,k3⟩:=R.refD s rv hn
  refine ⟨a,_,rfl,k1,fun q hq=>?_⟩
  have ex:Ext ρ H (ρ++[q]) (upd H q (.dK (kz ks vs))):=Ext.push hq
  exact h (ρ++[q]) _ ex (s.push hq ⟨vs,yp,Rs.ext ex ys k2,k3⟩) _ ⟨q,rfl,by rw [<-s.len];simp⟩
 ·exact False.elim h⟩
end
end Mi
namespace L2
open PySem PySem.Spec PyProof.Rows PySem.W
end L2
namespace Mi
open PySem L2 PySem.W PySem.Spec
section
variable {X:Cx}{Er:XK}{pos:Pos}
def compLI (ft:zd->Mo Bool) (fe:zd->Mo PV) (env:zd):List PV->List PV->Mo PV
 | [],ys,st=>.ok (.ref st.length) (st++[.lst ys])
 | x::xs,ys,st=>(noErr (ft (some x::env) st)).bind fun b st1=>if b=true then (noErr (fe (some x::env) st1)).bind fun y st2=>compLI ft fe env xs (ys++[y]) st2 else compLI ft fe env xs ys st1
def compSI (ft:zd->Mo Bool) (fe:zd->Mo PV) (env:zd):Sq->Mo PV
 | .im xs,st=>if xs.length<=lim then compLI ft fe env xs [] st else .stuck
 | .rf _,_=>.stuck
def zbh (src:zd->Mo Sq) (ft:zd->Mo Bool) (fe:zd->Mo PV):zd->Mo PV:=fun env st=>(src env st).bind fun q st1=>compSI ft fe env q st1
theorem zpx {src:zd->Mo Sq}{ft:zd->Mo Bool}{fe:zd->Mo PV}(U:L2.St) (H:Hp) (Q:VK) (hh:tM X.K X.mg Er (zbh src ft fe) U H Q):zdw (tMI X Er src) (wx 0) (tMB X.K X.mg XN ft) (tM X.K X.mg XN fe) 1 U H Q:=by
 obtain ⟨env,st,ρ,re,rs,h⟩:=hh
 refine ⟨env,st,ρ,re,rs,h.then fun au H0 q st0 e0 s0 h0 J wk=>?_⟩
 cases q with
 | im xs =>
  obtain ⟨hl,h0⟩:=Out.ifp h0
  obtain ⟨w1,w2,w3⟩:=wk
  refine ⟨fun i m ys H=>m=xs.length-i/\i<=xs.length/\ys.length<=i/\∃ps st ρ,Rs X.K X.mg ρ H ps ys/\StR X.K X.mg ρ H st/\Ext au H0 ρ H/\Out X.K X.mg ρ H (compLI ft fe env (xs.drop i) ps st) (gV X.K X.mg Q) Er,⟨xs.length,by simp,Nat.zero_le _,Nat.zero_le _,[],st0,au,rfl,s0,Ext.refl,h0⟩,?_⟩
  rintro i m ys H ⟨rfl,hi,hy,ps,st,ρ,rps,rs,ex,h⟩
  by_cases hlt:i<xs.length
  ·refine .inr ⟨w1 i ρ H ex hlt,yQ (by omega),fun v H' y=>?_⟩
   obtain ⟨x,hx,ex2,s2,rx⟩:=w3 i ρ H st v H' ex rs hlt y
   have hd:xs.drop i=x::xs.drop (i+1):=by
    rw [List.drop_eq_getElem_cons hlt]
    have:=(List.getElem?_eq_some_iff.mp hx).2
    rw [this]
   rw [hd] at h
   simp only [compLI] at h
   have re2:EnvR X.K X.mg ρ H' (some x::env) (some v::U):=(re.ext (e0.trans (ex.trans ex2))).cons rx
   refine ⟨[some v],rfl,rfl,some x::env,st,ρ,re2,s2,wn (Out.ext h ex2) fun aq H3 b st3 e3 s3 h3=>?_⟩
   cases b with
   | true=>exact ⟨_,st3,aq,re2.ext e3,s3,wn h3 fun aP H4 y st4 e4 s4 h4 v4 r4=>⟨xs.length-(i+1),by omega,rfl,hlt,by simp;omega,ps++[y],st4,aP,Rs.snoc r4 (Rs.ext ((ex2.trans e3).trans e4) ps rps),s4,((ex.trans ex2).trans e3).trans e4,h4⟩⟩
   | false=>exact ⟨xs.length-(i+1),by omega,rfl,hlt,by omega,ps,st3,aq,Rs.ext (ex2.trans e3) ps rps,s3,(ex.trans ex2).trans e3,h3⟩
  ·have e:i=xs.length:=by omega
   subst e
   rw [List.drop_length] at h
   exact .inl ⟨w2 _ ρ H ex (Nat.le_refl _),yQ (by omega),fun l hl=>Out.newList h rs rps hl⟩
 | rf n=>exact False.elim h0
theorem zpy {elt iter c:Expr} {x:Str} {px:Pos} {scope:Scope} {src:zd->Mo Sq} {ft:zd->Mo Bool} {fe:zd->Mo PV} {N:List Str} (hc:X.calm=true) (S:CompSN X.env.scope scope [x]) (eN:X.N=N) (hN0:((".0" : Str)::([x]++N)).Nodup)
  (hi:MI X Er (.Name x px) iter src) (hif:∀cl C af aj fp,MT (cxN X scope cl [x] C af aj fp (fun _ _=>False)) XN c ft) (he:∀cl C af aj fp,ME (cxN X scope cl [x] C af aj fp (fun _ _=>False)) XN elt fe)
  (hx:scope.names.lookup x=some .local:=by rfl) (hs:∀v,foldedSetIterable iter X.env v=pure v:=by intro _;rfl):ME X Er (.ListComp elt [⟨.Name x px,iter,[c],0⟩] scope pos) (zbh src ft fe):=by
 have hN:([x]++X.N).Nodup:=by rw [eN];exact (List.nodup_cons.mp hN0).2
 have pgx:∀cl C af aj fp E,PG (cxN X scope cl [x] C af aj fp E) (.Name x px) (wx 0):=fun cl C af aj fp E=>zal (X:=cxN X scope cl [x] C af aj fp E) (i:=0) hN rfl (.inl (lookup_relabel_local hx)) (.inr (lookup_relabel_local hx))
 exact PE.weak (zl7 (te:=tM X.K X.mg XN fe) (tt:=tMB X.K X.mg XN ft) hc S eN hN0 hi pgx (fun cl C af aj fp=>zl5 (hif cl C af aj fp)) (fun cl C af aj fp=>he cl C af aj fp) hs) fun U H Q hh=>zpx U H Q hh
@[simp] theorem zpz {src:zd->Mo Sq}{ft:zd->Mo Bool}{fe:zd->Mo PV}(env:zd) (st:Sto):zbh src ft fe env st=(src env st).bind fun q st1=>compSI ft fe env q st1:=(rfl)
end
section
variable {K:Frag}{h:Heap}{mg:Str->Option Value}{od:Option Addr}{f:Addr}
theorem zhK {O t t2:Addr} {wd k1 k2 k3 y:Str} {u1 u2 u3:Tok} {n n2:Nat} {od2:Option Addr} {sl sl2:Array (Option Value)} (X:K.In h) (G:h.Ns mainGlobals mg) (e:nsIn K O wd=some (some (.ref t))) (l1:K.lookup t=some ⟨.type "tuple", od,.seq #[.ref t2,.ref f] n,sl⟩)
  (l2:K.lookup t2=some ⟨.type "tuple", od2,.seq #[.str k1 u1,.str k2 u2,.str k3 u3] n2,sl2⟩) (a:nsIn K mainGlobals y=some (some (.ref f))):∃u v,nsIn K O wd=some (some u)/\RelV v u/\∀ρ H,R K mg ρ H (.tup [.tup [.str k1,.str k2,.str k3],.fn y]) v:=by
 refine ⟨_,.ref t,e,rfl,zar (xs:=[.tup [.str k1,.str k2,.str k3],.fn y]) (vs:=[.ref t2,.ref f]) l1 rfl (by simp) (.cons rfl (.cons rfl .nil)) fun ρ H=>?_⟩
 exact ⟨_,_,rfl,zar (xs:=[.str k1,.str k2,.str k3]) (vs:=[.str k1,.str k2,.str k3]) l2 rfl (by simp) (.cons ⟨_,rfl⟩ (.cons ⟨_,rfl⟩ (.cons ⟨_,rfl⟩ .nil))) (fun ρ H=>⟨_,_,rfl,rfl,_,_,rfl,rfl,_,_,rfl,rfl,rfl⟩) ρ H,_,_,rfl,⟨f,rfl,mg_of X G a⟩,rfl⟩
end
section
variable {X:Cx}{Er:XK}{pos:Pos}
end
section
variable {X:Cx}{Er:XK}{pos:Pos}
end
section
variable {X:Cx}{Er:XK}{pos pos':Pos}{o i value:Expr}{fo fi fv:zd->Mo PV}
end
end Mi
namespace L2
open PySem PySem.Spec PyProof.Rows PySem.W
section
variable {X:Cx}
def isTx (z:Str):Value->Bool
 | .str y _=>y==z
 | _=>false
theorem zd7 (z:Str):∀{us:List Value}{ys:List Str},StrsAre us ys->∀(i:Nat) (h:i<us.length) (h':i<ys.length),isTx z us[i]=(ys[i]==z)
 | _,_,.nil,i,h,_=>by simp at h
 | _,_,.cons y t r,0,_,_=>rfl
 | _,_,.cons y t r,i+1,h,h'=>by
  simp only [List.getElem_cons_succ]
  exact zd7 z r i (by simpa using h) (by simpa using h')
theorem zhL:∀{us:List Value}{ys:List Str},StrsAre us ys->us.length=ys.length
 | _,_,.nil=>rfl
 | _,_,.cons _ _ r=>by simp [zhL r]
theorem zhM {A:Around}{s:Shared}(z:Str) (t:Tok):∀{us:List Value}{ys:List Str},StrsAre us ys->∀u∈us,SeqAt.EqAt A s u (.str z t) (isTx z u)
 | _,_,.nil,u,h=>by cases h
 | _,_,.cons y t' r,u,h=>by
  rcases List.mem_cons.mp h with rfl|h
  ·exact SeqAt.EqAt.str_str _ _ _ _
  ·exact zhM z t r u h
theorem zpA:MtR X "list.index" (fun x xs H Q=>∃(a:Addr) (ys:List Str) (z:Str),x=.ref a/\xs=[.str z]/\SqL X.K H a (ys.map V.str)/\z∈ys/\ys.length<=1000000/\Q (.int (ys.idxOf z:Nat)) H):=by
 intro pins s U H x xs v us Q I rx rxs h
 obtain ⟨a,ys,z,rfl,rfl,hq,hz,hl,q⟩:=h
 obtain rfl:v=Value.ref a:=rx
 cases rxs with
 | cons r1 r2 =>
  cases r2
  obtain ⟨t,rfl⟩:=r1
  obtain ⟨its,r,pl,_⟩:=I.list hq
  have sa:=vals_strs r
  obtain ⟨⟨cls,dd,data,sl⟩,ho,hc,n,hd⟩:=pl.isList
  simp only at hc hd
  subst hc hd
  have hlen:=zhL sa
  have hj:ys.idxOf z<ys.length:=List.idxOf_lt_length_iff.mpr hz
  refine call_meets PySem.F.slot_list_index ⟨_,ho,rfl⟩ PySem.F.entry_list_index (PySem.F.args_list_index_2 _ _)
   (SeqAt.list_indexAt a its.toArray n dd sl (.str z t) (isTx z) (ys.idxOf z) (by simpa [hlen] using hj) (by omega) ?_ ?_) ⟨ho,fun y hy=>zhM z t sa y (by simpa using hy),⟨.int (ys.idxOf z:Nat),H,I.tok _,⟨_,rfl⟩,q⟩⟩
  ·show isTx z its[ys.idxOf z]=true
   rw [zd7 z sa _ (by omega) hj]
   simpa using List.getElem_idxOf hj
  ·intro j hjs hlt
   show isTx z its[j]=false
   rw [zd7 z sa j (by simpa using hjs) (by omega)]
   exact List.not_of_lt_findIdx (p:=(·==z)) hlt
end
end L2
namespace Mi
open PySem L2 PySem.W PySem.Spec
section
variable {X:Cx}{Er:XK}
def zhN:PV->PV->Mo PV
 | .ref n,.str z,st=>ye st n fun xs=>match strsOf xs with
  | some zs=>if z∈zs/\zs.length<=1000000 then .ok (.int (zs.idxOf z:Nat)) st else .stuck
  | none=>.stuck
 | _,_,_=>.stuck
def zcD (fo fa:zd->Mo PV):zd->Mo PV:=fun env st=>(fo env st).bind fun o st1=>(recL o st1).bind fun o st1=>(fa env st1).bind fun y st2=>zhN o y st2
theorem zpB {K:Frag}{mg:Str->Option Value}{ρ:List Addr}{H:Hp}:∀{xs:List PV}{zs:List Str}{vs:List V},strsOf xs=some zs->Rs K mg ρ H xs vs->vs=zs.map V.str:=fun {xs zs vs} h r=>by
 have:=zhi h r
 rw [this]
 simp [kV,List.map_map,Function.comp_def]
theorem zpC {o e:Expr} {fo fa:zd->Mo PV} {apos cpos:Pos} (ho:ME X Er o fo) (he:ME X Er e fa) (hbase:attributeBase o "index" X.env (eval o X.env)=eval o X.env:=by rfl)
  (hfew:((backTo cpos (starEach [e] X.env)).all (fun x=>!x.1)&&(backToKw cpos (keywordEach [] X.env)).all (fun x=>x.1.isSome)&&decide ([e].length+([]:List Keyword).length+(if ([]:List Keyword).isEmpty then 0 else 1)<30))=true:=by rfl)
  (hline:(apos.endLine==cpos.line)=true:=by rfl) (hs:starEach [e] X.env=(false,eval e X.env)::starEach [] X.env:=by rfl) (hpl:(backTo cpos (starEach [] X.env)).any (·.1)=false:=by rfl):ME X Er (.Call (.Attribute o "index" apos) [e] [] cpos) (zcD fo fa) :=
 PE.weak (zds PySem.F.plainAttrs_list PySem.F.slot_list_index PySem.F.type_list_index zpA ho (zbT he zbS hs) hbase hfew hline hs hpl) fun U H Q ⟨env,st,ρ,re,rs,h⟩=>⟨env,st,ρ,re,rs,h.then fun ag H1 x st1 e1 s1 h1 v rv=>by
  obtain ⟨n,xs,rfl,hn,h1⟩:=zdR h1
  obtain ⟨a,vs,rfl,ha,k1,k2⟩:=R.refL s1 rv hn
  refine ⟨.inl ⟨rfl,vs,SqL.of k1⟩,env,st1,ag,re.ext e1,s1,h1.then fun ar H2 y st2 e2 s2 h2 w rw'=>?_⟩
  cases y with
  | str z =>
   cases rw'
   obtain ⟨xs2,hn2,h2⟩:=jf (show Out X.K X.mg ar H2 (ye st2 n fun xs=>match strsOf xs with
    | some zs=>if z∈zs/\zs.length<=1000000 then .ok (.int (zs.idxOf z:Nat)) st2 else .stuck
    | none=>.stuck) (gV X.K X.mg Q) Er from h2)
   obtain ⟨ws,q1,q2⟩:=s2.addr hn2 (e2.get ha)
   cases hz:strsOf xs2 with
   | none=>simp only [hz] at h2;exact False.elim h2
   | some zs =>
    simp only [hz] at h2
    obtain ⟨⟨c1,c2⟩,h2⟩:=Out.ifp h2
    have:=zpB hz q2
    subst this
    exact ⟨a,zs,z,rfl,rfl,SqL.of q1,c1,c2,Out.now (x:=PV.int (zs.idxOf z:Nat)) h2 s2 _ rfl⟩
  | _=>exact False.elim h2⟩
@[simp] theorem zpD {fo fa:zd->Mo PV}(env:zd) (st:Sto):zcD fo fa env st=(fo env st).bind fun o st1=>(recL o st1).bind fun o st1=>(fa env st1).bind fun y st2=>zhN o y st2:=(rfl)
end
section
variable {X:Cx}{K:Frag}{mg:Str->Option Value}
def j5 (neg:Bool):PV->PV->Mo PV:=fun x y st=>match y with
 | .ref n=>match st[n]? with
  | some (.fdi ks xs)=>match x with
   | .str z=>.ok (.bl (neg.xor ((ks.zip xs).lookup z).isSome)) st
   | _=>.stuck
  | _=>yx neg x y st
 | _=>yx neg x y st
theorem zpE {neg:Bool}:OpM K mg (zct K mg neg) (j5 neg):=by
 intro ρ H st x y v w Q E s rx ry h
 by_cases hy:∃n ks xs,y=.ref n/\st[n]?=some (.fdi ks xs)
 ·obtain ⟨n,ks,xs,rfl,e⟩:=hy
  simp only [j5,e] at h
  cases x with
  | str z =>
   obtain ⟨a,rfl,ha⟩:=ry
   obtain ⟨ob,vs,k1,k2,k3⟩:=s.addr e ha
   cases rx
   refine .inr (.inl ⟨a,(ks.zip vs).lookup z,rfl,.inl ⟨_,Sum.inr z,.inr ⟨ob,k1⟩,rfl,zav.symm⟩,?_⟩)
   have e:((ks.zip vs).lookup z).isSome=((ks.zip xs).lookup z).isSome:=by
    cases hq:(ks.zip xs).lookup z with
    | some q=>obtain ⟨v,hv,_⟩:=wg k2 hq;rw [hv];rfl
    | none=>exact congrArg Option.isSome (zpr k2.len k3 hq)
   rw [e]
   exact Out.now (x:=PV.bl _) h s _ rfl
  | _=>exact False.elim h
 ·refine zdX ρ H st x y v w Q E s rx ry ?_
  have:j5 neg x y st=yx neg x y st:=by
   unfold j5
   split
   ·rename_i n
    split
    ·rename_i ks xs e;exact absurd ⟨n,ks,xs,rfl,e⟩ hy
    ·rfl
   ·rfl
  rw [this] at h
  exact h
theorem zpF (hu:X.A.units+200<cLine):CmpOk X .NotIn (j5 true):=⟨_,zhd hu,zpE⟩
end
end Mi
namespace Mi
open PySem L2 PySem.W
section
variable {α:Type}{g g':zd->Mo Fl}{f fa fb fc:zd->Mo PV}{fs:zd->Mo (List PV)}{t ta tb:zd->Mo Bool}{e e1:zd}{st s1 s2 s3:Sto}{x y v:PV}{xs:List PV}{b:Bool}
theorem zA {X:Res Fl}(h:g e st=.ok (.nx e1) s1) (h':g' e1 s1=X):zp g g' e st=X:=by rw [yN,h,zJ,jE,h']
theorem yP (h:g e st=.ok (.rt v) s1):zp g g' e st=.ok (.rt v) s1:=by rw [yN,h,zJ,zoh]
theorem zU {i:Nat}(h:f e st=.ok v s1):zx i f e st=.ok (.nx (e.set i (some v))) s1:=by rw [za7,h,zJ]
theorem zd8 (h:f e st=.ok v s1):yR f e st=.ok (.nx e) s1:=by rw [zoi,h,zJ]
theorem ym (h:f e st=.ok v s1):zI f e st=.ok (.rt v) s1:=by rw [zoj,h,zJ]
theorem yX {X:Res Fl}(h:t e st=.ok true s1) (h':g e s1=X):zN t g g' e st=X:=by rw [za8,h,zJ,if_pos rfl,h']
theorem zcE {X:Res Fl}(h:t e st=.ok false s1) (h':g' e s1=X):zN t g g' e st=X:=by rw [za8,h,zJ,if_neg (by simp),h']
theorem yB (h:t e st=.ok false s1):zN t g zQ e st=.ok (.nx e) s1:=zcE h (zgY ..)
theorem zk {i:Nat}(h:e[i]?=some (some v)):zc i e st=.ok v st:=by rw [j0,h]
theorem zo {op:PV->PV->Mo PV}{X:Res PV}(h:fa e st=.ok x s1) (h':fb e s1=.ok y s2) (h2:op x y s2=X):zg op fa fb e st=X:=by rw [zck,h,zJ,h',zJ,h2]
theorem zC {m:List PV->Mo PV}{X:Res PV}(h:fs e st=.ok xs s1) (h2:m xs s1=X):zl m fs e st=X:=by rw [za6,h,zJ,h2]
theorem yz (h:f e st=.ok x s1) (h':fs e s1=.ok xs s2):ze f fs e st=.ok (x::xs) s2:=by rw [zat,h,zJ,h',zJ]
theorem zcF:zj e st=.ok [] st:=(rfl)
theorem ya (h:f e st=.ok x s1):ze f zj e st=.ok [x] s1:=yz h zcF
theorem zD (h:f e st=.ok x s1) (h':fa e s1=.ok y s2):ze f (ze fa zj) e st=.ok [x,y] s2:=yz h (ya h')
theorem yl (h:fs e st=.ok xs s1) (hl:xs.length<=1000000):yb fs e st=.ok (.tup xs) s1:=by rw [zoe,h,zJ,if_pos hl]
theorem wq (h:fs e st=.ok xs s1) (hl:xs.length<=1000000):ji fs e st=.ok (.ref s1.length) (s1++[.lst xs]):=by rw [zgR,h,zJ,if_pos hl]
theorem zT (h:f e st=.ok (.bl b) s1):mB f e st=.ok b s1:=by rw [zob,h,zJ,zgO]
theorem zaE (h:ta e st=.ok false s1):jd ta tb e st=.ok false s1:=by rw [zgP,h,zJ,if_neg (by simp)]
theorem j6 (h:ta e st=.ok true s1) (h':tb e s1=.ok b s2):jd ta tb e st=.ok b s2:=by rw [zgP,h,zJ,if_pos rfl,h']
theorem zpG (h:ta e st=.ok true s1):jN ta tb e st=.ok true s1:=by rw [zgQ,h,zJ,if_pos rfl]
theorem zhO (h:ta e st=.ok false s1) (h':tb e s1=.ok b s2):jN ta tb e st=.ok b s2:=by rw [zgQ,h,zJ,if_neg (by simp),h']
theorem zcG (h:ta e st=.ok b s1):je ta e st=.ok (!b) s1:=by rw [zoc,h,zJ]
theorem zcH {X:Res PV}(h:fa e st=.ok (.bl true) s1) (h':fb e s1=X):jY fa fb e st=X:=by rw [zod,h,zJ,zgO,zJ,if_pos rfl,h']
theorem jk {lo hi:Option Int}{fl fu:zd->Mo (Option Int)}{X:Res PV}(h:fa e st=.ok x s1) (hl:fl e s1=.ok lo s2) (hu:fu e s2=.ok hi s3) (h':y4 x lo hi s3=X):yo fa fl fu e st=X:=by rw [zgS,h,zJ,hl,zJ,hu,zJ,h']
theorem jm {i:Int}(h:f e st=.ok (.int i) s1):pSome f e st=.ok (some i) s1:=by rw [zgT,h,zJ,zgU]
theorem jn:pNone e st=.ok none st:=(rfl)
theorem zhP {op:PV->PV->Mo PV}{n:Nat}{ys:List PV}{X:Res PV}(h:fa e st=.ok (.ref n) s1) (hl:s1[n]?=some (.lst ys)) (h':fb e s1=.ok y s2) (h2:op (.ref n) y s2=X):ja op fa fb e st=X:=by
 rw [zol,h,zJ,zg2]
 simp only [ye,hl,zJ]
 rw [h',zJ,h2]
theorem jb (i j:Int):zP (.int i) (.int j) st=.ok (.int (i+j)) st:=(rfl)
theorem j7 (i j:Int):yD (.int i) (.int j) st=.ok (.int (i-j)) st:=(rfl)
theorem yY (i j:Int) (h:j≠0):zR (.int i) (.int j) st=.ok (.int (yc i j)) st:=by show (if _ then _ else _)=_;rw [if_pos (by simpa using h)]
theorem yZ (i j:Int) (h:j≠0) (h2:j.natAbs<2 ^ 200):yf (.int i) (.int j) st=.ok (.int (z0 i j)) st:=by
 show (if _ then _ else _)=_
 rw [if_pos]
 simp only [cDv,Bool.and_eq_true,decide_eq_true_eq]
 exact ⟨h,h2⟩
theorem zcI (i j:Int):jg (.int i) (.int j) st=.ok (.bl (decide (i<j))) st:=(rfl)
theorem zaF (i j:Int):wV (.int i) (.int j) st=.ok (.bl (decide (j<i))) st:=(rfl)
theorem zd9 (i j:Int):yh (.int i) (.int j) st=.ok (.bl (decide (i=j))) st:=by simp [Mi.plain,dep,eqP];rfl
theorem jo (i j:Str):yh (.str i) (.str j) st=.ok (.bl (decide (i=j))) st:=by simp [Mi.plain,dep,eqP];rfl
theorem zea (i j:Str):yV (.str i) (.str j) st=.ok (.bl (!decide (i=j))) st:=by simp [Mi.plain,dep,eqP];rfl
theorem zpH (i j:Int) (h:cMul i j=true):yG (.int i) (.int j) st=.ok (.int (i*j)) st:=by rw [zoH,if_pos h]
theorem yv {m:Nat}{n:Nat}{r:Sto}(hl:xs.length=m) (h:g (xs.map some++List.replicate (n-m) none) st=.ok (.rt v) r):zF m n g xs st=.ok v r:=by
 unfold zF
 rw [if_pos hl,h,zJ,zok]
end
end Mi
namespace Mi
open PySem L2 PySem.W PySem.Spec
def nst:Expr->Bool
 | .Starred _ _=>false
 | _=>true
theorem zpI {e:Expr}{es:List Expr}{env:Env}(h:nst e=true):St1 e es env:=by cases e<;>first|rfl|cases h
theorem zh {X:Cx}{Er:XK}{e:Expr}{es:List Expr}{fa:zd->Mo PV}{fs:zd->Mo (List PV)}(ha:ME X Er e fa) (hr:MA X Er es fs) (hs:nst e=true:=by rfl):MA X Er (e::es) (ze fa fs):=zgz ha hr (zpI hs)
end Mi
namespace FK14
open PySem L2 PySem.W Mi
def top (i:Nat):Stmt:=PySem.Challenge.pw_foreknown_k14_rows_and_records.main.body.getD i (.Pass ⟨0,0,0,0⟩)
abbrev zeb:Stmt:=top 40
abbrev zec:Stmt:=top 41
abbrev zed:Stmt:=top 42
abbrev zee:Stmt:=top 45
abbrev zef:Stmt:=top 44
abbrev zbi:Stmt:=top 43
abbrev zbj:Stmt:=top 46
abbrev zeg:Stmt:=top 50
abbrev zbk:Stmt:=top 47
abbrev zeh:Stmt:=top 48
abbrev zcJ:Stmt:=top 49
abbrev zei:Stmt:=inClass (top 37) 0
abbrev zej:Stmt:=top 38
abbrev zbl:Stmt:=top 52
abbrev zek:Stmt:=top 51
abbrev zel:Stmt:=top 10
abbrev zem:Stmt:=top 36
abbrev zen:Stmt:=top 25
abbrev zeo:Stmt:=top 26
abbrev zep:Stmt:=top 27
abbrev zeq:Stmt:=top 28
abbrev zer:Stmt:=top 29
abbrev zes:Stmt:=top 30
abbrev zet:Stmt:=top 31
abbrev zeu:Stmt:=top 32
abbrev zev:Stmt:=top 33
abbrev zew:Stmt:=top 34
abbrev zex:Stmt:=top 9
abbrev zey:Stmt:=top 11
abbrev zez:Stmt:=top 12
abbrev zeA:Stmt:=inClass (top 37) 1
abbrev zeB:Stmt:=top 54
abbrev zeC:Stmt:=top 56
abbrev zeD:Stmt:=top 55
abbrev zaG:Stmt:=top 57
abbrev zeE:Stmt:=top 53
abbrev w9:Stmt:=top 58
abbrev zcK:Stmt:=top 59
abbrev zeF:Stmt:=inClass (top 3) 0
abbrev zeG:Stmt:=inClass (top 4) 0
def insOf (c:Str):Bool:=decide (c = "Op")
def excOf (c:Str):Bool:=decide (c = "Fault")||decide (c = "NoOp")
def isT:IsT where
 isx c:=false
 sub c B :=  none
 subT c n :=  none
 tyC _ _:=none
def j8:List Str:=["front", "head", "rest", "many", "item", "put", "field", "set"]
def j9:List PV:=[.tup [.tup [.str "any", .str "row"],.fn "tell_front"],.tup [.tup [.str "row"],.fn "tell_head"],.tup [.tup [.str "row"],.fn "tell_rest"],.tup [.tup [.str "row"],.fn "tell_many"],.tup [.tup [.str "row", .str "number"],.fn "tell_item"],.tup [.tup [.str "row", .str "number", .str "any"],.fn "tell_put"],.tup [.tup [.str "record", .str "word"],.fn "tell_field"],.tup [.tup [.str "record", .str "word", .str "any"],.fn "tell_set"]]
abbrev zeH:Bool:=false
structure Txt (w:World) (K:Frag) (mg:Str->Option Value):Prop where
 f__law_cell:FnF K mg "_law_cell" zeb ["_law_script", "_law_k"]
 f__law_letters:FnF K mg "_law_letters" zec ["_law_cell_here", "_law_many"]
 f__law_leaf:FnF K mg "_law_leaf" zed ["_law_cell_here"]
 f__law_record:FnF K mg "_law_record" zee ["_law_keys_here", "_law_things"]
 f__law_keys:FnF K mg "_law_keys" zef ["_law_cell_here", "_law_many"]
 f__law_built:FnF K mg "_law_built" zbi ["_law_script", "_law_at", "_law_size_here"]
 f__law_held:FnF K mg "_law_held" zbj ["_law_script"]
 f__law_place:FnF K mg "_law_place" zeg ["_law_cell_here", "_law_many"]
 f__law_other:FnF K mg "_law_other" zbk ["_law_script"]
 f__law_small:FnF K mg "_law_small" zeh ["_law_script"]
 f__law_edge:FnF K mg "_law_edge" zcJ ["_law_script", "_law_total"]
 n_Op:NwF K mg "Op" "Op.__init__" zei ["self", "word"]
 f_op_of:FnF K mg "op_of" zej ["word"]
 f__law_size:FnF K mg "_law_size" zbl ["_law_held_here"]
 f__law_row_due:FnF K mg "_law_row_due" zek ["_law_word", "_law_held_here", "_law_value", "_law_at"]
 f_kind_of:FnF K mg "kind_of" zel ["value"]
 f_check_kinds:FnF K mg "check_kinds" zem ["kinds", "values"]
 f_tell_front:FnF K mg "tell_front" zen ["values"]
 f_filled:FnF K mg "filled" zeo ["row"]
 f_tell_head:FnF K mg "tell_head" zep ["values"]
 f_tell_rest:FnF K mg "tell_rest" zeq ["values"]
 f_tell_many:FnF K mg "tell_many" zer ["values"]
 f_place_in:FnF K mg "place_in" zes ["row", "number"]
 f_tell_item:FnF K mg "tell_item" zet ["values"]
 f_tell_put:FnF K mg "tell_put" zeu ["values"]
 f_tell_field:FnF K mg "tell_field" zev ["values"]
 f_tell_set:FnF K mg "tell_set" zew ["values"]
 f_things_within:FnF K mg "things_within" zex ["thing"]
 f_all_within:FnF K mg "all_within" zey ["thing"]
 f_parts:FnF K mg "parts" zez ["value"]
 m_Op_answer:MtF K mg "Op" "answer" "Op.answer" zeA ["self", "values"]
 f__law_asked:FnF K mg "_law_asked" zeB ["_law_op", "_law_values"]
 f__law_row_values:FnF K mg "_law_row_values" zeC ["_law_word", "_law_row", "_law_value", "_law_at"]
 f__law_alike:FnF K mg "_law_alike" zeD ["_law_found", "_law_due"]
 f__law_of_rows:FnF K mg "_law_of_rows" zaG ["_law_script", "_law_word"]
 f__law_field_due:FnF K mg "_law_field_due" zeE ["_law_word", "_law_keys_here", "_law_held_here", "_law_value", "_law_key"]
 f__law_of_records:FnF K mg "_law_of_records" w9 ["_law_script", "_law_word"]
 f_law:FnF K mg "law" zcK ["_law_script"]
 x_Fault:XnF K mg "Fault" "word" "Fault.__init__" zeF
 x_NoOp:XnF K mg "NoOp" "word" "NoOp.__init__" zeG
 b_bool:mg "bool" = none
 b_dict:mg "dict" = none
 b_int:mg "int" = none
 b_isinstance:mg "isinstance" = none
 b_len:mg "len" = none
 b_list:mg "list" = none
 b_max:mg "max" = none
 b_min:mg "min" = none
 b_range:mg "range" = none
 b_str:mg "str" = none
 b_sum:mg "sum" = none
 b_tuple:mg "tuple" = none
 b_zip:mg "zip" = none
 c_MOST_PARTS:∃t,mg "MOST_PARTS" = some (.int 60 t)
 d_many:FldF K mg "many" insOf excOf
 d_word:FldF K mg "word" insOf excOf
 is:IsF K mg isT
 kd_OPS:∀X:Cx,X.K=K->X.mg=mg->X.w=w->KdF X "OPS" j8 j9 zeH
section
variable {P:Program}{w:World}{K:Frag}{mg:Str->Option Value}{base:Heap}
theorem zpJ:FnScope ["self", "word"] ["self", "word"] (zB zeF):=⟨rfl,rfl,rfl,by decide +kernel,rfl,by decide +kernel,by decide +kernel⟩
theorem zbm (T:Txt w K mg):XOk P w K mg base "Fault" "word" := T.x_Fault.ok zpJ fun _ _ _ _ _ _ _ _ _=>zdo (zgu (pv 0) (pv 1) rfl)
theorem zpK:FnScope ["self", "word"] ["self", "word"] (zB zeG):=⟨rfl,rfl,rfl,by decide +kernel,rfl,by decide +kernel,by decide +kernel⟩
theorem zpL (T:Txt w K mg):XOk P w K mg base "NoOp" "word" := T.x_NoOp.ok zpK fun _ _ _ _ _ _ _ _ _=>zdo (zgu (pv 0) (pv 1) rfl)
theorem zcL:FnScope ["_law_script", "_law_k", "_law_mixed", "_law_cell_here"] ["_law_script", "_law_k"] (zB zeb):=⟨rfl,rfl,rfl,by decide +kernel,rfl,by decide +kernel,by decide +kernel⟩
def zhQ:zd->Mo Fl :=
  (zI (zg zR (zg yG (zc 2) (zg zP (zc 1) (mC (.int 11)))) (mC (.int 1000000007))))
def zhR:zd->Mo Fl :=
  zp (jH (yF (yo (zc 0) pNone (pSome (mC (.int 5))))) (gN 3)
  (zx 2 (zg zR (zg zP (zg yG (zc 2) (mC (.int 4001))) (zc 3)) (mC (.int 998244353))))) (zhQ)
def zhS:zd->Mo Fl :=
  zp (zx 2 (zg zP (zg yG (mC (.int 43)) (zc 1)) (mC (.int 19)))) (zhR)
def zeI:zd->Mo Fl :=
  zp (zN (mB (zg jg (zc 1) (zl zS (ze (zc 0) zj))))
  (zI (zg zq (zc 0) (zc 1)))
  zQ) (zhS)
def yt:List PV->Mo PV:=zF 2 4 (zeI)
theorem jh (T:Txt w K mg):FOk P w K mg base "_law_cell" 1 yt:=T.f__law_cell.ok (k:=0) zcL fun f cdv A outer s H E hr =>
  by
 refine zt ?_ ?_
 refine zV ?_ ?_ ?_
 refine yd wD ?_ ?_
 exact (zf 1)
 refine zX yy T.b_len yw ?_
 refine zh ?_ ?_
 exact (zf 0)
 exact zn
 refine zy ?_
 refine zL ?_
 refine zK ?_ ?_ ?_ ?_
 exact (zO (zw hr))
 exact (zf 0)
 exact (zf 1)
 exact fun _ _=>rfl
 exact zY
 refine zt ?_ ?_
 refine zM 2 ?_ zcL.nd
 refine zu yg ?_ ?_
 refine zu j4 ?_ ?_
 exact zm
 exact (zf 1)
 exact zm
 refine zt ?_ ?_
 refine wF (jW rfl rfl) rfl ?_ ?_ ?_
 refine jr ?_
 refine yK ?_ ?_ ?_
 exact (zf 0)
 exact yI
 refine yJ ?_
 exact zm
 exact (wE 3 zcL.nd)
 refine zy ?_
 refine zM 2 ?_ zcL.nd
 refine zu yi ?_ ?_
 refine zu yg ?_ ?_
 refine zu j4 ?_ ?_
 exact (zf 2)
 exact zm
 exact (zf 3)
 exact zm
 refine zy ?_
 refine zL ?_
 refine zu yi ?_ ?_
 refine zu j4 ?_ ?_
 exact (zf 2)
 refine zu yg ?_ ?_
 exact (zf 1)
 exact zm
 exact zm
theorem zaH:FnScope ["_law_cell_here", "_law_many", "_law_word", "_law_rest", "_law_k"] ["_law_cell_here", "_law_many"] (zB zec):=⟨rfl,rfl,rfl,by decide +kernel,rfl,by decide +kernel,by decide +kernel⟩
def zhT:zd->Mo Fl :=
  (zI (zc 2))
def zhU:zd->Mo Fl :=
  zp (jH (iRng1 (ze (zc 1) zj)) (gN 4)
  (zp (zx 2 (zg zP (zc 2) (zg zq (mC (.str "rstlneadiouchmgbpkfwyvxzjq")) (zg zR (zc 3) (mC (.int 26))))))
  (zx 3 (zg zR (zg yG (zc 3) (mC (.int 16807))) (mC (.int 2147483647)))))) (zhT)
def zhV:zd->Mo Fl :=
  zp (zx 3 (zg zR (zc 0) (mC (.int 2147483647)))) (zhU)
def zhW:zd->Mo Fl :=
  zp (zx 2 (mC (.str ""))) (zhV)
def zaa:List PV->Mo PV:=zF 2 5 (zhW)
theorem zhX (T:Txt w K mg):FOk P w K mg base "_law_letters" 1 zaa:=T.f__law_letters.ok (k:=0) zaH fun f cdv A outer s H E hr =>
  by
 refine zt ?_ ?_
 refine zM 2 ?_ zaH.nd
 exact zW
 refine zt ?_ ?_
 refine zM 3 ?_ zaH.nd
 refine zu yi ?_ ?_
 exact (zf 0)
 exact zm
 refine zt ?_ ?_
 refine wF (jW rfl rfl) rfl ?_ ?_ ?_
 refine wj T.b_range ?_
 refine zh ?_ ?_
 exact (zf 1)
 exact zn
 exact (wE 4 zaH.nd)
 refine zt ?_ ?_
 refine zM 2 ?_ zaH.nd
 refine zu yg ?_ ?_
 exact (zf 2)
 refine zK ?_ ?_ ?_ ?_
 exact (zO (zw hr))
 exact zW
 refine zu yi ?_ ?_
 exact (zf 3)
 exact zm
 exact fun _ _=>rfl
 refine zy ?_
 refine zM 3 ?_ zaH.nd
 refine zu yi ?_ ?_
 refine zu j4 ?_ ?_
 exact (zf 3)
 exact zm
 exact zm
 refine zy ?_
 refine zL ?_
 exact (zf 2)
theorem zhY:FnScope ["_law_cell_here", "_law_far"] ["_law_cell_here"] (zB zed):=⟨rfl,rfl,rfl,by decide +kernel,rfl,by decide +kernel,by decide +kernel⟩
def zhZ:zd->Mo Fl :=
  (zI (zg yD (zg zR (zg yf (zc 0) (mC (.int 3))) (mC (.int 9))) (mC (.int 2))))
def zeJ:zd->Mo Fl :=
  zp (zN (mB (zg yh (zg zR (zc 0) (mC (.int 3))) (mC (.int 1))))
  (zI (zg yD (zg zR (zg yf (zc 0) (mC (.int 3))) (zg zP (zg yG (mC (.int 2)) (zc 1)) (mC (.int 1)))) (zc 1)))
  zQ) (zhZ)
def zcM:zd->Mo Fl :=
  zp (zN (mB (zg yh (zg zR (zc 0) (mC (.int 3))) (mC (.int 0))))
  (zI (zl zaa (ze (zg yf (zc 0) (mC (.int 24))) (ze (zg zP (mC (.int 1)) (zg zR (zg yf (zc 0) (mC (.int 3))) (mC (.int 8)))) zj))))
  zQ) (zeJ)
def zcN:zd->Mo Fl :=
  zp (zx 1 (zg yD (zg za0 (mC (.int 10)) (mC (.int 18))) (mC (.int 1)))) (zcM)
def ju:List PV->Mo PV:=zF 1 2 (zcN)
theorem zcO (T:Txt w K mg):FOk P w K mg base "_law_leaf" 2 ju:=T.f__law_leaf.ok (k:=1) zhY fun f cdv A outer s H E hr =>
  by
 refine zt ?_ ?_
 refine zM 1 ?_ zhY.nd
 refine zu jq ?_ ?_
 refine zu zdF ?_ ?_
 exact zm
 exact zm
 exact zm
 refine zt ?_ ?_
 refine zV ?_ ?_ ?_
 refine yd (yH (zw hr)) ?_ ?_
 refine zu yi ?_ ?_
 exact (zf 0)
 exact zm
 exact zm
 refine zy ?_
 refine zL ?_
 refine zH (zhX T) (hr.mono (by decide)) zE ?_
 refine zh ?_ ?_
 refine zu yE ?_ ?_
 exact (zf 0)
 exact zm
 refine zh ?_ ?_
 refine zu yg ?_ ?_
 exact zm
 refine zu yi ?_ ?_
 refine zu yE ?_ ?_
 exact (zf 0)
 exact zm
 exact zm
 exact zn
 exact zY
 refine zt ?_ ?_
 refine zV ?_ ?_ ?_
 refine yd (yH (zw hr)) ?_ ?_
 refine zu yi ?_ ?_
 exact (zf 0)
 exact zm
 exact zm
 refine zy ?_
 refine zL ?_
 refine zu jq ?_ ?_
 refine zu yi ?_ ?_
 refine zu yE ?_ ?_
 exact (zf 0)
 exact zm
 refine zu yg ?_ ?_
 refine zu j4 ?_ ?_
 exact zm
 exact (zf 1)
 exact zm
 exact (zf 1)
 exact zY
 refine zy ?_
 refine zL ?_
 refine zu jq ?_ ?_
 refine zu yi ?_ ?_
 refine zu yE ?_ ?_
 exact (zf 0)
 exact zm
 exact zm
 exact zm
theorem zeK:FnScope ["_law_keys_here", "_law_things", "_law_record_here", "_law_k"] ["_law_keys_here", "_law_things"] (zB zee):=⟨rfl,rfl,rfl,by decide +kernel,rfl,by decide +kernel,by decide +kernel⟩
def zpM:zd->Mo Fl :=
  (zI (zc 2))
def zh0:zd->Mo Fl :=
  zp (jH (iRng1 (ze (zl zS (ze (zc 1) zj)) zj)) (gN 3)
  (wo (zc 2) (zg zq (zc 0) (zc 3)) (zg zq (zc 1) (zc 3)))) (zpM)
def zeL:zd->Mo Fl :=
  zp (zx 2 zcq) (zh0)
def wI:List PV->Mo PV:=zF 2 4 (zeL)
theorem zcP (T:Txt w K mg):FOk P w K mg base "_law_record" 1 wI:=T.f__law_record.ok (k:=0) zeK fun f cdv A outer s H E hr =>
  by
 refine zt ?_ ?_
 refine zM 2 ?_ zeK.nd
 exact zha
 refine zt ?_ ?_
 refine wF (jW rfl rfl) rfl ?_ ?_ ?_
 refine wj T.b_range ?_
 refine zh ?_ ?_
 refine zX yy T.b_len yw ?_
 refine zh ?_ ?_
 exact (zf 1)
 exact zn
 exact zn
 exact (wE 3 zeK.nd)
 refine zy ?_
 refine zcr ?_ ?_ ?_ ?_ ?_
 exact (zw hr)
 exact (zf 2)
 refine zK ?_ ?_ ?_ ?_
 exact (zO (zw hr))
 exact (zf 0)
 exact (zf 3)
 exact fun _ _=>rfl
 refine zK ?_ ?_ ?_ ?_
 exact (zO (zw hr))
 exact (zf 1)
 exact (zf 3)
 exact fun _ _=>rfl
 rfl
 refine zy ?_
 refine zL ?_
 exact (zf 2)
theorem zaI:FnScope ["_law_cell_here", "_law_many", "_law_word", "_law_at", "_law_keys_here", "_law_k", "_law_letter"] ["_law_cell_here", "_law_many"] (zB zef):=⟨rfl,rfl,rfl,by decide +kernel,rfl,by decide +kernel,by decide +kernel⟩
def zpN:zd->Mo Fl :=
  (zI (zc 4))
def zh1:zd->Mo Fl :=
  zp (jH (iRng1 (ze (zc 1) zj)) (gN 5)
  (zp (zx 6 (zg zq (mC (.str "abcdefghijklmnopqrstuvwxyz")) (zg zR (zg zP (zg yf (zc 0) (mC (.int 11))) (zg yG (mC (.int 3)) (zc 5))) (mC (.int 26)))))
  (yR (ja yS (zc 4) (zg zP (zg zP (yo (zc 2) pNone (pSome (zc 3))) (zc 6)) (yo (zc 2) (pSome (zc 3)) pNone)))))) (zpN)
def zh2:zd->Mo Fl :=
  zp (zx 4 (ji zj)) (zh1)
def zh3:zd->Mo Fl :=
  zp (zx 3 (zg zR (zg yf (zc 0) (mC (.int 8))) (zg zP (zl zS (ze (zc 2) zj)) (mC (.int 1))))) (zh2)
def zeM:zd->Mo Fl :=
  zp (zx 2 (zl zaa (ze (zg yf (zc 0) (mC (.int 40))) (ze (zg zR (zc 0) (mC (.int 8))) zj)))) (zh3)
def jS:List PV->Mo PV:=zF 2 7 (zeM)
theorem zcQ (T:Txt w K mg):FOk P w K mg base "_law_keys" 2 jS:=T.f__law_keys.ok (k:=1) zaI fun f cdv A outer s H E hr =>
  by
 refine zt ?_ ?_
 refine zM 2 ?_ zaI.nd
 refine zH (zhX T) (hr.mono (by decide)) zE ?_
 refine zh ?_ ?_
 refine zu yE ?_ ?_
 exact (zf 0)
 exact zm
 refine zh ?_ ?_
 refine zu yi ?_ ?_
 exact (zf 0)
 exact zm
 exact zn
 refine zt ?_ ?_
 refine zM 3 ?_ zaI.nd
 refine zu yi ?_ ?_
 refine zu yE ?_ ?_
 exact (zf 0)
 exact zm
 refine zu yg ?_ ?_
 refine zX yy T.b_len yw ?_
 refine zh ?_ ?_
 exact (zf 2)
 exact zn
 exact zm
 refine zt ?_ ?_
 refine zM 4 ?_ zaI.nd
 refine jO ?_
 exact zn
 refine zt ?_ ?_
 refine wF (jW rfl rfl) rfl ?_ ?_ ?_
 refine wj T.b_range ?_
 refine zh ?_ ?_
 exact (zf 1)
 exact zn
 exact (wE 5 zaI.nd)
 refine zt ?_ ?_
 refine zM 6 ?_ zaI.nd
 refine zK ?_ ?_ ?_ ?_
 exact (zO (zw hr))
 exact zW
 refine zu yi ?_ ?_
 refine zu yg ?_ ?_
 refine zu yE ?_ ?_
 exact (zf 0)
 exact zm
 refine zu j4 ?_ ?_
 exact zm
 exact (zf 5)
 exact zm
 exact fun _ _=>rfl
 refine zy ?_
 refine w4 ?_
 refine zci ?_ ?_
 exact (zf 4)
 refine zu yg ?_ ?_
 refine zu yg ?_ ?_
 refine yK ?_ ?_ ?_
 exact (zf 2)
 exact yI
 refine yJ ?_
 exact (zf 3)
 exact (zf 6)
 refine yK ?_ ?_ ?_
 exact (zf 2)
 refine yJ ?_
 exact (zf 3)
 exact yI
 refine zy ?_
 refine zL ?_
 exact (zf 4)
theorem wt:FnScope ["_law_script", "_law_at", "_law_size_here", "_law_stack", "_law_k", "_law_cell_here", "_law_many", "_law_held_here", "_law_count", "_law_things"] ["_law_script", "_law_at", "_law_size_here"] (zB zbi):=⟨rfl,rfl,rfl,by decide +kernel,rfl,by decide +kernel,by decide +kernel⟩
def zpO:zd->Mo Fl :=
  (zI (zc 3))
def zpP:zd->Mo Fl :=
  zp (jH (iRng1 (ze (zc 2) zj)) (gN 4)
  (zp (zx 5 (zg zP (zl yt (ze (zc 0) (ze (zg zP (zc 1) (zg zR (zc 4) (mC (.int 9)))) zj))) (zg yG (zg yG (mC (.int 7907)) (zc 4)) (zg yf (zc 4) (mC (.int 9))))))
  (zp (zx 6 (zl zay (ze (zg zR (zg yf (zc 5) (mC (.int 4))) (mC (.int 4))) (ze (zl zS (ze (zc 3) zj)) zj))))
  (zp (zx 7 (yo (zc 3) (pSome (zg yD (zl zS (ze (zc 3) zj)) (zc 6))) pNone))
  (zN (mB (zg jg (zg zR (zc 5) (mC (.int 4))) (mC (.int 2))))
  (yR (ja yS (zc 3) (yb (ze (zl ju (ze (zg yf (zc 5) (mC (.int 4))) zj)) (ze (mC (.int 1)) zj)))))
  (zp (zx 3 (yo (zc 3) pNone (pSome (zg yD (zl zS (ze (zc 3) zj)) (zc 6)))))
  (zp (zx 8 (zg zP (mC (.int 1)) (zl jI (ze (yr (yF (zc 7)) (zg zq (zc 0) (mC (.int 1)))) zj))))
  (zp (zx 9 (yr (yF (zc 7)) (zg zq (zc 0) (mC (.int 0)))))
  (zN (mB (zg yh (zg zR (zc 5) (mC (.int 4))) (mC (.int 2))))
  (yR (ja yS (zc 3) (yb (ze (zl jP (ze (zc 9) zj)) (ze (zc 8) zj)))))
  (yR (ja yS (zc 3) (yb (ze (zl wI (ze (zl jS (ze (zg yf (zc 5) (mC (.int 16))) (ze (zc 6) zj))) (ze (zc 9) zj))) (ze (zc 8) zj)))))))))))))) (zpO)
def zpQ:zd->Mo Fl :=
  zp (zx 3 (ji zj)) (zpP)
def zcR:List PV->Mo PV:=zF 3 10 (zpQ)
theorem zh4 (T:Txt w K mg):FOk P w K mg base "_law_built" 3 zcR:=T.f__law_built.ok (k:=2) wt fun f cdv A outer s H E hr =>
  by
 refine zt ?_ ?_
 refine zM 3 ?_ wt.nd
 refine jO ?_
 exact zn
 refine zt ?_ ?_
 refine wF (jW rfl rfl) rfl ?_ ?_ ?_
 refine wj T.b_range ?_
 refine zh ?_ ?_
 exact (zf 2)
 exact zn
 exact (wE 4 wt.nd)
 refine zt ?_ ?_
 refine zM 5 ?_ wt.nd
 refine zu yg ?_ ?_
 refine zH (jh T) (hr.mono (by decide)) zE ?_
 refine zh ?_ ?_
 exact (zf 0)
 refine zh ?_ ?_
 refine zu yg ?_ ?_
 exact (zf 1)
 refine zu yi ?_ ?_
 exact (zf 4)
 exact zm
 exact zn
 refine zu j4 ?_ ?_
 refine zu j4 ?_ ?_
 exact zm
 exact (zf 4)
 refine zu yE ?_ ?_
 exact (zf 4)
 exact zm
 refine zt ?_ ?_
 refine zM 6 ?_ wt.nd
 refine zX (zoL rfl) T.b_min zoN ?_
 refine zh ?_ ?_
 refine zu yi ?_ ?_
 refine zu yE ?_ ?_
 exact (zf 5)
 exact zm
 exact zm
 refine zh ?_ ?_
 refine zX yy T.b_len yw ?_
 refine zh ?_ ?_
 exact (zf 3)
 exact zn
 exact zn
 refine zt ?_ ?_
 refine zM 7 ?_ wt.nd
 refine yK ?_ ?_ ?_
 exact (zf 3)
 refine yJ ?_
 refine zu jq ?_ ?_
 refine zX yy T.b_len yw ?_
 refine zh ?_ ?_
 exact (zf 3)
 exact zn
 exact (zf 6)
 exact yI
 refine zy ?_
 refine zV ?_ ?_ ?_
 refine yd wD ?_ ?_
 refine zu yi ?_ ?_
 exact (zf 5)
 exact zm
 exact zm
 refine zy ?_
 refine w4 ?_
 refine zci ?_ ?_
 exact (zf 3)
 refine yn ?_
 refine zh ?_ ?_
 refine zH (zcO T) (hr.mono (by decide)) zE ?_
 refine zh ?_ ?_
 refine zu yE ?_ ?_
 exact (zf 5)
 exact zm
 exact zn
 refine zh ?_ ?_
 exact zm
 exact zn
 refine zt ?_ ?_
 refine zM 3 ?_ wt.nd
 refine yK ?_ ?_ ?_
 exact (zf 3)
 exact yI
 refine yJ ?_
 refine zu jq ?_ ?_
 refine zX yy T.b_len yw ?_
 refine zh ?_ ?_
 exact (zf 3)
 exact zn
 exact (zf 6)
 refine zt ?_ ?_
 refine zM 8 ?_ wt.nd
 refine zu yg ?_ ?_
 exact zm
 refine zX (zaw rfl) T.b_sum zax ?_
 refine zh ?_ ?_
 refine js (N:=["_law_script", "_law_at", "_law_size_here", "_law_stack", "_law_k", "_law_cell_here", "_law_many", "_law_held_here", "_law_count", "_law_things"]) rfl (by exact ⟨rfl,by decide +kernel,by decide +kernel,rfl,by show ∀y:Str×NameKind,y∈_->y.2=NameKind.free->List.lookup y.1 (zB zbi).names=some NameKind.cell;decide +kernel⟩) rfl (by decide +kernel) ?_ ?_
 refine jr ?_
 exact (zf 7)
 intro _ _ _ _ _
 refine zK ?_ ?_ ?_ ?_
 exact (zO (zw hr))
 exact (zf 0)
 exact zm
 exact fun _ _=>rfl
 exact zn
 refine zt ?_ ?_
 refine zpc 9 (N:=["_law_script", "_law_at", "_law_size_here", "_law_stack", "_law_k", "_law_cell_here", "_law_many", "_law_held_here", "_law_count", "_law_things"]) rfl (by exact ⟨rfl,by decide +kernel,by decide +kernel,rfl,by show ∀y:Str×NameKind,y∈_->y.2=NameKind.free->List.lookup y.1 (zB zbi).names=some NameKind.cell;decide +kernel⟩) rfl (by decide +kernel) ?_ ?_ wt.nd rfl (by first|exact Or.inl rfl|exact Or.inr rfl) (by first|exact .inl rfl|exact .inr rfl|assumption) (by rfl)
 refine jr ?_
 exact (zf 7)
 intro _ _ _ _ _
 refine zK ?_ ?_ ?_ ?_
 exact (zO (zw hr))
 exact (zf 0)
 exact zm
 exact fun _ _=>rfl
 refine zy ?_
 refine zV ?_ ?_ ?_
 refine yd (yH (zw hr)) ?_ ?_
 refine zu yi ?_ ?_
 exact (zf 5)
 exact zm
 exact zm
 refine zy ?_
 refine w4 ?_
 refine zci ?_ ?_
 exact (zf 3)
 refine yn ?_
 refine zh ?_ ?_
 refine jZ wZ T.b_tuple jR ?_
 refine zh ?_ ?_
 exact (zf 9)
 exact zn
 refine zh ?_ ?_
 exact (zf 8)
 exact zn
 refine zy ?_
 refine w4 ?_
 refine zci ?_ ?_
 exact (zf 3)
 refine yn ?_
 refine zh ?_ ?_
 refine zH (zcP T) (hr.mono (by decide)) zE ?_
 refine zh ?_ ?_
 refine zH (zcQ T) (hr.mono (by decide)) zE ?_
 refine zh ?_ ?_
 refine zu yE ?_ ?_
 exact (zf 5)
 exact zm
 refine zh ?_ ?_
 exact (zf 6)
 exact zn
 refine zh ?_ ?_
 exact (zf 9)
 exact zn
 refine zh ?_ ?_
 exact (zf 8)
 exact zn
 refine zy ?_
 refine zL ?_
 exact (zf 3)
theorem zab:FnScope ["_law_script", "_law_cell_here", "_law_stack", "_law_many", "_law_filler", "_law_at"] ["_law_script"] (zB zbj):=⟨rfl,rfl,rfl,by decide +kernel,rfl,by decide +kernel,by decide +kernel⟩
def zpR:zd->Mo Fl :=
  (zI (zg zP (zg zP (yo (zc 2) pNone (pSome (zc 5))) (ji (ze (zc 4) zj))) (yo (zc 2) (pSome (zc 5)) pNone)))
def zpS:zd->Mo Fl :=
  zp (zx 5 (zg zR (zg yf (zc 1) (mC (.int 147))) (zg zP (zl zS (ze (zc 2) zj)) (mC (.int 1))))) (zpR)
def zpT:zd->Mo Fl :=
  zp (zx 4 (yb (ze (zl jP (ze (yr (iRng1 (ze (zg yD (zc 3) (mC (.int 1))) zj)) (zl ju (ze (zg zP (zc 2) (zg yG (mC (.int 13)) (zc 0))) zj))) zj)) (ze (zc 3) zj)))) (zpS)
def zpU:zd->Mo Fl :=
  zp (zx 3 (zg yD (zg zP (mC (.int 53)) (zg zR (zg yf (zc 1) (mC (.int 21))) (mC (.int 7)))) (zl jI (ze (yr (yF (zc 2)) (zg zq (zc 0) (mC (.int 1)))) zj)))) (zpT)
def zpV:zd->Mo Fl :=
  zp (zx 2 (yo (zc 2) pNone (pSome (mC (.int 5))))) (zpU)
def zh5:zd->Mo Fl :=
  zp (zN (mB (zg yV (zg zR (zc 1) (mC (.int 3))) (mC (.int 1))))
  (zI (zc 2))
  zQ) (zpV)
def zpW:zd->Mo Fl :=
  zp (zx 2 (zl zcR (ze (zc 0) (ze (mC (.int 5)) (ze (zg zR (zg yf (zc 1) (mC (.int 3))) (mC (.int 7))) zj))))) (zh5)
def zpX:zd->Mo Fl :=
  zp (zx 1 (zl yt (ze (zc 0) (ze (mC (.int 1)) zj)))) (zpW)
def wJ:List PV->Mo PV:=zF 1 6 (zpX)
theorem zcS (T:Txt w K mg):FOk P w K mg base "_law_held" 4 wJ:=T.f__law_held.ok (k:=3) zab fun f cdv A outer s H E hr =>
  by
 refine zt ?_ ?_
 refine zM 1 ?_ zab.nd
 refine zH (jh T) (hr.mono (by decide)) zE ?_
 refine zh ?_ ?_
 exact (zf 0)
 refine zh ?_ ?_
 exact zm
 exact zn
 refine zt ?_ ?_
 refine zM 2 ?_ zab.nd
 refine zH (zh4 T) (hr.mono (by decide)) zE ?_
 refine zh ?_ ?_
 exact (zf 0)
 refine zh ?_ ?_
 exact zm
 refine zh ?_ ?_
 refine zu yi ?_ ?_
 refine zu yE ?_ ?_
 exact (zf 1)
 exact zm
 exact zm
 exact zn
 refine zt ?_ ?_
 refine zV ?_ ?_ ?_
 refine yd (wX (zw hr)) ?_ ?_
 refine zu yi ?_ ?_
 exact (zf 1)
 exact zm
 exact zm
 refine zy ?_
 refine zL ?_
 exact (zf 2)
 exact zY
 refine zt ?_ ?_
 refine zM 2 ?_ zab.nd
 refine yK ?_ ?_ ?_
 exact (zf 2)
 exact yI
 refine yJ ?_
 exact zm
 refine zt ?_ ?_
 refine zM 3 ?_ zab.nd
 refine zu jq ?_ ?_
 refine zu yg ?_ ?_
 exact zm
 refine zu yi ?_ ?_
 refine zu yE ?_ ?_
 exact (zf 1)
 exact zm
 exact zm
 refine zX (zaw rfl) T.b_sum zax ?_
 refine zh ?_ ?_
 refine js (N:=["_law_script", "_law_cell_here", "_law_stack", "_law_many", "_law_filler", "_law_at"]) rfl (by exact ⟨rfl,by decide +kernel,by decide +kernel,rfl,by show ∀y:Str×NameKind,y∈_->y.2=NameKind.free->List.lookup y.1 (zB zbj).names=some NameKind.cell;decide +kernel⟩) rfl (by decide +kernel) ?_ ?_
 refine jr ?_
 exact (zf 2)
 intro _ _ _ _ _
 refine zK ?_ ?_ ?_ ?_
 exact (zO (zw hr))
 exact (zf 0)
 exact zm
 exact fun _ _=>rfl
 exact zn
 refine zt ?_ ?_
 refine zM 4 ?_ zab.nd
 refine yn ?_
 refine zh ?_ ?_
 refine jZ wZ T.b_tuple jR ?_
 refine zh ?_ ?_
 refine js (N:=["_law_script", "_law_cell_here", "_law_stack", "_law_many", "_law_filler", "_law_at"]) rfl (by exact ⟨rfl,by decide +kernel,by decide +kernel,rfl,by show ∀y:Str×NameKind,y∈_->y.2=NameKind.free->List.lookup y.1 (zB zbj).names=some NameKind.cell;decide +kernel⟩) rfl (by decide +kernel) ?_ ?_
 refine wj T.b_range ?_
 refine zh ?_ ?_
 refine zu jq ?_ ?_
 exact (zf 3)
 exact zm
 exact zn
 intro _ _ _ _ _
 refine zH (zcO T) (hr.mono (by decide)) zhg ?_
 refine zh ?_ ?_
 refine zu yg ?_ ?_
 exact (zf 2)
 refine zu j4 ?_ ?_
 exact zm
 exact (zf 0)
 exact zn
 exact zn
 refine zh ?_ ?_
 exact (zf 3)
 exact zn
 refine zt ?_ ?_
 refine zM 5 ?_ zab.nd
 refine zu yi ?_ ?_
 refine zu yE ?_ ?_
 exact (zf 1)
 exact zm
 refine zu yg ?_ ?_
 refine zX yy T.b_len yw ?_
 refine zh ?_ ?_
 exact (zf 2)
 exact zn
 exact zm
 refine zy ?_
 refine zL ?_
 refine zu yg ?_ ?_
 refine zu yg ?_ ?_
 refine yK ?_ ?_ ?_
 exact (zf 2)
 exact yI
 refine yJ ?_
 exact (zf 5)
 refine jO ?_
 refine zh ?_ ?_
 exact (zf 4)
 exact zn
 refine yK ?_ ?_ ?_
 exact (zf 2)
 refine yJ ?_
 exact (zf 5)
 exact yI
theorem zpY:FnScope ["_law_cell_here", "_law_many"] ["_law_cell_here", "_law_many"] (zB zeg):=⟨rfl,rfl,rfl,by decide +kernel,rfl,by decide +kernel,by decide +kernel⟩
def zpZ:zd->Mo Fl :=
  (zI (zg zR (zg yf (zc 0) (mC (.int 4))) (zl zdZ (ze (mC (.int 1)) (ze (zc 1) zj)))))
def zp0:zd->Mo Fl :=
  zp (zN (mB (zg yh (zg zR (zc 0) (mC (.int 4))) (mC (.int 0))))
  (zI (zg zq (ji (ze (jc zgC (mC (.int 1))) (ze (zc 1) (ze (zg yD (mC (.int 0)) (zc 1)) (ze (zg yD (zg yD (mC (.int 0)) (mC (.int 1))) (zg zR (zg yf (zc 0) (mC (.int 16))) (zg za0 (mC (.int 10)) (mC (.int 17))))) (ze (zg zP (zc 1) (zg zR (zg yf (zc 0) (mC (.int 16))) (zg za0 (mC (.int 10)) (mC (.int 17))))) zj)))))) (zg zR (zg yf (zc 0) (mC (.int 4))) (mC (.int 5)))))
  zQ) (zpZ)
def zeN:List PV->Mo PV:=zF 2 2 (zp0)
theorem zp1 (T:Txt w K mg):FOk P w K mg base "_law_place" 1 zeN:=T.f__law_place.ok (k:=0) zpY fun f cdv A outer s H E hr =>
  by
 refine zt ?_ ?_
 refine zV ?_ ?_ ?_
 refine yd (yH (zw hr)) ?_ ?_
 refine zu yi ?_ ?_
 exact (zf 0)
 exact zm
 exact zm
 refine zy ?_
 refine zL ?_
 refine zK ?_ ?_ ?_ ?_
 exact (zO (zw hr))
 refine jO ?_
 refine zh ?_ ?_
 refine znb znj ?_
 exact zm
 refine zh ?_ ?_
 exact (zf 1)
 refine zh ?_ ?_
 refine zu jq ?_ ?_
 exact zm
 exact (zf 1)
 refine zh ?_ ?_
 refine zu jq ?_ ?_
 refine zu jq ?_ ?_
 exact zm
 exact zm
 refine zu yi ?_ ?_
 refine zu yE ?_ ?_
 exact (zf 0)
 exact zm
 refine zu zdF ?_ ?_
 exact zm
 exact zm
 refine zh ?_ ?_
 refine zu yg ?_ ?_
 exact (zf 1)
 refine zu yi ?_ ?_
 refine zu yE ?_ ?_
 exact (zf 0)
 exact zm
 refine zu zdF ?_ ?_
 exact zm
 exact zm
 exact zn
 refine zu yi ?_ ?_
 refine zu yE ?_ ?_
 exact (zf 0)
 exact zm
 exact zm
 exact fun _ _=>rfl
 exact zY
 refine zy ?_
 refine zL ?_
 refine zu yi ?_ ?_
 refine zu yE ?_ ?_
 exact (zf 0)
 exact zm
 refine zX (zoM rfl) T.b_max zoO ?_
 refine zh ?_ ?_
 exact zm
 refine zh ?_ ?_
 exact (zf 1)
 exact zn
theorem zcT:FnScope ["_law_script", "_law_size_here", "_law_stack"] ["_law_script"] (zB zbk):=⟨rfl,rfl,rfl,by decide +kernel,rfl,by decide +kernel,by decide +kernel⟩
def zp2:zd->Mo Fl :=
  (zI (yb (ze (zl jP (ze (yr (yF (zc 2)) (zg zq (zc 0) (mC (.int 0)))) zj)) (ze (zg zP (mC (.int 1)) (zl jI (ze (yr (yF (zc 2)) (zg zq (zc 0) (mC (.int 1)))) zj))) zj))))
def zp3:zd->Mo Fl :=
  zp (zx 2 (zl zcR (ze (zc 0) (ze (mC (.int 14)) (ze (zc 1) zj))))) (zp2)
def zp4:zd->Mo Fl :=
  zp (zN (mB (zg yh (zg zR (zl yt (ze (zc 0) (ze (mC (.int 2)) zj))) (mC (.int 4))) (mC (.int 1))))
  (zx 1 (zg zR (zg yf (zl yt (ze (zc 0) (ze (mC (.int 2)) zj))) (mC (.int 4))) (mC (.int 60))))
  zQ) (zp3)
def zp5:zd->Mo Fl :=
  zp (zx 1 (zg zR (zg yf (zl yt (ze (zc 0) (ze (mC (.int 2)) zj))) (mC (.int 4))) (mC (.int 7)))) (zp4)
def zeO:List PV->Mo PV:=zF 1 3 (zp5)
theorem zp6 (T:Txt w K mg):FOk P w K mg base "_law_other" 4 zeO:=T.f__law_other.ok (k:=3) zcT fun f cdv A outer s H E hr =>
  by
 refine zt ?_ ?_
 refine zM 1 ?_ zcT.nd
 refine zu yi ?_ ?_
 refine zu yE ?_ ?_
 refine zH (jh T) (hr.mono (by decide)) zE ?_
 refine zh ?_ ?_
 exact (zf 0)
 refine zh ?_ ?_
 exact zm
 exact zn
 exact zm
 exact zm
 refine zt ?_ ?_
 refine zV ?_ ?_ ?_
 refine yd (yH (zw hr)) ?_ ?_
 refine zu yi ?_ ?_
 refine zH (jh T) (hr.mono (by decide)) zE ?_
 refine zh ?_ ?_
 exact (zf 0)
 refine zh ?_ ?_
 exact zm
 exact zn
 exact zm
 exact zm
 refine zy ?_
 refine zM 1 ?_ zcT.nd
 refine zu yi ?_ ?_
 refine zu yE ?_ ?_
 refine zH (jh T) (hr.mono (by decide)) zE ?_
 refine zh ?_ ?_
 exact (zf 0)
 refine zh ?_ ?_
 exact zm
 exact zn
 exact zm
 exact zm
 exact zY
 refine zt ?_ ?_
 refine zM 2 ?_ zcT.nd
 refine zH (zh4 T) (hr.mono (by decide)) zE ?_
 refine zh ?_ ?_
 exact (zf 0)
 refine zh ?_ ?_
 exact zm
 refine zh ?_ ?_
 exact (zf 1)
 exact zn
 refine zy ?_
 refine zL ?_
 refine yn ?_
 refine zh ?_ ?_
 refine jZ wZ T.b_tuple jR ?_
 refine zh ?_ ?_
 refine js (N:=["_law_script", "_law_size_here", "_law_stack"]) rfl (by exact ⟨rfl,by decide +kernel,by decide +kernel,rfl,by show ∀y:Str×NameKind,y∈_->y.2=NameKind.free->List.lookup y.1 (zB zbk).names=some NameKind.cell;decide +kernel⟩) rfl (by decide +kernel) ?_ ?_
 refine jr ?_
 exact (zf 2)
 intro _ _ _ _ _
 refine zK ?_ ?_ ?_ ?_
 exact (zO (zw hr))
 exact (zf 0)
 exact zm
 exact fun _ _=>rfl
 exact zn
 refine zh ?_ ?_
 refine zu yg ?_ ?_
 exact zm
 refine zX (zaw rfl) T.b_sum zax ?_
 refine zh ?_ ?_
 refine js (N:=["_law_script", "_law_size_here", "_law_stack"]) rfl (by exact ⟨rfl,by decide +kernel,by decide +kernel,rfl,by show ∀y:Str×NameKind,y∈_->y.2=NameKind.free->List.lookup y.1 (zB zbk).names=some NameKind.cell;decide +kernel⟩) rfl (by decide +kernel) ?_ ?_
 refine jr ?_
 exact (zf 2)
 intro _ _ _ _ _
 refine zK ?_ ?_ ?_ ?_
 exact (zO (zw hr))
 exact (zf 0)
 exact zm
 exact fun _ _=>rfl
 exact zn
 exact zn
theorem zp7:FnScope ["_law_script"] ["_law_script"] (zB zeh):=⟨rfl,rfl,rfl,by decide +kernel,rfl,by decide +kernel,by decide +kernel⟩
def zp8:zd->Mo Fl :=
  (zI (zl zeO (ze (zc 0) zj)))
def zp9:zd->Mo Fl :=
  zp (zN (mB (zg yh (zg zR (zg yf (zl yt (ze (zc 0) (ze (mC (.int 2)) zj))) (mC (.int 300))) (mC (.int 2))) (mC (.int 1))))
  (zI (yb (ze (zl ju (ze (zl yt (ze (zc 0) (ze (mC (.int 23)) zj))) zj)) (ze (mC (.int 1)) zj))))
  zQ) (zp8)
def zeP:List PV->Mo PV:=zF 1 1 (zp9)
theorem zqa (T:Txt w K mg):FOk P w K mg base "_law_small" 5 zeP:=T.f__law_small.ok (k:=4) zp7 fun f cdv A outer s H E hr =>
  by
 refine zt ?_ ?_
 refine zV ?_ ?_ ?_
 refine yd (yH (zw hr)) ?_ ?_
 refine zu yi ?_ ?_
 refine zu yE ?_ ?_
 refine zH (jh T) (hr.mono (by decide)) zE ?_
 refine zh ?_ ?_
 exact (zf 0)
 refine zh ?_ ?_
 exact zm
 exact zn
 exact zm
 exact zm
 exact zm
 refine zy ?_
 refine zL ?_
 refine yn ?_
 refine zh ?_ ?_
 refine zH (zcO T) (hr.mono (by decide)) zE ?_
 refine zh ?_ ?_
 refine zH (jh T) (hr.mono (by decide)) zE ?_
 refine zh ?_ ?_
 exact (zf 0)
 refine zh ?_ ?_
 exact zm
 exact zn
 exact zn
 refine zh ?_ ?_
 exact zm
 exact zn
 exact zY
 refine zy ?_
 refine zL ?_
 refine zH (zp6 T) (hr.mono (by decide)) zE ?_
 refine zh ?_ ?_
 exact (zf 0)
 exact zn
theorem zeQ:FnScope ["_law_script", "_law_total", "_law_cell_here", "_law_lack"] ["_law_script", "_law_total"] (zB zcJ):=⟨rfl,rfl,rfl,by decide +kernel,rfl,by decide +kernel,by decide +kernel⟩
def zqb:zd->Mo Fl :=
  (zI (yb (ze (zl jP (ze (yr (iRng1 (ze (zg yD (zc 3) (mC (.int 1))) zj)) (zl ju (ze (zg zP (zc 3) (zg yG (mC (.int 17)) (zc 0))) zj))) zj)) (ze (zc 3) zj))))
def zqc:zd->Mo Fl :=
  zp (zN (jN (mB (zg yh (zg zR (zc 2) (mC (.int 2))) (mC (.int 0)))) (mB (zg jg (zc 3) (mC (.int 1)))))
  (zI (zl zeP (ze (zc 0) zj)))
  zQ) (zqb)
def zqd:zd->Mo Fl :=
  zp (zx 3 (zg zP (zg yD (mC (.int 60)) (zc 1)) (zg zR (zg yf (zc 2) (mC (.int 2))) (mC (.int 2))))) (zqc)
def zqe:zd->Mo Fl :=
  zp (zx 2 (zl yt (ze (zc 0) (ze (mC (.int 24)) zj)))) (zqd)
def zcU:List PV->Mo PV:=zF 2 4 (zqe)
theorem zh6 (T:Txt w K mg):FOk P w K mg base "_law_edge" 6 zcU:=T.f__law_edge.ok (k:=5) zeQ fun f cdv A outer s H E hr =>
  by
 refine zt ?_ ?_
 refine zM 2 ?_ zeQ.nd
 refine zH (jh T) (hr.mono (by decide)) zE ?_
 refine zh ?_ ?_
 exact (zf 0)
 refine zh ?_ ?_
 exact zm
 exact zn
 refine zt ?_ ?_
 refine zM 3 ?_ zeQ.nd
 refine zu yg ?_ ?_
 refine zu jq ?_ ?_
 exact zm
 exact (zf 1)
 refine zu yi ?_ ?_
 refine zu yE ?_ ?_
 exact (zf 2)
 exact zm
 exact zm
 refine zt ?_ ?_
 refine zV ?_ ?_ ?_
 refine jX ?_
 refine zb7 ?_ ?_
 refine yd (yH (zw hr)) ?_ ?_
 refine zu yi ?_ ?_
 exact (zf 2)
 exact zm
 exact zm
 refine zb6 ?_
 refine yd wD ?_ ?_
 exact (zf 3)
 exact zm
 refine zy ?_
 refine zL ?_
 refine zH (zqa T) (hr.mono (by decide)) zE ?_
 refine zh ?_ ?_
 exact (zf 0)
 exact zn
 exact zY
 refine zy ?_
 refine zL ?_
 refine yn ?_
 refine zh ?_ ?_
 refine jZ wZ T.b_tuple jR ?_
 refine zh ?_ ?_
 refine js (N:=["_law_script", "_law_total", "_law_cell_here", "_law_lack"]) rfl (by exact ⟨rfl,by decide +kernel,by decide +kernel,rfl,by show ∀y:Str×NameKind,y∈_->y.2=NameKind.free->List.lookup y.1 (zB zcJ).names=some NameKind.cell;decide +kernel⟩) rfl (by decide +kernel) ?_ ?_
 refine wj T.b_range ?_
 refine zh ?_ ?_
 refine zu jq ?_ ?_
 exact (zf 3)
 exact zm
 exact zn
 intro _ _ _ _ _
 refine zH (zcO T) (hr.mono (by decide)) zhg ?_
 refine zh ?_ ?_
 refine zu yg ?_ ?_
 exact (zf 3)
 refine zu j4 ?_ ?_
 exact zm
 exact (zf 0)
 exact zn
 exact zn
 refine zh ?_ ?_
 exact (zf 3)
 exact zn
theorem zqf:FnScope ["self", "word"] ["self", "word"] (zB zei):=⟨rfl,rfl,rfl,by decide +kernel,rfl,by decide +kernel,by decide +kernel⟩
def zh7:zd->Mo Fl :=
  (sFld "many" insOf (zc 0) (zl zS (ze (zg zq (jc (kdAt j8 j9) (zc 1)) (mC (.int 0))) zj)))
def zh8:zd->Mo Fl :=
  zp (sFld "word" insOf (zc 0) (zc 1)) (zh7)
def zeR:List PV->Mo PV:=zF 2 2 (zh8)
theorem zqg (T:Txt w K mg):NOk P w K mg base "Op" 1 zeR:=T.n_Op.ok (k:=0) zqf fun f cdv A outer s H E hr =>
  by
 refine zt ?_ ?_
 refine zgI T.d_word ?_ ?_
 exact (zf 0)
 exact (zf 1)
 refine zy ?_
 refine zgI T.d_many ?_ ?_
 exact (zf 0)
 refine zX yy T.b_len yw ?_
 refine zh ?_ ?_
 refine zK ?_ ?_ ?_ ?_
 exact (zO (zw hr))
 refine zdQ (T.kd_OPS _ rfl rfl rfl) ?_
 exact (zf 1)
 exact zm
 exact fun _ _=>rfl
 exact zn
theorem zqh:FnScope ["word"] ["word"] (zB zej):=⟨rfl,rfl,rfl,by decide +kernel,rfl,by decide +kernel,by decide +kernel⟩
def zh9:zd->Mo Fl :=
  (zI (zl (newI "Op" zeR) (ze (zc 0) zj)))
def zia:zd->Mo Fl :=
  zp (zN (mB (jc (kdIn true j8 j9 zeH) (zc 0)))
  (wm "NoOp" "word" (zc 0))
  zQ) (zh9)
def wK:List PV->Mo PV:=zF 1 1 (zia)
theorem zib (T:Txt w K mg):FOk P w K mg base "op_of" 3 wK:=T.f_op_of.ok (k:=2) zqh fun f cdv A outer s H E hr =>
  by
 refine zt ?_ ?_
 refine zV ?_ ?_ ?_
 refine zn3 (T.kd_OPS _ rfl rfl rfl) ?_
 exact (zf 0)
 refine zy ?_
 refine zaq (zpL T) ?_ (hr.mono (by decide)) zE rfl
 exact (zf 0)
 exact zY
 refine zy ?_
 refine zL ?_
 refine znC (zqg T) (hr.mono (by decide)) zE ?_
 refine zh ?_ ?_
 exact (zf 0)
 exact zn
theorem zqi:FnScope ["_law_held_here"] ["_law_held_here"] (zB zbl):=⟨rfl,rfl,rfl,by decide +kernel,rfl,by decide +kernel,by decide +kernel⟩
def zqj:zd->Mo Fl :=
  (zI (yb (ze (mC (.str "told")) (ze (zl jP (ze (yr (yF (zc 0)) (zg zq (zc 0) (mC (.int 0)))) zj)) zj))))
def zqk:zd->Mo Fl :=
  zp (zN (mB (zg wV (zg zP (mC (.int 1)) (zl jI (ze (yr (yF (zc 0)) (zg zq (zc 0) (mC (.int 1)))) zj))) (mC (.int 60))))
  (zI (yb (ze (mC (.str "fault")) (ze (mC (.str "large")) zj))))
  zQ) (zqj)
def zbn:List PV->Mo PV:=zF 1 1 (zqk)
theorem zeS (T:Txt w K mg):FOk P w K mg base "_law_size" 1 zbn:=T.f__law_size.ok (k:=0) zqi fun f cdv A outer s H E hr =>
  by
 refine zt ?_ ?_
 refine zV ?_ ?_ ?_
 refine yd zca ?_ ?_
 refine zu yg ?_ ?_
 exact zm
 refine zX (zaw rfl) T.b_sum zax ?_
 refine zh ?_ ?_
 refine js (N:=["_law_held_here"]) rfl (by exact ⟨rfl,by decide +kernel,by decide +kernel,rfl,by show ∀y:Str×NameKind,y∈_->y.2=NameKind.free->List.lookup y.1 (zB zbl).names=some NameKind.cell;decide +kernel⟩) rfl (by decide +kernel) ?_ ?_
 refine jr ?_
 exact (zf 0)
 intro _ _ _ _ _
 refine zK ?_ ?_ ?_ ?_
 exact (zO (zw hr))
 exact (zf 0)
 exact zm
 exact fun _ _=>rfl
 exact zn
 exact zm
 refine zy ?_
 refine zL ?_
 refine yn ?_
 refine zh ?_ ?_
 exact zW
 refine zh ?_ ?_
 exact zW
 exact zn
 exact zY
 refine zy ?_
 refine zL ?_
 refine yn ?_
 refine zh ?_ ?_
 exact zW
 refine zh ?_ ?_
 refine jZ wZ T.b_tuple jR ?_
 refine zh ?_ ?_
 refine js (N:=["_law_held_here"]) rfl (by exact ⟨rfl,by decide +kernel,by decide +kernel,rfl,by show ∀y:Str×NameKind,y∈_->y.2=NameKind.free->List.lookup y.1 (zB zbl).names=some NameKind.cell;decide +kernel⟩) rfl (by decide +kernel) ?_ ?_
 refine jr ?_
 exact (zf 0)
 intro _ _ _ _ _
 refine zK ?_ ?_ ?_ ?_
 exact (zO (zw hr))
 exact (zf 0)
 exact zm
 exact fun _ _=>rfl
 exact zn
 exact zn
theorem zql:FnScope ["_law_word", "_law_held_here", "_law_value", "_law_at"] ["_law_word", "_law_held_here", "_law_value", "_law_at"] (zB zek):=⟨rfl,rfl,rfl,by decide +kernel,rfl,by decide +kernel,by decide +kernel⟩
def zqm:zd->Mo Fl :=
  (zI (zl zbn (ze (zg zP (zg zP (yo (zc 1) pNone (pSome (zc 3))) (ji (ze (zc 2) zj))) (yo (zc 1) (pSome (zg zP (zc 3) (mC (.int 1)))) pNone)) zj)))
def zqn:zd->Mo Fl :=
  zp (zN (mB (zg yh (zc 0) (mC (.str "front"))))
  (zI (zl zbn (ze (zg zP (ji (ze (zc 2) zj)) (zc 1)) zj)))
  zQ) (zqm)
def zqo:zd->Mo Fl :=
  zp (zN (mB (zg yh (zc 0) (mC (.str "rest"))))
  (zI (zl zbn (ze (yo (zc 1) (pSome (mC (.int 1))) pNone) zj)))
  zQ) (zqn)
def zqp:zd->Mo Fl :=
  zp (zN (mB (zg yh (zc 0) (mC (.str "item"))))
  (zI (yb (ze (mC (.str "told")) (ze (zg zq (zg zq (zc 1) (zc 3)) (mC (.int 0))) zj))))
  zQ) (zqo)
def zic:zd->Mo Fl :=
  zp (zN (mB (zg yh (zc 0) (mC (.str "head"))))
  (zI (yb (ze (mC (.str "told")) (ze (zg zq (zg zq (zc 1) (mC (.int 0))) (mC (.int 0))) zj))))
  zQ) (zqp)
def zqq:zd->Mo Fl :=
  zp (zN (jd (mB (zg (yx false) (zc 0) (yb (ze (mC (.str "item")) (ze (mC (.str "put")) zj))))) (je (mB (we oLe jg (mC (.int 0)) (zc 3) (zl zS (ze (zc 1) zj))))))
  (zI (yb (ze (mC (.str "fault")) (ze (mC (.str "place")) zj))))
  zQ) (zic)
def zqr:zd->Mo Fl :=
  zp (zN (jd (mB (zg (yx false) (zc 0) (yb (ze (mC (.str "head")) (ze (mC (.str "rest")) zj))))) (mB (zg zaz (zc 1) (ji zj))))
  (zI (yb (ze (mC (.str "fault")) (ze (mC (.str "empty")) zj))))
  zQ) (zqq)
def zqs:zd->Mo Fl :=
  zp (zN (mB (zg yh (zc 0) (mC (.str "many"))))
  (zI (yb (ze (mC (.str "told")) (ze (zl zS (ze (zc 1) zj)) zj))))
  zQ) (zqr)
def wL:List PV->Mo PV:=zF 4 4 (zqs)
theorem zid (T:Txt w K mg):FOk P w K mg base "_law_row_due" 2 wL:=T.f__law_row_due.ok (k:=1) zql fun f cdv A outer s H E hr =>
  by
 refine zt ?_ ?_
 refine zV ?_ ?_ ?_
 refine yd (yH (zw hr)) ?_ ?_
 exact (zf 0)
 exact zW
 refine zy ?_
 refine zL ?_
 refine yn ?_
 refine zh ?_ ?_
 exact zW
 refine zh ?_ ?_
 refine zX yy T.b_len yw ?_
 refine zh ?_ ?_
 exact (zf 1)
 exact zn
 exact zn
 exact zY
 refine zt ?_ ?_
 refine zV ?_ ?_ ?_
 refine jX ?_
 refine zao ?_ ?_
 refine yd (zhe (zw hr)) ?_ ?_
 exact (zf 0)
 refine yn ?_
 refine zh ?_ ?_
 exact zW
 refine zh ?_ ?_
 exact zW
 exact zn
 refine zan ?_
 refine yd (zoV (zw hr)) ?_ ?_
 exact (zf 1)
 refine jO ?_
 exact zn
 refine zy ?_
 refine zL ?_
 refine yn ?_
 refine zh ?_ ?_
 exact zW
 refine zh ?_ ?_
 exact zW
 exact zn
 exact zY
 refine zt ?_ ?_
 refine zV ?_ ?_ ?_
 refine jX ?_
 refine zao ?_ ?_
 refine yd (zhe (zw hr)) ?_ ?_
 exact (zf 0)
 refine yn ?_
 refine zh ?_ ?_
 exact zW
 refine zh ?_ ?_
 exact zW
 exact zn
 refine zan ?_
 refine wC ?_
 refine zdE zdH wD ?_ ?_ ?_
 exact zm
 exact (zf 3)
 refine zX yy T.b_len yw ?_
 refine zh ?_ ?_
 exact (zf 1)
 exact zn
 refine zy ?_
 refine zL ?_
 refine yn ?_
 refine zh ?_ ?_
 exact zW
 refine zh ?_ ?_
 exact zW
 exact zn
 exact zY
 refine zt ?_ ?_
 refine zV ?_ ?_ ?_
 refine yd (yH (zw hr)) ?_ ?_
 exact (zf 0)
 exact zW
 refine zy ?_
 refine zL ?_
 refine yn ?_
 refine zh ?_ ?_
 exact zW
 refine zh ?_ ?_
 refine zK ?_ ?_ ?_ ?_
 exact (zO (zw hr))
 refine zK ?_ ?_ ?_ ?_
 exact (zO (zw hr))
 exact (zf 1)
 exact zm
 exact fun _ _=>rfl
 exact zm
 exact fun _ _=>rfl
 exact zn
 exact zY
 refine zt ?_ ?_
 refine zV ?_ ?_ ?_
 refine yd (yH (zw hr)) ?_ ?_
 exact (zf 0)
 exact zW
 refine zy ?_
 refine zL ?_
 refine yn ?_
 refine zh ?_ ?_
 exact zW
 refine zh ?_ ?_
 refine zK ?_ ?_ ?_ ?_
 exact (zO (zw hr))
 refine zK ?_ ?_ ?_ ?_
 exact (zO (zw hr))
 exact (zf 1)
 exact (zf 3)
 exact fun _ _=>rfl
 exact zm
 exact fun _ _=>rfl
 exact zn
 exact zY
 refine zt ?_ ?_
 refine zV ?_ ?_ ?_
 refine yd (yH (zw hr)) ?_ ?_
 exact (zf 0)
 exact zW
 refine zy ?_
 refine zL ?_
 refine zH (zeS T) (hr.mono (by decide)) zE ?_
 refine zh ?_ ?_
 refine yK ?_ ?_ ?_
 exact (zf 1)
 refine yJ ?_
 exact zm
 exact yI
 exact zn
 exact zY
 refine zt ?_ ?_
 refine zV ?_ ?_ ?_
 refine yd (yH (zw hr)) ?_ ?_
 exact (zf 0)
 exact zW
 refine zy ?_
 refine zL ?_
 refine zH (zeS T) (hr.mono (by decide)) zE ?_
 refine zh ?_ ?_
 refine zu yg ?_ ?_
 refine jO ?_
 refine zh ?_ ?_
 exact (zf 2)
 exact zn
 exact (zf 1)
 exact zn
 exact zY
 refine zy ?_
 refine zL ?_
 refine zH (zeS T) (hr.mono (by decide)) zE ?_
 refine zh ?_ ?_
 refine zu yg ?_ ?_
 refine zu yg ?_ ?_
 refine yK ?_ ?_ ?_
 exact (zf 1)
 exact yI
 refine yJ ?_
 exact (zf 3)
 refine jO ?_
 refine zh ?_ ?_
 exact (zf 2)
 exact zn
 refine yK ?_ ?_ ?_
 exact (zf 1)
 refine yJ ?_
 refine zu yg ?_ ?_
 exact (zf 3)
 exact zm
 exact yI
 exact zn
theorem zqt:FnScope ["value"] ["value"] (zB zel):=⟨rfl,rfl,rfl,by decide +kernel,rfl,by decide +kernel,by decide +kernel⟩
def zie:zd->Mo Fl :=
  (zI (mC (.str "number")))
def zif:zd->Mo Fl :=
  zp (zN (mB (zl (yA isT) (ze (zc 0) (ze (mC (.ty "dict")) zj))))
  (zI (mC (.str "record")))
  zQ) (zie)
def zig:zd->Mo Fl :=
  zp (zN (mB (zl (yA isT) (ze (zc 0) (ze (mC (.ty "tuple")) zj))))
  (zI (mC (.str "row")))
  zQ) (zif)
def zih:zd->Mo Fl :=
  zp (zN (mB (zl (yA isT) (ze (zc 0) (ze (mC (.ty "str")) zj))))
  (zI (mC (.str "word")))
  zQ) (zig)
def zbo:List PV->Mo PV:=zF 1 1 (zih)
theorem zqu (T:Txt w K mg):FOk P w K mg base "kind_of" 1 zbo:=T.f_kind_of.ok (k:=0) zqt fun f cdv A outer s H E hr =>
  by
 refine zt ?_ ?_
 refine zV ?_ ?_ ?_
 refine jp ?_
 refine zX (jC T.is) T.b_isinstance jD ?_
 refine zh ?_ ?_
 exact (zf 0)
 refine zh ?_ ?_
 exact (jB T.b_str zdS)
 exact zn
 refine zy ?_
 refine zL ?_
 exact zW
 exact zY
 refine zt ?_ ?_
 refine zV ?_ ?_ ?_
 refine jp ?_
 refine zX (jC T.is) T.b_isinstance jD ?_
 refine zh ?_ ?_
 exact (zf 0)
 refine zh ?_ ?_
 exact (jB T.b_tuple jR)
 exact zn
 refine zy ?_
 refine zL ?_
 exact zW
 exact zY
 refine zt ?_ ?_
 refine zV ?_ ?_ ?_
 refine jp ?_
 refine zX (jC T.is) T.b_isinstance jD ?_
 refine zh ?_ ?_
 exact (zf 0)
 refine zh ?_ ?_
 exact (jB T.b_dict za5)
 exact zn
 refine zy ?_
 refine zL ?_
 exact zW
 exact zY
 refine zy ?_
 refine zL ?_
 exact zW
theorem zii:FnScope ["kinds", "values", "kind", "value"] ["kinds", "values"] (zB zem):=⟨rfl,rfl,rfl,by decide +kernel,rfl,by decide +kernel,by decide +kernel⟩
def zij:zd->Mo Fl :=
  (jH (zdO (ze (zc 0) (ze (zc 1) zj))) (g2 2 3)
  (zN (jd (mB (zg yV (zc 2) (mC (.str "any")))) (mB (zg yV (zc 2) (zl zbo (ze (zc 3) zj)))))
  (wm "Fault" "word" (mC (.str "kind")))
  zQ))
def zcV:List PV->Mo PV:=zF 2 4 (zij)
theorem zqv (T:Txt w K mg):FOk P w K mg base "check_kinds" 3 zcV:=T.f_check_kinds.ok (k:=2) zii fun f cdv A outer s H E hr =>
  by
 refine zy ?_
 refine wF (jW rfl rfl) rfl ?_ ?_ ?_
 refine znV T.b_zip ?_
 refine zh ?_ ?_
 exact (zf 0)
 refine zh ?_ ?_
 exact (zf 1)
 exact zn
 exact (znK 2 3 rfl zii.nd)
 refine zy ?_
 refine zV ?_ ?_ ?_
 refine jX ?_
 refine zao ?_ ?_
 refine yd (wX (zw hr)) ?_ ?_
 exact (zf 2)
 exact zW
 refine zan ?_
 refine yd (wX (zw hr)) ?_ ?_
 exact (zf 2)
 refine zH (zqu T) (hr.mono (by decide)) zE ?_
 refine zh ?_ ?_
 exact (zf 3)
 exact zn
 refine zy ?_
 refine zaq (zbm T) ?_ (hr.mono (by decide)) zE rfl
 exact zW
 exact zY
theorem zqw:FnScope ["values"] ["values"] (zB zen):=⟨rfl,rfl,rfl,by decide +kernel,rfl,by decide +kernel,by decide +kernel⟩
def zik:zd->Mo Fl :=
  (zI (zg zP (yb (ze (zg zq (zc 0) (mC (.int 0))) zj)) (zg zq (zc 0) (mC (.int 1)))))
def zcW:List PV->Mo PV:=zF 1 1 (zik)
theorem zqx (T:Txt w K mg):FOk P w K mg base "tell_front" 1 zcW:=T.f_tell_front.ok (k:=0) zqw fun f cdv A outer s H E hr =>
  by
 refine zy ?_
 refine zL ?_
 refine zu yg ?_ ?_
 refine yn ?_
 refine zh ?_ ?_
 refine zK ?_ ?_ ?_ ?_
 exact (zO (zw hr))
 exact (zf 0)
 exact zm
 exact fun _ _=>rfl
 exact zn
 refine zK ?_ ?_ ?_ ?_
 exact (zO (zw hr))
 exact (zf 0)
 exact zm
 exact fun _ _=>rfl
theorem zqy:FnScope ["row"] ["row"] (zB zeo):=⟨rfl,rfl,rfl,by decide +kernel,rfl,by decide +kernel,by decide +kernel⟩
def zil:zd->Mo Fl :=
  (zI (zc 0))
def zeT:zd->Mo Fl :=
  zp (zN (mB (zg yh (zl zS (ze (zc 0) zj)) (mC (.int 0))))
  (wm "Fault" "word" (mC (.str "empty")))
  zQ) (zil)
def zaJ:List PV->Mo PV:=zF 1 1 (zeT)
theorem zim (T:Txt w K mg):FOk P w K mg base "filled" 3 zaJ:=T.f_filled.ok (k:=2) zqy fun f cdv A outer s H E hr =>
  by
 refine zt ?_ ?_
 refine zV ?_ ?_ ?_
 refine yd (yH (zw hr)) ?_ ?_
 refine zX yy T.b_len yw ?_
 refine zh ?_ ?_
 exact (zf 0)
 exact zn
 exact zm
 refine zy ?_
 refine zaq (zbm T) ?_ (hr.mono (by decide)) zE rfl
 exact zW
 exact zY
 refine zy ?_
 refine zL ?_
 exact (zf 0)
theorem zqz:FnScope ["values"] ["values"] (zB zep):=⟨rfl,rfl,rfl,by decide +kernel,rfl,by decide +kernel,by decide +kernel⟩
def zeU:zd->Mo Fl :=
  (zI (zg zq (zl zaJ (ze (zg zq (zc 0) (mC (.int 0))) zj)) (mC (.int 0))))
def zbp:List PV->Mo PV:=zF 1 1 (zeU)
theorem zqA (T:Txt w K mg):FOk P w K mg base "tell_head" 4 zbp:=T.f_tell_head.ok (k:=3) zqz fun f cdv A outer s H E hr =>
  by
 refine zy ?_
 refine zL ?_
 refine zK ?_ ?_ ?_ ?_
 exact (zO (zw hr))
 refine zH (zim T) (hr.mono (by decide)) zE ?_
 refine zh ?_ ?_
 refine zK ?_ ?_ ?_ ?_
 exact (zO (zw hr))
 exact (zf 0)
 exact zm
 exact fun _ _=>rfl
 exact zn
 exact zm
 exact fun _ _=>rfl
theorem zqB:FnScope ["values"] ["values"] (zB zeq):=⟨rfl,rfl,rfl,by decide +kernel,rfl,by decide +kernel,by decide +kernel⟩
def zeV:zd->Mo Fl :=
  (zI (yo (zl zaJ (ze (zg zq (zc 0) (mC (.int 0))) zj)) (pSome (mC (.int 1))) pNone))
def zbq:List PV->Mo PV:=zF 1 1 (zeV)
theorem zqC (T:Txt w K mg):FOk P w K mg base "tell_rest" 4 zbq:=T.f_tell_rest.ok (k:=3) zqB fun f cdv A outer s H E hr =>
  by
 refine zy ?_
 refine zL ?_
 refine yK ?_ ?_ ?_
 refine zH (zim T) (hr.mono (by decide)) zE ?_
 refine zh ?_ ?_
 refine zK ?_ ?_ ?_ ?_
 exact (zO (zw hr))
 exact (zf 0)
 exact zm
 exact fun _ _=>rfl
 exact zn
 refine yJ ?_
 exact zm
 exact yI
theorem zqD:FnScope ["values"] ["values"] (zB zer):=⟨rfl,rfl,rfl,by decide +kernel,rfl,by decide +kernel,by decide +kernel⟩
def zin:zd->Mo Fl :=
  (zI (zl zS (ze (zg zq (zc 0) (mC (.int 0))) zj)))
def zcX:List PV->Mo PV:=zF 1 1 (zin)
theorem zqE (T:Txt w K mg):FOk P w K mg base "tell_many" 1 zcX:=T.f_tell_many.ok (k:=0) zqD fun f cdv A outer s H E hr =>
  by
 refine zy ?_
 refine zL ?_
 refine zX yy T.b_len yw ?_
 refine zh ?_ ?_
 refine zK ?_ ?_ ?_ ?_
 exact (zO (zw hr))
 exact (zf 0)
 exact zm
 exact fun _ _=>rfl
 exact zn
theorem zqF:FnScope ["row", "number"] ["row", "number"] (zB zes):=⟨rfl,rfl,rfl,by decide +kernel,rfl,by decide +kernel,by decide +kernel⟩
def zio:zd->Mo Fl :=
  (zI (zc 1))
def zcY:zd->Mo Fl :=
  zp (zN (je (mB (we oLe jg (mC (.int 0)) (zc 1) (zl zS (ze (zc 0) zj)))))
  (wm "Fault" "word" (mC (.str "place")))
  zQ) (zio)
def zac:List PV->Mo PV:=zF 2 2 (zcY)
theorem ziq (T:Txt w K mg):FOk P w K mg base "place_in" 3 zac:=T.f_place_in.ok (k:=2) zqF fun f cdv A outer s H E hr =>
  by
 refine zt ?_ ?_
 refine zV ?_ ?_ ?_
 refine wC ?_
 refine zdE zdH wD ?_ ?_ ?_
 exact zm
 exact (zf 1)
 refine zX yy T.b_len yw ?_
 refine zh ?_ ?_
 exact (zf 0)
 exact zn
 refine zy ?_
 refine zaq (zbm T) ?_ (hr.mono (by decide)) zE rfl
 exact zW
 exact zY
 refine zy ?_
 refine zL ?_
 exact (zf 1)
theorem zir:FnScope ["values", "row"] ["values"] (zB zet):=⟨rfl,rfl,rfl,by decide +kernel,rfl,by decide +kernel,by decide +kernel⟩
def zeW:zd->Mo Fl :=
  (zI (zg zq (zc 1) (zl zac (ze (zc 1) (ze (zg zq (zc 0) (mC (.int 1))) zj)))))
def zeX:zd->Mo Fl :=
  zp (zx 1 (zg zq (zc 0) (mC (.int 0)))) (zeW)
def zbr:List PV->Mo PV:=zF 1 2 (zeX)
theorem zqG (T:Txt w K mg):FOk P w K mg base "tell_item" 4 zbr:=T.f_tell_item.ok (k:=3) zir fun f cdv A outer s H E hr =>
  by
 refine zt ?_ ?_
 refine zM 1 ?_ zir.nd
 refine zK ?_ ?_ ?_ ?_
 exact (zO (zw hr))
 exact (zf 0)
 exact zm
 exact fun _ _=>rfl
 refine zy ?_
 refine zL ?_
 refine zK ?_ ?_ ?_ ?_
 exact (zO (zw hr))
 exact (zf 1)
 refine zH (ziq T) (hr.mono (by decide)) zE ?_
 refine zh ?_ ?_
 exact (zf 1)
 refine zh ?_ ?_
 refine zK ?_ ?_ ?_ ?_
 exact (zO (zw hr))
 exact (zf 0)
 exact zm
 exact fun _ _=>rfl
 exact zn
 exact fun _ _=>rfl
theorem zeY:FnScope ["values", "row", "place"] ["values"] (zB zeu):=⟨rfl,rfl,rfl,by decide +kernel,rfl,by decide +kernel,by decide +kernel⟩
def zis:zd->Mo Fl :=
  (zI (zg zP (zg zP (yo (zc 1) pNone (pSome (zc 2))) (yb (ze (zg zq (zc 0) (mC (.int 2))) zj))) (yo (zc 1) (pSome (zg zP (zc 2) (mC (.int 1)))) pNone)))
def zeZ:zd->Mo Fl :=
  zp (zx 2 (zl zac (ze (zc 1) (ze (zg zq (zc 0) (mC (.int 1))) zj)))) (zis)
def ze0:zd->Mo Fl :=
  zp (zx 1 (zg zq (zc 0) (mC (.int 0)))) (zeZ)
def zbs:List PV->Mo PV:=zF 1 3 (ze0)
theorem zqH (T:Txt w K mg):FOk P w K mg base "tell_put" 4 zbs:=T.f_tell_put.ok (k:=3) zeY fun f cdv A outer s H E hr =>
  by
 refine zt ?_ ?_
 refine zM 1 ?_ zeY.nd
 refine zK ?_ ?_ ?_ ?_
 exact (zO (zw hr))
 exact (zf 0)
 exact zm
 exact fun _ _=>rfl
 refine zt ?_ ?_
 refine zM 2 ?_ zeY.nd
 refine zH (ziq T) (hr.mono (by decide)) zE ?_
 refine zh ?_ ?_
 exact (zf 1)
 refine zh ?_ ?_
 refine zK ?_ ?_ ?_ ?_
 exact (zO (zw hr))
 exact (zf 0)
 exact zm
 exact fun _ _=>rfl
 exact zn
 refine zy ?_
 refine zL ?_
 refine zu yg ?_ ?_
 refine zu yg ?_ ?_
 refine yK ?_ ?_ ?_
 exact (zf 1)
 exact yI
 refine yJ ?_
 exact (zf 2)
 refine yn ?_
 refine zh ?_ ?_
 refine zK ?_ ?_ ?_ ?_
 exact (zO (zw hr))
 exact (zf 0)
 exact zm
 exact fun _ _=>rfl
 exact zn
 refine yK ?_ ?_ ?_
 exact (zf 1)
 refine yJ ?_
 refine zu yg ?_ ?_
 exact (zf 2)
 exact zm
 exact yI
theorem zit:FnScope ["values", "record"] ["values"] (zB zev):=⟨rfl,rfl,rfl,by decide +kernel,rfl,by decide +kernel,by decide +kernel⟩
def ziu:zd->Mo Fl :=
  (zI (zg zq (zc 1) (zg zq (zc 0) (mC (.int 1)))))
def ze1:zd->Mo Fl :=
  zp (zN (mB (zg (yx true) (zg zq (zc 0) (mC (.int 1))) (zc 1)))
  (wm "Fault" "word" (mC (.str "field")))
  zQ) (ziu)
def ze2:zd->Mo Fl :=
  zp (zx 1 (zg zq (zc 0) (mC (.int 0)))) (ze1)
def zbt:List PV->Mo PV:=zF 1 2 (ze2)
theorem zqI (T:Txt w K mg):FOk P w K mg base "tell_field" 3 zbt:=T.f_tell_field.ok (k:=2) zit fun f cdv A outer s H E hr =>
  by
 refine zt ?_ ?_
 refine zM 1 ?_ zit.nd
 refine zK ?_ ?_ ?_ ?_
 exact (zO (zw hr))
 exact (zf 0)
 exact zm
 exact fun _ _=>rfl
 refine zt ?_ ?_
 refine zV ?_ ?_ ?_
 refine yd (zhf (zw hr)) ?_ ?_
 refine zK ?_ ?_ ?_ ?_
 exact (zO (zw hr))
 exact (zf 0)
 exact zm
 exact fun _ _=>rfl
 exact (zf 1)
 refine zy ?_
 refine zaq (zbm T) ?_ (hr.mono (by decide)) zE rfl
 exact zW
 exact zY
 refine zy ?_
 refine zL ?_
 refine zK ?_ ?_ ?_ ?_
 exact (zO (zw hr))
 exact (zf 1)
 refine zK ?_ ?_ ?_ ?_
 exact (zO (zw hr))
 exact (zf 0)
 exact zm
 exact fun _ _=>rfl
 exact fun _ _=>rfl
theorem ziv:FnScope ["values", "record"] ["values"] (zB zew):=⟨rfl,rfl,rfl,by decide +kernel,rfl,by decide +kernel,by decide +kernel⟩
def ziw:zd->Mo Fl :=
  (zI (zc 1))
def zix:zd->Mo Fl :=
  zp (wo (zc 1) (zg zq (zc 0) (mC (.int 1))) (zg zq (zc 0) (mC (.int 2)))) (ziw)
def ziy:zd->Mo Fl :=
  zp (zx 1 (zl zcC (ze (zg zq (zc 0) (mC (.int 0))) zj))) (zix)
def zcZ:List PV->Mo PV:=zF 1 2 (ziy)
theorem zqJ (T:Txt w K mg):FOk P w K mg base "tell_set" 1 zcZ:=T.f_tell_set.ok (k:=0) ziv fun f cdv A outer s H E hr =>
  by
 refine zt ?_ ?_
 refine zM 1 ?_ ziv.nd
 refine jZ zpw T.b_dict za5 ?_
 refine zh ?_ ?_
 refine zK ?_ ?_ ?_ ?_
 exact (zO (zw hr))
 exact (zf 0)
 exact zm
 exact fun _ _=>rfl
 exact zn
 refine zt ?_ ?_
 refine zcr ?_ ?_ ?_ ?_ ?_
 exact (zw hr)
 exact (zf 1)
 refine zK ?_ ?_ ?_ ?_
 exact (zO (zw hr))
 exact (zf 0)
 exact zm
 exact fun _ _=>rfl
 refine zK ?_ ?_ ?_ ?_
 exact (zO (zw hr))
 exact (zf 0)
 exact zm
 exact fun _ _=>rfl
 rfl
 refine zy ?_
 refine zL ?_
 exact (zf 1)
def zbu (y:Str):Option (List PV->Mo PV):=if y = "tell_front" then some zcW else if y = "tell_head" then some zbp else if y = "tell_rest" then some zbq else if y = "tell_many" then some zcX else if y = "tell_item" then some zbr else if y = "tell_put" then some zbs else if y = "tell_field" then some zbt else if y = "tell_set" then some zcZ else none
theorem zqK (T:Txt w K mg) {y:Str}{m:List PV->Mo PV}(h:zbu y=some m):FOk P w K mg base y 4 m:=by
 unfold zbu at h
 by_cases e0:y = "tell_front"
 ·rw [if_pos e0] at h;cases h;rw [e0];exact (zqx T).mono (by decide)
 rw [if_neg e0] at h
 by_cases e1:y = "tell_head"
 ·rw [if_pos e1] at h;cases h;rw [e1];exact (zqA T).mono (by decide)
 rw [if_neg e1] at h
 by_cases e2:y = "tell_rest"
 ·rw [if_pos e2] at h;cases h;rw [e2];exact (zqC T).mono (by decide)
 rw [if_neg e2] at h
 by_cases e3:y = "tell_many"
 ·rw [if_pos e3] at h;cases h;rw [e3];exact (zqE T).mono (by decide)
 rw [if_neg e3] at h
 by_cases e4:y = "tell_item"
 ·rw [if_pos e4] at h;cases h;rw [e4];exact (zqG T).mono (by decide)
 rw [if_neg e4] at h
 by_cases e5:y = "tell_put"
 ·rw [if_pos e5] at h;cases h;rw [e5];exact (zqH T).mono (by decide)
 rw [if_neg e5] at h
 by_cases e6:y = "tell_field"
 ·rw [if_pos e6] at h;cases h;rw [e6];exact (zqI T).mono (by decide)
 rw [if_neg e6] at h
 by_cases e7:y = "tell_set"
 ·rw [if_pos e7] at h;cases h;rw [e7];exact (zqJ T).mono (by decide)
 rw [if_neg e7] at h
 cases h
theorem zqL:FnScope ["thing"] ["thing"] (zB zex):=⟨rfl,rfl,rfl,by decide +kernel,rfl,by decide +kernel,by decide +kernel⟩
def ze3:zd->Mo Fl :=
  (zI (ji zj))
def zc0:zd->Mo Fl :=
  zp (zN (mB (zl (yA isT) (ze (zc 0) (ze (mC (.ty "dict")) zj))))
  (zI (jc zd6 (zc 0)))
  zQ) (ze3)
def zbv:zd->Mo Fl :=
  zp (zN (mB (zl (yA isT) (ze (zc 0) (ze (mC (.ty "tuple")) zj))))
  (zI (zl zaA (ze (zc 0) zj)))
  zQ) (zc0)
def wM:List PV->Mo PV:=zF 1 1 (zbv)
theorem zqM (T:Txt w K mg):FOk P w K mg base "things_within" 1 wM:=T.f_things_within.ok (k:=0) zqL fun f cdv A outer s H E hr =>
  by
 refine zt ?_ ?_
 refine zV ?_ ?_ ?_
 refine jp ?_
 refine zX (jC T.is) T.b_isinstance jD ?_
 refine zh ?_ ?_
 exact (zf 0)
 refine zh ?_ ?_
 exact (jB T.b_tuple jR)
 exact zn
 refine zy ?_
 refine zL ?_
 refine jZ (zoX rfl) T.b_list zgL ?_
 refine zh ?_ ?_
 exact (zf 0)
 exact zn
 exact zY
 refine zt ?_ ?_
 refine zV ?_ ?_ ?_
 refine jp ?_
 refine zX (jC T.is) T.b_isinstance jD ?_
 refine zh ?_ ?_
 exact (zf 0)
 refine zh ?_ ?_
 exact (jB T.b_dict za5)
 exact zn
 refine zy ?_
 refine zL ?_
 refine zo7 rfl T.b_list ?_
 exact (zf 0)
 exact zY
 refine zy ?_
 refine zL ?_
 refine jO ?_
 exact zn
theorem zc1:FnScope ["thing", "found", "place"] ["thing"] (zB zey):=⟨rfl,rfl,rfl,by decide +kernel,rfl,by decide +kernel,by decide +kernel⟩
def ziz:zd->Mo Fl :=
  (zI (zc 1))
def ziA:zd->Mo Fl :=
  zp (zdP (mB (zg jg (zc 2) (zl zS (ze (zc 1) zj))))
  (zp (yR (ja zch (zc 1) (zl wM (ze (zg zq (zc 1) (zc 2)) zj))))
  (za2 2 ipAdd (mC (.int 1))))) (ziz)
def ziB:zd->Mo Fl :=
  zp (zx 2 (mC (.int 0))) (ziA)
def ziC:zd->Mo Fl :=
  zp (zx 1 (ji (ze (zc 0) zj))) (ziB)
def zc2:List PV->Mo PV:=zF 1 3 (ziC)
theorem zqN (T:Txt w K mg):FOk P w K mg base "all_within" 2 zc2:=T.f_all_within.ok (k:=1) zc1 fun f cdv A outer s H E hr =>
  by
 refine zt ?_ ?_
 refine zM 1 ?_ zc1.nd
 refine jO ?_
 refine zh ?_ ?_
 exact (zf 0)
 exact zn
 refine zt ?_ ?_
 refine zM 2 ?_ zc1.nd
 exact zm
 refine zt ?_ ?_
 refine znW (jW rfl rfl) ?_ ?_
 refine yd wD ?_ ?_
 exact (zf 2)
 refine zX yy T.b_len yw ?_
 refine zh ?_ ?_
 exact (zf 1)
 exact zn
 refine zt ?_ ?_
 refine w4 ?_
 refine zn4 ?_ ?_
 exact (zf 1)
 refine zH (zqM T) (hr.mono (by decide)) zE ?_
 refine zh ?_ ?_
 refine zK ?_ ?_ ?_ ?_
 exact (zO (zw hr))
 exact (zf 1)
 exact (zf 2)
 exact fun _ _=>rfl
 exact zn
 refine zy ?_
 refine znI 2 znH ?_ zc1.nd
 exact zm
 refine zy ?_
 refine zL ?_
 exact (zf 1)
theorem zqO:FnScope ["value"] ["value"] (zB zez):=⟨rfl,rfl,rfl,by decide +kernel,rfl,by decide +kernel,by decide +kernel⟩
def ziD:zd->Mo Fl :=
  (zI (zl zS (ze (zl zc2 (ze (zc 0) zj)) zj)))
def zc3:List PV->Mo PV:=zF 1 1 (ziD)
theorem zqP (T:Txt w K mg):FOk P w K mg base "parts" 3 zc3:=T.f_parts.ok (k:=2) zqO fun f cdv A outer s H E hr =>
  by
 refine zy ?_
 refine zL ?_
 refine zX yy T.b_len yw ?_
 refine zh ?_ ?_
 refine zH (zqN T) (hr.mono (by decide)) zE ?_
 refine zh ?_ ?_
 exact (zf 0)
 exact zn
 exact zn
theorem ze4:FnScope ["self", "values", "tell", "told"] ["self", "values"] (zB zeA):=⟨rfl,rfl,rfl,by decide +kernel,rfl,by decide +kernel,by decide +kernel⟩
def ze5:zd->Mo Fl :=
  (zI (zc 3))
def ze6:zd->Mo Fl :=
  zp (zN (mB (zg wV (zl zc3 (ze (zc 3) zj)) (mC (.int 60))))
  (wm "Fault" "word" (mC (.str "large")))
  zQ) (ze5)
def zc4:zd->Mo Fl :=
  zp (zx 3 (zdM zbu (zc 2) (ze (zc 1) zj))) (ze6)
def zc5:zd->Mo Fl :=
  zp (zx 2 (zg zq (jc (kdAt j8 j9) (jc (fldAt "word" insOf excOf) (zc 0))) (mC (.int 1)))) (zc4)
def zc6:zd->Mo Fl :=
  zp (yR (zl zcV (ze (zg zq (jc (kdAt j8 j9) (jc (fldAt "word" insOf excOf) (zc 0))) (mC (.int 0))) (ze (zc 1) zj)))) (zc5)
def m_Op_answer:List PV->Mo PV:=zF 2 4 (zc6)
theorem zqQ (T:Txt w K mg):MOk P w K mg base "Op" "answer" 5 m_Op_answer:=T.m_Op_answer.ok (k:=4) ze4 fun f cdv A outer s H E hr =>
  by
 refine zt ?_ ?_
 refine w4 ?_
 refine zH (zqv T) (hr.mono (by decide)) zE ?_
 refine zh ?_ ?_
 refine zK ?_ ?_ ?_ ?_
 exact (zO (zw hr))
 refine zdQ (T.kd_OPS _ rfl rfl rfl) ?_
 refine zdN T.d_word ?_
 exact (zf 0)
 exact zm
 exact fun _ _=>rfl
 refine zh ?_ ?_
 exact (zf 1)
 exact zn
 refine zt ?_ ?_
 refine zM 2 ?_ ze4.nd
 refine zK ?_ ?_ ?_ ?_
 exact (zO (zw hr))
 refine zdQ (T.kd_OPS _ rfl rfl rfl) ?_
 refine zdN T.d_word ?_
 exact (zf 0)
 exact zm
 exact fun _ _=>rfl
 refine zt ?_ ?_
 refine zM 3 ?_ ze4.nd
 refine zny (fun y m h=>zqK T h) ?_ (hr.mono (by decide)) zE ?_
 exact (zf 2)
 refine zh ?_ ?_
 exact (zf 1)
 exact zn
 refine zt ?_ ?_
 refine zV ?_ ?_ ?_
 refine yd zca ?_ ?_
 refine zH (zqP T) (hr.mono (by decide)) zE ?_
 refine zh ?_ ?_
 exact (zf 3)
 exact zn
 exact (zn6 T.c_MOST_PARTS)
 refine zy ?_
 refine zaq (zbm T) ?_ (hr.mono (by decide)) zE rfl
 exact zW
 exact zY
 refine zy ?_
 refine zL ?_
 exact (zf 3)
def zad (c:Str):Option (List PV->Mo PV):=if c = "Op" then some m_Op_answer else none
theorem zqR (T:Txt w K mg) {c:Str} {m:List PV->Mo PV} (h:zad c=some m):MOk P w K mg base c "answer" 5 m:=by
 unfold zad at h
 by_cases e0:c = "Op"
 ·rw [if_pos e0] at h;cases h;rw [e0];exact (zqQ T).mono (by decide)
 rw [if_neg e0] at h
 cases h
theorem zbw:FnScope ["_law_op", "_law_values", "_law_caught", "_law_found", "e"] ["_law_op", "_law_values"] (zB zeB):=⟨rfl,rfl,rfl,by decide +kernel,rfl,by decide +kernel,by decide +kernel⟩
def ze7:zd->Mo Fl :=
  (zI (yb (ze (mC (.str "fault")) (ze (zc 2) zj))))
def ze8:zd->Mo Fl :=
  zp (zN (mB (zg zbe (zc 2) (mC .non)))
  (zI (yb (ze (mC (.str "told")) (ze (zc 3) zj))))
  zQ) (ze7)
def ze9:zd->Mo Fl :=
  zp (za4 3 4 "Fault" (xMeth "answer" zad (zc 0) (ze (zc 1) zj))
  (zx 2 (jc (fldAt "word" insOf excOf) (zc 4)))) (ze8)
def zfa:zd->Mo Fl :=
  zp (zx 3 (mC .non)) (ze9)
def zfb:zd->Mo Fl :=
  zp (zx 2 (mC .non)) (zfa)
def yC:List PV->Mo PV:=zF 2 5 (zfb)
theorem zae (T:Txt w K mg):FOk P w K mg base "_law_asked" 6 yC:=T.f__law_asked.ok (k:=5) zbw fun f cdv A outer s H E hr =>
  by
 refine zt ?_ ?_
 refine zM 2 ?_ zbw.nd
 exact zdA
 refine zt ?_ ?_
 refine zM 3 ?_ zbw.nd
 exact zdA
 refine zt ?_ ?_
 refine zn7 3 4 T.x_Fault.tr ?_ ?_ zbw.nd
 refine zn0 (fun c m h=>zqR T h) ?_ (hr.mono (by decide)) ?_
 exact (zf 0)
 refine zh ?_ ?_
 exact (zf 1)
 exact zn
 intro _
 refine zy ?_
 refine zM 2 ?_ zbw.nd
 refine zdN T.d_word ?_
 exact (zf 4)
 refine zt ?_ ?_
 refine zV ?_ ?_ ?_
 refine yd zoQ ?_ ?_
 exact (zf 2)
 exact zdA
 refine zy ?_
 refine zL ?_
 refine yn ?_
 refine zh ?_ ?_
 exact zW
 refine zh ?_ ?_
 exact (zf 3)
 exact zn
 exact zY
 refine zy ?_
 refine zL ?_
 refine yn ?_
 refine zh ?_ ?_
 exact zW
 refine zh ?_ ?_
 exact (zf 2)
 exact zn
theorem zqS:FnScope ["_law_word", "_law_row", "_law_value", "_law_at"] ["_law_word", "_law_row", "_law_value", "_law_at"] (zB zeC):=⟨rfl,rfl,rfl,by decide +kernel,rfl,by decide +kernel,by decide +kernel⟩
def zqT:zd->Mo Fl :=
  (zI (yb (ze (zc 1) zj)))
def zqU:zd->Mo Fl :=
  zp (zN (mB (zg yh (zc 0) (mC (.str "put"))))
  (zI (yb (ze (zc 1) (ze (zc 3) (ze (zg zq (zc 2) (mC (.int 0))) zj)))))
  zQ) (zqT)
def zqV:zd->Mo Fl :=
  zp (zN (mB (zg yh (zc 0) (mC (.str "item"))))
  (zI (yb (ze (zc 1) (ze (zc 3) zj))))
  zQ) (zqU)
def zqW:zd->Mo Fl :=
  zp (zN (mB (zg yh (zc 0) (mC (.str "front"))))
  (zI (yb (ze (zg zq (zc 2) (mC (.int 0))) (ze (zc 1) zj))))
  zQ) (zqV)
def zbx:List PV->Mo PV:=zF 4 4 (zqW)
theorem zfc (T:Txt w K mg):FOk P w K mg base "_law_row_values" 1 zbx:=T.f__law_row_values.ok (k:=0) zqS fun f cdv A outer s H E hr =>
  by
 refine zt ?_ ?_
 refine zV ?_ ?_ ?_
 refine yd (yH (zw hr)) ?_ ?_
 exact (zf 0)
 exact zW
 refine zy ?_
 refine zL ?_
 refine yn ?_
 refine zh ?_ ?_
 refine zK ?_ ?_ ?_ ?_
 exact (zO (zw hr))
 exact (zf 2)
 exact zm
 exact fun _ _=>rfl
 refine zh ?_ ?_
 exact (zf 1)
 exact zn
 exact zY
 refine zt ?_ ?_
 refine zV ?_ ?_ ?_
 refine yd (yH (zw hr)) ?_ ?_
 exact (zf 0)
 exact zW
 refine zy ?_
 refine zL ?_
 refine yn ?_
 refine zh ?_ ?_
 exact (zf 1)
 refine zh ?_ ?_
 exact (zf 3)
 exact zn
 exact zY
 refine zt ?_ ?_
 refine zV ?_ ?_ ?_
 refine yd (yH (zw hr)) ?_ ?_
 exact (zf 0)
 exact zW
 refine zy ?_
 refine zL ?_
 refine yn ?_
 refine zh ?_ ?_
 exact (zf 1)
 refine zh ?_ ?_
 exact (zf 3)
 refine zh ?_ ?_
 refine zK ?_ ?_ ?_ ?_
 exact (zO (zw hr))
 exact (zf 2)
 exact zm
 exact fun _ _=>rfl
 exact zn
 exact zY
 refine zy ?_
 refine zL ?_
 refine yn ?_
 refine zh ?_ ?_
 exact (zf 1)
 exact zn
theorem zc7:FnScope ["_law_found", "_law_due", "_law_key", "_law_k"] ["_law_found", "_law_due"] (zB zeD):=⟨rfl,rfl,rfl,by decide +kernel,rfl,by decide +kernel,by decide +kernel⟩
def ziE (mr:List PV->Mo PV):zd->Mo Fl :=
  (zI (jY (zl (yA isT) (ze (zc 0) (ze (mC (.ty "int")) zj))) (jY (zdC (zl (yA isT) (ze (zc 0) (ze (mC (.ty "bool")) zj)))) (zg wH (zc 0) (zc 1)))))
def zfd (mr:List PV->Mo PV):zd->Mo Fl :=
  zp (zN (mB (zl (yA isT) (ze (zc 1) (ze (mC (.ty "str")) zj))))
  (zI (jY (zl (yA isT) (ze (zc 0) (ze (mC (.ty "str")) zj))) (zg wH (zc 0) (zc 1))))
  zQ) (ziE mr)
def zc8 (mr:List PV->Mo PV):zd->Mo Fl :=
  zp (zN (mB (zl (yA isT) (ze (zc 1) (ze (mC (.ty "tuple")) zj))))
  (zp (zN (jN (je (mB (zl (yA isT) (ze (zc 0) (ze (mC (.ty "tuple")) zj))))) (mB (zg yV (zl zS (ze (zc 0) zj)) (zl zS (ze (zc 1) zj)))))
  (zI (mC (.bl false)))
  zQ)
  (zp (jH (iRng1 (ze (zl zS (ze (zc 1) zj)) zj)) (gN 3)
  (zN (je (mB (zl mr (ze (zg yW (zc 0) (zc 3)) (ze (zg yW (zc 1) (zc 3)) zj)))))
  (zI (mC (.bl false)))
  zQ))
  (zI (mC (.bl true)))))
  zQ) (zfd mr)
def zaf (mr:List PV->Mo PV):zd->Mo Fl :=
  zp (zN (mB (zl (yA isT) (ze (zc 1) (ze (mC (.ty "dict")) zj))))
  (zp (zN (jN (je (mB (zl (yA isT) (ze (zc 0) (ze (mC (.ty "dict")) zj))))) (mB (zg yV (zl zS (ze (zc 0) zj)) (zl zS (ze (zc 1) zj)))))
  (zI (mC (.bl false)))
  zQ)
  (zp (zcz (zc 1) (gN 2)
  (zN (jN (mB (zg (j5 true) (zc 2) (zc 0))) (je (mB (zl mr (ze (zg yW (zc 0) (zc 2)) (ze (zg yW (zc 1) (zc 2)) zj))))))
  (zI (mC (.bl false)))
  zQ))
  (zI (mC (.bl true)))))
  zQ) (zc8 mr)
def wu (mr:List PV->Mo PV):List PV->Mo PV:=zF 2 4 (zaf mr)
theorem zqX (T:Txt w K mg) {k:Nat} (hk:1<=k) {mr:List PV->Mo PV} (hmr:FOk P w K mg base "_law_alike" k mr):FOk P w K mg base "_law_alike" (k+1) (wu mr):=T.f__law_alike.ok (k:=k+0) zc7 fun f cdv A outer s H E hr =>
  by
 refine zt ?_ ?_
 refine zV ?_ ?_ ?_
 refine jp ?_
 refine zX (jC T.is) T.b_isinstance jD ?_
 refine zh ?_ ?_
 exact (zf 1)
 refine zh ?_ ?_
 exact (jB T.b_dict za5)
 exact zn
 refine zt ?_ ?_
 refine zV ?_ ?_ ?_
 refine jX ?_
 refine zb7 ?_ ?_
 refine wC ?_
 refine jp ?_
 refine zX (jC T.is) T.b_isinstance jD ?_
 refine zh ?_ ?_
 exact (zf 0)
 refine zh ?_ ?_
 exact (jB T.b_dict za5)
 exact zn
 refine zb6 ?_
 refine yd (wX (zw hr)) ?_ ?_
 refine zX yy T.b_len yw ?_
 refine zh ?_ ?_
 exact (zf 0)
 exact zn
 refine zX yy T.b_len yw ?_
 refine zh ?_ ?_
 exact (zf 1)
 exact zn
 refine zy ?_
 refine zL ?_
 exact wB
 exact zY
 refine zt ?_ ?_
 refine zpq (jW rfl rfl) rfl ?_ ?_ ?_
 exact (zf 1)
 exact (wE 2 zc7.nd)
 refine zy ?_
 refine zV ?_ ?_ ?_
 refine jX ?_
 refine zb7 ?_ ?_
 refine yd (zpF (zw hr)) ?_ ?_
 exact (zf 2)
 exact (zf 0)
 refine zb6 ?_
 refine wC ?_
 refine jp ?_
 refine zH hmr (hr.mono (by omega)) zE ?_
 refine zh ?_ ?_
 refine zK ?_ ?_ ?_ ?_
 exact (zcA (zw hr))
 exact (zf 0)
 exact (zf 2)
 exact fun _ _=>rfl
 refine zh ?_ ?_
 refine zK ?_ ?_ ?_ ?_
 exact (zcA (zw hr))
 exact (zf 1)
 exact (zf 2)
 exact fun _ _=>rfl
 exact zn
 refine zy ?_
 refine zL ?_
 exact wB
 exact zY
 refine zy ?_
 refine zL ?_
 exact wB
 exact zY
 refine zt ?_ ?_
 refine zV ?_ ?_ ?_
 refine jp ?_
 refine zX (jC T.is) T.b_isinstance jD ?_
 refine zh ?_ ?_
 exact (zf 1)
 refine zh ?_ ?_
 exact (jB T.b_tuple jR)
 exact zn
 refine zt ?_ ?_
 refine zV ?_ ?_ ?_
 refine jX ?_
 refine zb7 ?_ ?_
 refine wC ?_
 refine jp ?_
 refine zX (jC T.is) T.b_isinstance jD ?_
 refine zh ?_ ?_
 exact (zf 0)
 refine zh ?_ ?_
 exact (jB T.b_tuple jR)
 exact zn
 refine zb6 ?_
 refine yd (wX (zw hr)) ?_ ?_
 refine zX yy T.b_len yw ?_
 refine zh ?_ ?_
 exact (zf 0)
 exact zn
 refine zX yy T.b_len yw ?_
 refine zh ?_ ?_
 exact (zf 1)
 exact zn
 refine zy ?_
 refine zL ?_
 exact wB
 exact zY
 refine zt ?_ ?_
 refine wF (jW rfl rfl) rfl ?_ ?_ ?_
 refine wj T.b_range ?_
 refine zh ?_ ?_
 refine zX yy T.b_len yw ?_
 refine zh ?_ ?_
 exact (zf 1)
 exact zn
 exact zn
 exact (wE 3 zc7.nd)
 refine zy ?_
 refine zV ?_ ?_ ?_
 refine wC ?_
 refine jp ?_
 refine zH hmr (hr.mono (by omega)) zE ?_
 refine zh ?_ ?_
 refine zK ?_ ?_ ?_ ?_
 exact (zcA (zw hr))
 exact (zf 0)
 exact (zf 3)
 exact fun _ _=>rfl
 refine zh ?_ ?_
 refine zK ?_ ?_ ?_ ?_
 exact (zcA (zw hr))
 exact (zf 1)
 exact (zf 3)
 exact fun _ _=>rfl
 exact zn
 refine zy ?_
 refine zL ?_
 exact wB
 exact zY
 refine zy ?_
 refine zL ?_
 exact wB
 exact zY
 refine zt ?_ ?_
 refine zV ?_ ?_ ?_
 refine jp ?_
 refine zX (jC T.is) T.b_isinstance jD ?_
 refine zh ?_ ?_
 exact (zf 1)
 refine zh ?_ ?_
 exact (jB T.b_str zdS)
 exact zn
 refine zy ?_
 refine zL ?_
 refine wU ?_ ?_
 refine zX (jC T.is) T.b_isinstance jD ?_
 refine zh ?_ ?_
 exact (zf 0)
 refine zh ?_ ?_
 exact (jB T.b_str zdS)
 exact zn
 refine zb8 ?_
 refine zdD (zhF (zw hr)) ?_ ?_
 exact (zf 0)
 exact (zf 1)
 exact zY
 refine zy ?_
 refine zL ?_
 refine wU ?_ ?_
 refine zX (jC T.is) T.b_isinstance jD ?_
 refine zh ?_ ?_
 exact (zf 0)
 refine zh ?_ ?_
 exact (jB T.b_int zgK)
 exact zn
 refine wU ?_ ?_
 refine zm9 ?_
 refine zX (jC T.is) T.b_isinstance jD ?_
 refine zh ?_ ?_
 exact (zf 0)
 refine zh ?_ ?_
 exact (jB T.b_bool zn8)
 exact zn
 refine zb8 ?_
 refine zdD (zhF (zw hr)) ?_ ?_
 exact (zf 0)
 exact (zf 1)
def yL:Nat->List PV->Mo PV
 | 0=>zF 2 4 zgJ
 | n+1=>wu (yL n)
theorem wv (T:Txt w K mg):∀n,FOk P w K mg base "_law_alike" (1+1+1*n) (yL n)
 | 0=>T.f__law_alike.ok (k:=1) zc7 fun f cdv A outer s H E hr=>zoY
 | n+1=>(zqX T (by omega) (wv T n)).mono (by omega)
theorem jv:FnScope ["_law_script", "_law_word", "_law_held_here", "_law_at", "_law_total", "_law_value", "_law_row", "_law_others", "_law_op", "_law_due", "_law_found", "_law_between", "_law_again", "_law_copy"] ["_law_script", "_law_word"] (zB zaG):=⟨rfl,rfl,rfl,by decide +kernel,rfl,by decide +kernel,by decide +kernel⟩
def zqY:zd->Mo Fl :=
  (zI (jY (zl (yL 64) (ze (zc 10) (ze (zc 9) zj))) (jY (zl (yL 64) (ze (zc 12) (ze (zc 9) zj))) (zl (yL 64) (ze (zc 6) (ze (zc 13) zj))))))
def zqZ:zd->Mo Fl :=
  zp (zx 13 (zl jP (ze (yr (yF (zl wJ (ze (zc 0) zj))) (zg zq (zc 0) (mC (.int 0)))) zj))) (zqY)
def zq0:zd->Mo Fl :=
  zp (zx 12 (zl yC (ze (zc 8) (ze (zl zbx (ze (zc 1) (ze (zc 6) (ze (zc 5) (ze (zc 3) zj))))) zj)))) (zqZ)
def zq1:zd->Mo Fl :=
  zp (zN (je (mB (zl (yL 64) (ze (zc 11) (ze (zl wL (ze (zc 1) (ze (zc 7) (ze (zc 5) (ze (zc 3) zj))))) zj)))))
  (zI (mC (.bl false)))
  zQ) (zq0)
def zq2:zd->Mo Fl :=
  zp (zx 11 (zl yC (ze (zc 8) (ze (zl zbx (ze (zc 1) (ze (zg zP (yo (zc 6) (pSome (mC (.int 1))) pNone) (yb (ze (mC (.int 7)) zj))) (ze (zc 5) (ze (zc 3) zj))))) zj)))) (zq1)
def zq3:zd->Mo Fl :=
  zp (zx 10 (zl yC (ze (zc 8) (ze (zl zbx (ze (zc 1) (ze (zc 6) (ze (zc 5) (ze (zc 3) zj))))) zj)))) (zq2)
def zq4:zd->Mo Fl :=
  zp (zx 9 (zl wL (ze (zc 1) (ze (zc 2) (ze (zc 5) (ze (zc 3) zj)))))) (zq3)
def zq5:zd->Mo Fl :=
  zp (zx 8 (zl wK (ze (zc 1) zj))) (zq4)
def zq6:zd->Mo Fl :=
  zp (zx 7 (zg zP (yo (zc 2) (pSome (mC (.int 1))) pNone) (ji (ze (yb (ze (mC (.int 7)) (ze (mC (.int 1)) zj))) zj)))) (zq5)
def zq7:zd->Mo Fl :=
  zp (zx 6 (zl jP (ze (yr (yF (zc 2)) (zg zq (zc 0) (mC (.int 0)))) zj))) (zq6)
def zq8:zd->Mo Fl :=
  zp (zx 5 (zl zcU (ze (zc 0) (ze (zc 4) zj)))) (zq7)
def zq9:zd->Mo Fl :=
  zp (zN (jd (mB (zg yh (zc 1) (mC (.str "put")))) (mB (we oLe jg (mC (.int 0)) (zc 3) (zl zS (ze (zc 2) zj)))))
  (zx 4 (zg yD (zc 4) (zg zq (zg zq (zc 2) (zc 3)) (mC (.int 1)))))
  zQ) (zq8)
def zra:zd->Mo Fl :=
  zp (zx 4 (zg zP (mC (.int 1)) (zl jI (ze (yr (yF (zc 2)) (zg zq (zc 0) (mC (.int 1)))) zj)))) (zq9)
def zrb:zd->Mo Fl :=
  zp (zx 3 (zl zeN (ze (zl yt (ze (zc 0) (ze (mC (.int 3)) zj))) (ze (zl zS (ze (zc 2) zj)) zj)))) (zra)
def zrc:zd->Mo Fl :=
  zp (zx 2 (zl wJ (ze (zc 0) zj))) (zrb)
def zfe:List PV->Mo PV:=zF 2 14 (zrc)
theorem zrd (T:Txt w K mg):FOk P w K mg base "_law_of_rows" 67 zfe:=T.f__law_of_rows.ok (k:=66) jv fun f cdv A outer s H E hr =>
  by
 refine zt ?_ ?_
 refine zM 2 ?_ jv.nd
 refine zH (zcS T) (hr.mono (by decide)) zE ?_
 refine zh ?_ ?_
 exact (zf 0)
 exact zn
 refine zt ?_ ?_
 refine zM 3 ?_ jv.nd
 refine zH (zp1 T) (hr.mono (by decide)) zE ?_
 refine zh ?_ ?_
 refine zH (jh T) (hr.mono (by decide)) zE ?_
 refine zh ?_ ?_
 exact (zf 0)
 refine zh ?_ ?_
 exact zm
 exact zn
 refine zh ?_ ?_
 refine zX yy T.b_len yw ?_
 refine zh ?_ ?_
 exact (zf 2)
 exact zn
 exact zn
 refine zt ?_ ?_
 refine zM 4 ?_ jv.nd
 refine zu yg ?_ ?_
 exact zm
 refine zX (zaw rfl) T.b_sum zax ?_
 refine zh ?_ ?_
 refine js (N:=["_law_script", "_law_word", "_law_held_here", "_law_at", "_law_total", "_law_value", "_law_row", "_law_others", "_law_op", "_law_due", "_law_found", "_law_between", "_law_again", "_law_copy"]) rfl (by exact ⟨rfl,by decide +kernel,by decide +kernel,rfl,by show ∀y:Str×NameKind,y∈_->y.2=NameKind.free->List.lookup y.1 (zB zaG).names=some NameKind.cell;decide +kernel⟩) rfl (by decide +kernel) ?_ ?_
 refine jr ?_
 exact (zf 2)
 intro _ _ _ _ _
 refine zK ?_ ?_ ?_ ?_
 exact (zO (zw hr))
 exact (zf 0)
 exact zm
 exact fun _ _=>rfl
 exact zn
 refine zt ?_ ?_
 refine zV ?_ ?_ ?_
 refine jX ?_
 refine zao ?_ ?_
 refine yd (yH (zw hr)) ?_ ?_
 exact (zf 1)
 exact zW
 refine zan ?_
 refine zdE zdH wD ?_ ?_ ?_
 exact zm
 exact (zf 3)
 refine zX yy T.b_len yw ?_
 refine zh ?_ ?_
 exact (zf 2)
 exact zn
 refine zy ?_
 refine zM 4 ?_ jv.nd
 refine zu jq ?_ ?_
 exact (zf 4)
 refine zK ?_ ?_ ?_ ?_
 exact (zO (zw hr))
 refine zK ?_ ?_ ?_ ?_
 exact (zO (zw hr))
 exact (zf 2)
 exact (zf 3)
 exact fun _ _=>rfl
 exact zm
 exact fun _ _=>rfl
 exact zY
 refine zt ?_ ?_
 refine zM 5 ?_ jv.nd
 refine zH (zh6 T) (hr.mono (by decide)) zE ?_
 refine zh ?_ ?_
 exact (zf 0)
 refine zh ?_ ?_
 exact (zf 4)
 exact zn
 refine zt ?_ ?_
 refine zM 6 ?_ jv.nd
 refine jZ wZ T.b_tuple jR ?_
 refine zh ?_ ?_
 refine js (N:=["_law_script", "_law_word", "_law_held_here", "_law_at", "_law_total", "_law_value", "_law_row", "_law_others", "_law_op", "_law_due", "_law_found", "_law_between", "_law_again", "_law_copy"]) rfl (by exact ⟨rfl,by decide +kernel,by decide +kernel,rfl,by show ∀y:Str×NameKind,y∈_->y.2=NameKind.free->List.lookup y.1 (zB zaG).names=some NameKind.cell;decide +kernel⟩) rfl (by decide +kernel) ?_ ?_
 refine jr ?_
 exact (zf 2)
 intro _ _ _ _ _
 refine zK ?_ ?_ ?_ ?_
 exact (zO (zw hr))
 exact (zf 0)
 exact zm
 exact fun _ _=>rfl
 exact zn
 refine zt ?_ ?_
 refine zM 7 ?_ jv.nd
 refine zu yg ?_ ?_
 refine yK ?_ ?_ ?_
 exact (zf 2)
 refine yJ ?_
 exact zm
 exact yI
 refine jO ?_
 refine zh ?_ ?_
 refine yn ?_
 refine zh ?_ ?_
 exact zm
 refine zh ?_ ?_
 exact zm
 exact zn
 exact zn
 refine zt ?_ ?_
 refine zM 8 ?_ jv.nd
 refine zH (zib T) (hr.mono (by decide)) zE ?_
 refine zh ?_ ?_
 exact (zf 1)
 exact zn
 refine zt ?_ ?_
 refine zM 9 ?_ jv.nd
 refine zH (zid T) (hr.mono (by decide)) zE ?_
 refine zh ?_ ?_
 exact (zf 1)
 refine zh ?_ ?_
 exact (zf 2)
 refine zh ?_ ?_
 exact (zf 5)
 refine zh ?_ ?_
 exact (zf 3)
 exact zn
 refine zt ?_ ?_
 refine zM 10 ?_ jv.nd
 refine zH (zae T) (hr.mono (by decide)) zE ?_
 refine zh ?_ ?_
 exact (zf 8)
 refine zh ?_ ?_
 refine zH (zfc T) (hr.mono (by decide)) zE ?_
 refine zh ?_ ?_
 exact (zf 1)
 refine zh ?_ ?_
 exact (zf 6)
 refine zh ?_ ?_
 exact (zf 5)
 refine zh ?_ ?_
 exact (zf 3)
 exact zn
 exact zn
 refine zt ?_ ?_
 refine zM 11 ?_ jv.nd
 refine zH (zae T) (hr.mono (by decide)) zE ?_
 refine zh ?_ ?_
 exact (zf 8)
 refine zh ?_ ?_
 refine zH (zfc T) (hr.mono (by decide)) zE ?_
 refine zh ?_ ?_
 exact (zf 1)
 refine zh ?_ ?_
 refine zu yg ?_ ?_
 refine yK ?_ ?_ ?_
 exact (zf 6)
 refine yJ ?_
 exact zm
 exact yI
 refine yn ?_
 refine zh ?_ ?_
 exact zm
 exact zn
 refine zh ?_ ?_
 exact (zf 5)
 refine zh ?_ ?_
 exact (zf 3)
 exact zn
 exact zn
 refine zt ?_ ?_
 refine zV ?_ ?_ ?_
 refine wC ?_
 refine jp ?_
 refine zH (wv T 64) (hr.mono (by decide)) zE ?_
 refine zh ?_ ?_
 exact (zf 11)
 refine zh ?_ ?_
 refine zH (zid T) (hr.mono (by decide)) zE ?_
 refine zh ?_ ?_
 exact (zf 1)
 refine zh ?_ ?_
 exact (zf 7)
 refine zh ?_ ?_
 exact (zf 5)
 refine zh ?_ ?_
 exact (zf 3)
 exact zn
 exact zn
 refine zy ?_
 refine zL ?_
 exact wB
 exact zY
 refine zt ?_ ?_
 refine zM 12 ?_ jv.nd
 refine zH (zae T) (hr.mono (by decide)) zE ?_
 refine zh ?_ ?_
 exact (zf 8)
 refine zh ?_ ?_
 refine zH (zfc T) (hr.mono (by decide)) zE ?_
 refine zh ?_ ?_
 exact (zf 1)
 refine zh ?_ ?_
 exact (zf 6)
 refine zh ?_ ?_
 exact (zf 5)
 refine zh ?_ ?_
 exact (zf 3)
 exact zn
 exact zn
 refine zt ?_ ?_
 refine zM 13 ?_ jv.nd
 refine jZ wZ T.b_tuple jR ?_
 refine zh ?_ ?_
 refine js (N:=["_law_script", "_law_word", "_law_held_here", "_law_at", "_law_total", "_law_value", "_law_row", "_law_others", "_law_op", "_law_due", "_law_found", "_law_between", "_law_again", "_law_copy"]) rfl (by exact ⟨rfl,by decide +kernel,by decide +kernel,rfl,by show ∀y:Str×NameKind,y∈_->y.2=NameKind.free->List.lookup y.1 (zB zaG).names=some NameKind.cell;decide +kernel⟩) rfl (by decide +kernel) ?_ ?_
 refine jr ?_
 refine zH (zcS T) (hr.mono (by decide)) zE ?_
 refine zh ?_ ?_
 exact (zf 0)
 exact zn
 intro _ _ _ _ _
 refine zK ?_ ?_ ?_ ?_
 exact (zO (zw hr))
 exact (zf 0)
 exact zm
 exact fun _ _=>rfl
 exact zn
 refine zy ?_
 refine zL ?_
 refine wU ?_ ?_
 refine zH (wv T 64) (hr.mono (by decide)) zE ?_
 refine zh ?_ ?_
 exact (zf 10)
 refine zh ?_ ?_
 exact (zf 9)
 exact zn
 refine wU ?_ ?_
 refine zH (wv T 64) (hr.mono (by decide)) zE ?_
 refine zh ?_ ?_
 exact (zf 12)
 refine zh ?_ ?_
 exact (zf 9)
 exact zn
 refine zb8 ?_
 refine zH (wv T 64) (hr.mono (by decide)) zE ?_
 refine zh ?_ ?_
 exact (zf 6)
 refine zh ?_ ?_
 exact (zf 13)
 exact zn
theorem zby:FnScope ["_law_word", "_law_keys_here", "_law_held_here", "_law_value", "_law_key", "_law_total", "_law_record_here", "_law_k"] ["_law_word", "_law_keys_here", "_law_held_here", "_law_value", "_law_key"] (zB zeE):=⟨rfl,rfl,rfl,by decide +kernel,rfl,by decide +kernel,by decide +kernel⟩
def zre:zd->Mo Fl :=
  (zI (yb (ze (mC (.str "told")) (ze (zc 6) zj))))
def zrf:zd->Mo Fl :=
  zp (zN (mB (zg wV (zc 5) (mC (.int 60))))
  (zI (yb (ze (mC (.str "fault")) (ze (mC (.str "large")) zj))))
  zQ) (zre)
def zrg:zd->Mo Fl :=
  zp (wo (zc 6) (zc 4) (zg zq (zc 3) (mC (.int 0)))) (zrf)
def zrh:zd->Mo Fl :=
  zp (jH (iRng1 (ze (zl zS (ze (zc 1) zj)) zj)) (gN 7)
  (zN (mB (zg yV (zg zq (zc 1) (zc 7)) (zc 4)))
  (zp (wo (zc 6) (zg zq (zc 1) (zc 7)) (zg zq (zg zq (zc 2) (zc 7)) (mC (.int 0))))
  (zx 5 (zg zP (zc 5) (zg zq (zg zq (zc 2) (zc 7)) (mC (.int 1))))))
  zQ)) (zrg)
def zri:zd->Mo Fl :=
  zp (zx 6 zcq) (zrh)
def zrj:zd->Mo Fl :=
  zp (zx 5 (zg zP (mC (.int 1)) (zg zq (zc 3) (mC (.int 1))))) (zri)
def zrk:zd->Mo Fl :=
  zp (zN (mB (zg yh (zc 0) (mC (.str "field"))))
  (zp (zN (mB (zg (yx true) (zc 4) (zc 1)))
  (zI (yb (ze (mC (.str "fault")) (ze (mC (.str "field")) zj))))
  zQ)
  (zI (yb (ze (mC (.str "told")) (ze (zg zq (zg zq (zc 2) (zcD (zc 1) (zc 4))) (mC (.int 0))) zj)))))
  zQ) (zrj)
def zaK:List PV->Mo PV:=zF 5 8 (zrk)
theorem ziF (T:Txt w K mg):FOk P w K mg base "_law_field_due" 1 zaK:=T.f__law_field_due.ok (k:=0) zby fun f cdv A outer s H E hr =>
  by
 refine zt ?_ ?_
 refine zV ?_ ?_ ?_
 refine yd (yH (zw hr)) ?_ ?_
 exact (zf 0)
 exact zW
 refine zt ?_ ?_
 refine zV ?_ ?_ ?_
 refine yd (zhf (zw hr)) ?_ ?_
 exact (zf 4)
 exact (zf 1)
 refine zy ?_
 refine zL ?_
 refine yn ?_
 refine zh ?_ ?_
 exact zW
 refine zh ?_ ?_
 exact zW
 exact zn
 exact zY
 refine zy ?_
 refine zL ?_
 refine yn ?_
 refine zh ?_ ?_
 exact zW
 refine zh ?_ ?_
 refine zK ?_ ?_ ?_ ?_
 exact (zO (zw hr))
 refine zK ?_ ?_ ?_ ?_
 exact (zO (zw hr))
 exact (zf 2)
 refine zpC ?_ ?_
 exact (zf 1)
 exact (zf 4)
 exact fun _ _=>rfl
 exact zm
 exact fun _ _=>rfl
 exact zn
 exact zY
 refine zt ?_ ?_
 refine zM 5 ?_ zby.nd
 refine zu yg ?_ ?_
 exact zm
 refine zK ?_ ?_ ?_ ?_
 exact (zO (zw hr))
 exact (zf 3)
 exact zm
 exact fun _ _=>rfl
 refine zt ?_ ?_
 refine zM 6 ?_ zby.nd
 exact zha
 refine zt ?_ ?_
 refine wF (jW rfl rfl) rfl ?_ ?_ ?_
 refine wj T.b_range ?_
 refine zh ?_ ?_
 refine zX yy T.b_len yw ?_
 refine zh ?_ ?_
 exact (zf 1)
 exact zn
 exact zn
 exact (wE 7 zby.nd)
 refine zy ?_
 refine zV ?_ ?_ ?_
 refine yd (wX (zw hr)) ?_ ?_
 refine zK ?_ ?_ ?_ ?_
 exact (zO (zw hr))
 exact (zf 1)
 exact (zf 7)
 exact fun _ _=>rfl
 exact (zf 4)
 refine zt ?_ ?_
 refine zcr ?_ ?_ ?_ ?_ ?_
 exact (zw hr)
 exact (zf 6)
 refine zK ?_ ?_ ?_ ?_
 exact (zO (zw hr))
 exact (zf 1)
 exact (zf 7)
 exact fun _ _=>rfl
 refine zK ?_ ?_ ?_ ?_
 exact (zO (zw hr))
 refine zK ?_ ?_ ?_ ?_
 exact (zO (zw hr))
 exact (zf 2)
 exact (zf 7)
 exact fun _ _=>rfl
 exact zm
 exact fun _ _=>rfl
 rfl
 refine zy ?_
 refine zM 5 ?_ zby.nd
 refine zu yg ?_ ?_
 exact (zf 5)
 refine zK ?_ ?_ ?_ ?_
 exact (zO (zw hr))
 refine zK ?_ ?_ ?_ ?_
 exact (zO (zw hr))
 exact (zf 2)
 exact (zf 7)
 exact fun _ _=>rfl
 exact zm
 exact fun _ _=>rfl
 exact zY
 refine zt ?_ ?_
 refine zcr ?_ ?_ ?_ ?_ ?_
 exact (zw hr)
 exact (zf 6)
 exact (zf 4)
 refine zK ?_ ?_ ?_ ?_
 exact (zO (zw hr))
 exact (zf 3)
 exact zm
 exact fun _ _=>rfl
 rfl
 refine zt ?_ ?_
 refine zV ?_ ?_ ?_
 refine yd zca ?_ ?_
 exact (zf 5)
 exact zm
 refine zy ?_
 refine zL ?_
 refine yn ?_
 refine zh ?_ ?_
 exact zW
 refine zh ?_ ?_
 exact zW
 exact zn
 exact zY
 refine zy ?_
 refine zL ?_
 refine yn ?_
 refine zh ?_ ?_
 exact zW
 refine zh ?_ ?_
 exact (zf 6)
 exact zn
theorem jw:FnScope ["_law_script", "_law_word", "_law_held_here", "_law_keys_here", "_law_key", "_law_value", "_law_record_here", "_law_values", "_law_due", "_law_op", "_law_found", "_law_between", "_law_again", "_law_copy"] ["_law_script", "_law_word"] (zB w9):=⟨rfl,rfl,rfl,by decide +kernel,rfl,by decide +kernel,by decide +kernel⟩
def zrl:zd->Mo Fl :=
  (zI (jY (zl (yL 64) (ze (zc 10) (ze (zc 8) zj))) (jY (zl (yL 64) (ze (zc 12) (ze (zc 8) zj))) (zl (yL 64) (ze (zc 6) (ze (zc 13) zj))))))
def zrm:zd->Mo Fl :=
  zp (zx 13 (zl wI (ze (zc 3) (ze (yr (yF (zl wJ (ze (zc 0) zj))) (zg zq (zc 0) (mC (.int 0)))) zj)))) (zrl)
def zrn:zd->Mo Fl :=
  zp (zx 12 (zl yC (ze (zc 9) (ze (zc 7) zj)))) (zrm)
def zro:zd->Mo Fl :=
  zp (zN (jd (mB (zg yh (zc 1) (mC (.str "set")))) (mB (zg yh (zg zq (zc 10) (mC (.int 0))) (mC (.str "told")))))
  (yR (zl yC (ze (zc 9) (ze (yb (ze (zg zq (zc 10) (mC (.int 1))) (ze (zg zq (zl jS (ze (zl yt (ze (zc 0) (ze (mC (.int 4)) zj))) (ze (mC (.int 10)) zj))) (mC (.int 9))) (ze (mC (.int 1)) zj)))) zj))))
  zQ) (zrn)
def zrp:zd->Mo Fl :=
  zp (zN (je (mB (zl (yL 64) (ze (zc 11) (ze (zl zaK (ze (zc 1) (ze (yo (zc 3) (pSome (mC (.int 1))) pNone) (ze (yo (zc 2) (pSome (mC (.int 1))) pNone) (ze (zc 5) (ze (zc 4) zj)))))) zj)))))
  (zI (mC (.bl false)))
  zQ) (zro)
def zrq:zd->Mo Fl :=
  zp (zx 11 (zl yC (ze (zc 9) (ze (zg zP (yb (ze (zl wI (ze (yo (zc 3) (pSome (mC (.int 1))) pNone) (ze (yr (yF (yo (zc 2) (pSome (mC (.int 1))) pNone)) (zg zq (zc 0) (mC (.int 0)))) zj))) zj)) (yo (zc 7) (pSome (mC (.int 1))) pNone)) zj)))) (zrp)
def zrr:zd->Mo Fl :=
  zp (zx 10 (zl yC (ze (zc 9) (ze (zc 7) zj)))) (zrq)
def zrs:zd->Mo Fl :=
  zp (zx 9 (zl wK (ze (zc 1) zj))) (zrr)
def zrt:zd->Mo Fl :=
  zp (zx 8 (zl zaK (ze (zc 1) (ze (zc 3) (ze (zc 2) (ze (zc 5) (ze (zc 4) zj))))))) (zrs)
def zru:zd->Mo Fl :=
  zp (zx 7 (yo (yb (ze (zc 6) (ze (zc 4) (ze (zg zq (zc 5) (mC (.int 0))) zj)))) pNone (pSome (zg yD (mC (.int 3)) (zl zdL (ze (zg yh (zc 1) (mC (.str "field"))) zj)))))) (zrt)
def zrv:zd->Mo Fl :=
  zp (zx 6 (zl wI (ze (zc 3) (ze (yr (yF (zc 2)) (zg zq (zc 0) (mC (.int 0)))) zj)))) (zru)
def zrw:zd->Mo Fl :=
  zp (zx 5 (zl zcU (ze (zc 0) (ze (zg zP (mC (.int 1)) (zl jI (ze (zbh (iRng1 (ze (zl zS (ze (zc 2) zj)) zj)) (mB (zg yV (zg zq (zc 4) (zc 0)) (zc 5))) (zg zq (zg zq (zc 3) (zc 0)) (mC (.int 1)))) zj))) zj)))) (zrv)
def zrx:zd->Mo Fl :=
  zp (zN (jd (mB (zg yh (zg zR (zg yf (zl yt (ze (zc 0) (ze (mC (.int 3)) zj))) (mC (.int 9))) (mC (.int 2))) (mC (.int 1)))) (mB (zg wV (zl zS (ze (zc 2) zj)) (mC (.int 0)))))
  (zx 4 (zg zq (zc 3) (zg zR (zg yf (zl yt (ze (zc 0) (ze (mC (.int 3)) zj))) (mC (.int 18))) (zl zS (ze (zc 2) zj)))))
  zQ) (zrw)
def zry:zd->Mo Fl :=
  zp (zx 4 (zg zq (zl jS (ze (zl yt (ze (zc 0) (ze (mC (.int 4)) zj))) (ze (mC (.int 9)) zj))) (zg zR (zl yt (ze (zc 0) (ze (mC (.int 3)) zj))) (mC (.int 9))))) (zrx)
def zrz:zd->Mo Fl :=
  zp (zx 3 (zl jS (ze (zl yt (ze (zc 0) (ze (mC (.int 4)) zj))) (ze (zl zS (ze (zc 2) zj)) zj)))) (zry)
def zrA:zd->Mo Fl :=
  zp (zx 2 (zl wJ (ze (zc 0) zj))) (zrz)
def zff:List PV->Mo PV:=zF 2 14 (zrA)
theorem zrB (T:Txt w K mg):FOk P w K mg base "_law_of_records" 67 zff:=T.f__law_of_records.ok (k:=66) jw fun f cdv A outer s H E hr =>
  by
 refine zt ?_ ?_
 refine zM 2 ?_ jw.nd
 refine zH (zcS T) (hr.mono (by decide)) zE ?_
 refine zh ?_ ?_
 exact (zf 0)
 exact zn
 refine zt ?_ ?_
 refine zM 3 ?_ jw.nd
 refine zH (zcQ T) (hr.mono (by decide)) zE ?_
 refine zh ?_ ?_
 refine zH (jh T) (hr.mono (by decide)) zE ?_
 refine zh ?_ ?_
 exact (zf 0)
 refine zh ?_ ?_
 exact zm
 exact zn
 refine zh ?_ ?_
 refine zX yy T.b_len yw ?_
 refine zh ?_ ?_
 exact (zf 2)
 exact zn
 exact zn
 refine zt ?_ ?_
 refine zM 4 ?_ jw.nd
 refine zK ?_ ?_ ?_ ?_
 exact (zO (zw hr))
 refine zH (zcQ T) (hr.mono (by decide)) zE ?_
 refine zh ?_ ?_
 refine zH (jh T) (hr.mono (by decide)) zE ?_
 refine zh ?_ ?_
 exact (zf 0)
 refine zh ?_ ?_
 exact zm
 exact zn
 refine zh ?_ ?_
 exact zm
 exact zn
 refine zu yi ?_ ?_
 refine zH (jh T) (hr.mono (by decide)) zE ?_
 refine zh ?_ ?_
 exact (zf 0)
 refine zh ?_ ?_
 exact zm
 exact zn
 exact zm
 exact fun _ _=>rfl
 refine zt ?_ ?_
 refine zV ?_ ?_ ?_
 refine jX ?_
 refine zao ?_ ?_
 refine yd (yH (zw hr)) ?_ ?_
 refine zu yi ?_ ?_
 refine zu yE ?_ ?_
 refine zH (jh T) (hr.mono (by decide)) zE ?_
 refine zh ?_ ?_
 exact (zf 0)
 refine zh ?_ ?_
 exact zm
 exact zn
 exact zm
 exact zm
 exact zm
 refine zan ?_
 refine yd zca ?_ ?_
 refine zX yy T.b_len yw ?_
 refine zh ?_ ?_
 exact (zf 2)
 exact zn
 exact zm
 refine zy ?_
 refine zM 4 ?_ jw.nd
 refine zK ?_ ?_ ?_ ?_
 exact (zO (zw hr))
 exact (zf 3)
 refine zu yi ?_ ?_
 refine zu yE ?_ ?_
 refine zH (jh T) (hr.mono (by decide)) zE ?_
 refine zh ?_ ?_
 exact (zf 0)
 refine zh ?_ ?_
 exact zm
 exact zn
 exact zm
 refine zX yy T.b_len yw ?_
 refine zh ?_ ?_
 exact (zf 2)
 exact zn
 exact fun _ _=>rfl
 exact zY
 refine zt ?_ ?_
 refine zM 5 ?_ jw.nd
 refine zH (zh6 T) (hr.mono (by decide)) zE ?_
 refine zh ?_ ?_
 exact (zf 0)
 refine zh ?_ ?_
 refine zu yg ?_ ?_
 exact zm
 refine zX (zaw rfl) T.b_sum zax ?_
 refine zh ?_ ?_
 refine zpy (N:=["_law_script", "_law_word", "_law_held_here", "_law_keys_here", "_law_key", "_law_value", "_law_record_here", "_law_values", "_law_due", "_law_op", "_law_found", "_law_between", "_law_again", "_law_copy"]) rfl (by exact ⟨rfl,by decide +kernel,by decide +kernel,by show ∀y:Str×NameKind,y∈_->y.2=NameKind.free->List.lookup y.1 (zB w9).names=some NameKind.cell;decide +kernel⟩) rfl (by decide +kernel) ?_ ?_ ?_
 refine wj T.b_range ?_
 refine zh ?_ ?_
 refine zX yy T.b_len yw ?_
 refine zh ?_ ?_
 exact (zf 2)
 exact zn
 exact zn
 intro _ _ _ _ _
 refine yd (wX (zw hr)) ?_ ?_
 refine zK ?_ ?_ ?_ ?_
 exact (zO (zw hr))
 exact (zf 4)
 exact (zf 0)
 exact fun _ _=>rfl
 exact (zf 5)
 intro _ _ _ _ _
 refine zK ?_ ?_ ?_ ?_
 exact (zO (zw hr))
 refine zK ?_ ?_ ?_ ?_
 exact (zO (zw hr))
 exact (zf 3)
 exact (zf 0)
 exact fun _ _=>rfl
 exact zm
 exact fun _ _=>rfl
 exact zn
 exact zn
 refine zt ?_ ?_
 refine zM 6 ?_ jw.nd
 refine zH (zcP T) (hr.mono (by decide)) zE ?_
 refine zh ?_ ?_
 exact (zf 3)
 refine zh ?_ ?_
 refine js (N:=["_law_script", "_law_word", "_law_held_here", "_law_keys_here", "_law_key", "_law_value", "_law_record_here", "_law_values", "_law_due", "_law_op", "_law_found", "_law_between", "_law_again", "_law_copy"]) rfl (by exact ⟨rfl,by decide +kernel,by decide +kernel,rfl,by show ∀y:Str×NameKind,y∈_->y.2=NameKind.free->List.lookup y.1 (zB w9).names=some NameKind.cell;decide +kernel⟩) rfl (by decide +kernel) ?_ ?_
 refine jr ?_
 exact (zf 2)
 intro _ _ _ _ _
 refine zK ?_ ?_ ?_ ?_
 exact (zO (zw hr))
 exact (zf 0)
 exact zm
 exact fun _ _=>rfl
 exact zn
 refine zt ?_ ?_
 refine zM 7 ?_ jw.nd
 refine yK ?_ ?_ ?_
 refine yn ?_
 refine zh ?_ ?_
 exact (zf 6)
 refine zh ?_ ?_
 exact (zf 4)
 refine zh ?_ ?_
 refine zK ?_ ?_ ?_ ?_
 exact (zO (zw hr))
 exact (zf 5)
 exact zm
 exact fun _ _=>rfl
 exact zn
 exact yI
 refine yJ ?_
 refine zu jq ?_ ?_
 exact zm
 refine jZ znv T.b_int zgK ?_
 refine zh ?_ ?_
 refine zdD (yH (zw hr)) ?_ ?_
 exact (zf 1)
 exact zW
 exact zn
 refine zt ?_ ?_
 refine zM 8 ?_ jw.nd
 refine zH (ziF T) (hr.mono (by decide)) zE ?_
 refine zh ?_ ?_
 exact (zf 1)
 refine zh ?_ ?_
 exact (zf 3)
 refine zh ?_ ?_
 exact (zf 2)
 refine zh ?_ ?_
 exact (zf 5)
 refine zh ?_ ?_
 exact (zf 4)
 exact zn
 refine zt ?_ ?_
 refine zM 9 ?_ jw.nd
 refine zH (zib T) (hr.mono (by decide)) zE ?_
 refine zh ?_ ?_
 exact (zf 1)
 exact zn
 refine zt ?_ ?_
 refine zM 10 ?_ jw.nd
 refine zH (zae T) (hr.mono (by decide)) zE ?_
 refine zh ?_ ?_
 exact (zf 9)
 refine zh ?_ ?_
 exact (zf 7)
 exact zn
 refine zt ?_ ?_
 refine zM 11 ?_ jw.nd
 refine zH (zae T) (hr.mono (by decide)) zE ?_
 refine zh ?_ ?_
 exact (zf 9)
 refine zh ?_ ?_
 refine zu yg ?_ ?_
 refine yn ?_
 refine zh ?_ ?_
 refine zH (zcP T) (hr.mono (by decide)) zE ?_
 refine zh ?_ ?_
 refine yK ?_ ?_ ?_
 exact (zf 3)
 refine yJ ?_
 exact zm
 exact yI
 refine zh ?_ ?_
 refine js (N:=["_law_script", "_law_word", "_law_held_here", "_law_keys_here", "_law_key", "_law_value", "_law_record_here", "_law_values", "_law_due", "_law_op", "_law_found", "_law_between", "_law_again", "_law_copy"]) rfl (by exact ⟨rfl,by decide +kernel,by decide +kernel,rfl,by show ∀y:Str×NameKind,y∈_->y.2=NameKind.free->List.lookup y.1 (zB w9).names=some NameKind.cell;decide +kernel⟩) rfl (by decide +kernel) ?_ ?_
 refine jr ?_
 refine yK ?_ ?_ ?_
 exact (zf 2)
 refine yJ ?_
 exact zm
 exact yI
 intro _ _ _ _ _
 refine zK ?_ ?_ ?_ ?_
 exact (zO (zw hr))
 exact (zf 0)
 exact zm
 exact fun _ _=>rfl
 exact zn
 exact zn
 refine yK ?_ ?_ ?_
 exact (zf 7)
 refine yJ ?_
 exact zm
 exact yI
 exact zn
 refine zt ?_ ?_
 refine zV ?_ ?_ ?_
 refine wC ?_
 refine jp ?_
 refine zH (wv T 64) (hr.mono (by decide)) zE ?_
 refine zh ?_ ?_
 exact (zf 11)
 refine zh ?_ ?_
 refine zH (ziF T) (hr.mono (by decide)) zE ?_
 refine zh ?_ ?_
 exact (zf 1)
 refine zh ?_ ?_
 refine yK ?_ ?_ ?_
 exact (zf 3)
 refine yJ ?_
 exact zm
 exact yI
 refine zh ?_ ?_
 refine yK ?_ ?_ ?_
 exact (zf 2)
 refine yJ ?_
 exact zm
 exact yI
 refine zh ?_ ?_
 exact (zf 5)
 refine zh ?_ ?_
 exact (zf 4)
 exact zn
 exact zn
 refine zy ?_
 refine zL ?_
 exact wB
 exact zY
 refine zt ?_ ?_
 refine zV ?_ ?_ ?_
 refine jX ?_
 refine zao ?_ ?_
 refine yd (yH (zw hr)) ?_ ?_
 exact (zf 1)
 exact zW
 refine zan ?_
 refine yd (yH (zw hr)) ?_ ?_
 refine zK ?_ ?_ ?_ ?_
 exact (zO (zw hr))
 exact (zf 10)
 exact zm
 exact fun _ _=>rfl
 exact zW
 refine zy ?_
 refine w4 ?_
 refine zH (zae T) (hr.mono (by decide)) zE ?_
 refine zh ?_ ?_
 exact (zf 9)
 refine zh ?_ ?_
 refine yn ?_
 refine zh ?_ ?_
 refine zK ?_ ?_ ?_ ?_
 exact (zO (zw hr))
 exact (zf 10)
 exact zm
 exact fun _ _=>rfl
 refine zh ?_ ?_
 refine zK ?_ ?_ ?_ ?_
 exact (zO (zw hr))
 refine zH (zcQ T) (hr.mono (by decide)) zE ?_
 refine zh ?_ ?_
 refine zH (jh T) (hr.mono (by decide)) zE ?_
 refine zh ?_ ?_
 exact (zf 0)
 refine zh ?_ ?_
 exact zm
 exact zn
 refine zh ?_ ?_
 exact zm
 exact zn
 exact zm
 exact fun _ _=>rfl
 refine zh ?_ ?_
 exact zm
 exact zn
 exact zn
 exact zY
 refine zt ?_ ?_
 refine zM 12 ?_ jw.nd
 refine zH (zae T) (hr.mono (by decide)) zE ?_
 refine zh ?_ ?_
 exact (zf 9)
 refine zh ?_ ?_
 exact (zf 7)
 exact zn
 refine zt ?_ ?_
 refine zM 13 ?_ jw.nd
 refine zH (zcP T) (hr.mono (by decide)) zE ?_
 refine zh ?_ ?_
 exact (zf 3)
 refine zh ?_ ?_
 refine js (N:=["_law_script", "_law_word", "_law_held_here", "_law_keys_here", "_law_key", "_law_value", "_law_record_here", "_law_values", "_law_due", "_law_op", "_law_found", "_law_between", "_law_again", "_law_copy"]) rfl (by exact ⟨rfl,by decide +kernel,by decide +kernel,rfl,by show ∀y:Str×NameKind,y∈_->y.2=NameKind.free->List.lookup y.1 (zB w9).names=some NameKind.cell;decide +kernel⟩) rfl (by decide +kernel) ?_ ?_
 refine jr ?_
 refine zH (zcS T) (hr.mono (by decide)) zE ?_
 refine zh ?_ ?_
 exact (zf 0)
 exact zn
 intro _ _ _ _ _
 refine zK ?_ ?_ ?_ ?_
 exact (zO (zw hr))
 exact (zf 0)
 exact zm
 exact fun _ _=>rfl
 exact zn
 refine zy ?_
 refine zL ?_
 refine wU ?_ ?_
 refine zH (wv T 64) (hr.mono (by decide)) zE ?_
 refine zh ?_ ?_
 exact (zf 10)
 refine zh ?_ ?_
 exact (zf 8)
 exact zn
 refine wU ?_ ?_
 refine zH (wv T 64) (hr.mono (by decide)) zE ?_
 refine zh ?_ ?_
 exact (zf 12)
 refine zh ?_ ?_
 exact (zf 8)
 exact zn
 refine zb8 ?_
 refine zH (wv T 64) (hr.mono (by decide)) zE ?_
 refine zh ?_ ?_
 exact (zf 6)
 refine zh ?_ ?_
 exact (zf 13)
 exact zn
theorem zfg:FnScope ["_law_script", "_law_way", "_law_word"] ["_law_script"] (zB zcK):=⟨rfl,rfl,rfl,by decide +kernel,rfl,by decide +kernel,by decide +kernel⟩
def zrC:zd->Mo Fl :=
  (zI (zl zff (ze (zc 0) (ze (zc 2) zj))))
def ziG:zd->Mo Fl :=
  zp (zN (mB (zg jg (zc 1) (mC (.int 8))))
  (zI (zl zfe (ze (zc 0) (ze (zc 2) zj))))
  zQ) (zrC)
def zrD:zd->Mo Fl :=
  zp (zx 2 (zg zq (ji (zdY ["front", "head", "rest", "many", "item", "put", "put", "front", "field", "set"])) (zc 1))) (ziG)
def zrE:zd->Mo Fl :=
  zp (zx 1 (zg zR (zl yt (ze (zc 0) (ze (mC (.int 0)) zj))) (mC (.int 10)))) (zrD)
def zbz:List PV->Mo PV:=zF 1 3 (zrE)
theorem zrF (T:Txt w K mg) {f:Addr} {fd:FuncData} (F:Fun K "law" "law" zcK f fd):FnOk P w K mg base (CXe P w) 68 f fd ["_law_script"] (spM K mg zbz):=zcj (k:=67) F zfg fun cdv A outer s H E hr =>
  by
 refine zt ?_ ?_
 refine zM 1 ?_ zfg.nd
 refine zu yi ?_ ?_
 refine zH (jh T) (hr.mono (by decide)) zE ?_
 refine zh ?_ ?_
 exact (zf 0)
 refine zh ?_ ?_
 exact zm
 exact zn
 exact zm
 refine zt ?_ ?_
 refine zM 2 ?_ zfg.nd
 refine zK ?_ ?_ ?_ ?_
 exact (zO (zw hr))
 refine jO ?_
 refine zoE ?_
 decide +kernel
 exact (zf 1)
 exact fun _ _=>rfl
 refine zt ?_ ?_
 refine zV ?_ ?_ ?_
 refine yd wD ?_ ?_
 exact (zf 1)
 exact zm
 refine zy ?_
 refine zL ?_
 refine zH (zrd T) (hr.mono (by decide)) zE ?_
 refine zh ?_ ?_
 exact (zf 0)
 refine zh ?_ ?_
 exact (zf 2)
 exact zn
 exact zY
 refine zy ?_
 refine zL ?_
 refine zH (zrB T) (hr.mono (by decide)) zE ?_
 refine zh ?_ ?_
 exact (zf 0)
 refine zh ?_ ?_
 exact (zf 2)
 exact zn
end
theorem wN (i j:Int) (h:0<j):yc i j=i%j:=by unfold yc;rw [if_pos h]
theorem zrG (i j:Int) (h:0<j):z0 i j=i/j:=by unfold z0;rw [if_pos h]
inductive Tr where
 | num (i:Int)|word (z:Str)|row (ts:List Tr)|rec_ (ks:List Str) (ts:List Tr)
mutual
def sz:Tr->Nat
 | .num _=>1
 | .word _=>1
 | .row ts=>1+szs ts
 | .rec_ _ ts=>1+szs ts
def szs:List Tr->Nat
 | []=>0
 | t::ts=>sz t+szs ts
end
mutual
def dp:Tr->Nat
 | .num _=>0
 | .word _=>0
 | .row ts=>1+dps ts
 | .rec_ _ ts=>1+dps ts
def dps:List Tr->Nat
 | []=>0
 | t::ts=>max (dp t) (dps ts)
end
mutual
def TR (st:Sto):Tr->PV->Prop
 | .num i,v=>v=.int i
 | .word z,v=>v=.str z/\z.length<=1000
 | .row ts,v=>∃xs,v=.tup xs/\TRs st ts xs
 | .rec_ ks ts,v=>∃n xs,v=.ref n/\st[n]?=some (.dic ks xs)/\ks.Nodup/\ks.length=xs.length/\TRs st ts xs/\∀k∈ks,k.length<=1000
def TRs (st:Sto):List Tr->List PV->Prop
 | [],xs=>xs=[]
 | t::ts,xs=>∃x r,xs=x::r/\TR st t x/\TRs st ts r
end
def Dk (a b:Sto):Prop:=∀(n:Nat) (ks:List Str) (xs:List PV),a[n]?=some (SO.dic ks xs)->b[n]?=some (SO.dic ks xs)
theorem Dk.refl (a:Sto):Dk a a:=fun _ _ _ e=>e
theorem Dk.trans {a b c:Sto}(h:Dk a b) (h':Dk b c):Dk a c:=fun n ks xs e=>h' n ks xs (h n ks xs e)
theorem zrH {a b:Sto}(h:Pre a b):Dk a b:=fun n ks xs e=>h.get e
theorem zc9 (a d:Sto):Dk a (a++d):=zrH (Pre.of a d)
theorem ziH {a:Sto}{n:Nat}{xs ys:List PV}(h:a[n]?=some (.lst xs)):Dk a (a.set n (.lst ys)):=fun m ks zs e=>by
 have ne:n≠m:=fun z=>by subst z;rw [h] at e;cases e
 rw [List.getElem?_set_ne ne];exact e
mutual
theorem TR.mono {a b:Sto}(d:Dk a b):∀(t:Tr) {v:PV},TR a t v->TR b t v
 | .num _,_,h=>h
 | .word _,_,h=>h
 | .row ts,_,h=>by obtain ⟨xs,e,r⟩:=h;exact ⟨xs,e,TRs.mono d ts r⟩
 | .rec_ ks ts,_,h=>by obtain ⟨n,xs,e,h1,h2,h3,r,h4⟩:=h;exact ⟨n,xs,e,d _ _ _ h1,h2,h3,TRs.mono d ts r,h4⟩
theorem TRs.mono {a b:Sto}(d:Dk a b):∀(ts:List Tr) {xs:List PV},TRs a ts xs->TRs b ts xs
 | [],_,h=>h
 | t::ts,_,h=>by obtain ⟨x,r,e,h1,h2⟩:=h;exact ⟨x,r,e,TR.mono d t h1,TRs.mono d ts h2⟩
end
theorem TRs.len {st:Sto}:∀{ts:List Tr}{xs:List PV},TRs st ts xs->ts.length=xs.length
 | [],_,h=>by cases h;rfl
 | t::ts,_,h=>by obtain ⟨x,r,rfl,_,h2⟩:=h;simp [TRs.len h2]
theorem TRs.get {st:Sto}:∀{ts:List Tr}{xs:List PV}{i:Nat}{x:PV},TRs st ts xs->xs[i]?=some x->∃t,ts[i]?=some t/\TR st t x
 | [],_,_,_,h,e=>by cases h;simp at e
 | t::ts,_,0,x,h,e=>by obtain ⟨y,r,rfl,h1,_⟩:=h;simp at e;subst e;exact ⟨t,by simp,h1⟩
 | t::ts,_,i+1,x,h,e=>by obtain ⟨y,r,rfl,_,h2⟩:=h;simp at e;simpa using TRs.get h2 e
theorem TRs.append {st:Sto}:∀{ts us:List Tr}{xs ys:List PV},TRs st ts xs->TRs st us ys->TRs st (ts++us) (xs++ys)
 | [],_,_,_,h,h'=>by cases h;exact h'
 | t::ts,_,_,_,h,h'=>by obtain ⟨y,r,rfl,h1,h2⟩:=h;exact ⟨y,r++_,rfl,h1,TRs.append h2 h'⟩
theorem TRs.take {st:Sto}:∀{ts:List Tr}{xs:List PV}(n:Nat),TRs st ts xs->TRs st (ts.take n) (xs.take n)
 | [],_,n,h=>by cases h;simp [TRs]
 | t::ts,_,0,h=>by simp [TRs]
 | t::ts,_,n+1,h=>by obtain ⟨y,r,rfl,h1,h2⟩:=h;exact ⟨y,_,rfl,h1,TRs.take n h2⟩
theorem TRs.drop {st:Sto}:∀{ts:List Tr}{xs:List PV}(n:Nat),TRs st ts xs->TRs st (ts.drop n) (xs.drop n)
 | [],_,n,h=>by cases h;simp [TRs]
 | t::ts,_,0,h=>h
 | t::ts,_,n+1,h=>by obtain ⟨y,r,rfl,h1,h2⟩:=h;exact TRs.drop n h2
theorem jx:∀a b:List Tr,szs (a++b)=szs a+szs b
 | [],b=>by simp [szs]
 | t::a,b=>by simp only [List.cons_append,szs,jx a b];omega
mutual
theorem zrI:∀t:Tr,0<sz t
 | .num _=>by simp [sz]
 | .word _=>by simp [sz]
 | .row ts=>by simp only [sz];omega
 | .rec_ _ ts=>by simp only [sz];omega
end
mutual
theorem zfh:∀t:Tr,dp t<=sz t
 | .num _=>by simp [sz,dp]
 | .word _=>by simp [sz,dp]
 | .row ts=>by have:=dps_szs ts;simp only [sz,dp];omega
 | .rec_ _ ts=>by have:=dps_szs ts;simp only [sz,dp];omega
theorem dps_szs:∀ts:List Tr,dps ts<=szs ts
 | []=>by simp [szs,dps]
 | t::ts=>by have:=zfh t;have:=dps_szs ts;simp only [szs,dps];omega
end
theorem ww:∀{ts:List Tr}{t:Tr},t∈ts->sz t<=szs ts
 | u::ts,t,h=>by
  rcases List.mem_cons.mp h with rfl|h
  ·simp only [szs];omega
  ·have:=ww h;simp only [szs];omega
theorem ziI {st:Sto}{z:Str}:∀{ks:List Str}{ts:List Tr}{xs:List PV}{y:PV},TRs st ts xs->(ks.zip xs).lookup z=some y->∃t,(ks.zip ts).lookup z=some t/\TR st t y
 | [],_,_,_,_,h=>by simp at h
 | k::ks,[],_,_,r,h=>by cases r;simp at h
 | k::ks,t::ts,_,y,r,h=>by
  obtain ⟨x,r',rfl,h1,h2⟩:=r
  simp only [List.zip_cons_cons,List.lookup_cons] at h ⊢
  split at h
  ·cases h;exact ⟨t,rfl,h1⟩
  ·exact ziI h2 h
theorem ziJ {st:Sto}{z:Str}:∀{ks:List Str}{ts:List Tr}{xs:List PV},TRs st ts xs->(ks.zip xs).lookup z=none->(ks.zip ts).lookup z=none
 | [],_,_,_,h=>by simp
 | k::ks,[],_,r,h=>by simp
 | k::ks,t::ts,_,r,h=>by
  obtain ⟨x,r',rfl,h1,h2⟩:=r
  simp only [List.zip_cons_cons,List.lookup_cons] at h ⊢
  split at h
  ·cases h
  ·exact ziJ h2 h
theorem zda:∀{ts:List Tr}{t:Tr},t∈ts->dp t<=dps ts
 | u::ts,t,h=>by
  rcases List.mem_cons.mp h with rfl|h
  ·simp only [dps];omega
  ·have:=zda h;simp only [dps];omega
def ty:Tr->String
 | .num _ => "int"
 | .word _ => "str"
 | .row _ => "tuple"
 | .rec_ _ _ => "dict"
def kids:Tr->List Tr
 | .row ts=>ts
 | .rec_ _ ts=>ts
 | _=>[]
abbrev abc:Str := "abcdefghijklmnopqrstuvwxyz"
def isW (z:Str):Bool:=decide (1<=z.length)&&decide (z.length<=8)&&z.cps.toList.all fun c=>decide (c∈abc.cps.toList)
def ok:Tr->Bool
 | .num i=>decide (-1000000000000000000<i)&&decide (i<1000000000000000000)
 | .word z=>isW z
 | .row _=>true
 | .rec_ ks _=>ks.all isW
def oks:List Tr->Bool
 | []=>true
 | t::ts=>ok t&&oks ts
mutual
def okT:Tr->Bool
 | .num i=>ok (.num i)
 | .word z=>ok (.word z)
 | .row ts=>ok (.row ts)&&okTs ts
 | .rec_ ks ts=>ok (.rec_ ks ts)&&okTs ts
def okTs:List Tr->Bool
 | []=>true
 | t::ts=>okT t&&okTs ts
end
theorem ziK:∀a b:List Tr,oks (a++b)=(oks a&&oks b)
 | [],b=>by simp [oks]
 | t::a,b=>by simp only [List.cons_append,oks,ziK a b,Bool.and_assoc]
theorem ziL:∀a b:List Tr,okTs (a++b)=(okTs a&&okTs b)
 | [],b=>by simp [okTs]
 | t::a,b=>by simp only [List.cons_append,okTs,ziL a b,Bool.and_assoc]
theorem zrJ (t:Tr):okT t=(ok t&&okTs (kids t)):=by
 cases t<;>simp [okT,kids,okTs]
theorem zrK (t:Tr):sz t=1+szs (kids t):=by
 cases t<;>simp [sz,kids,szs]
theorem ziM {st:Sto}{t:Tr}{v:PV}(h:TR st t v) (n:String):yA isT [v,.ty n] st=optB (tyb (ty t) n) st:=by
 cases t with
 | num i=>cases h;rfl
 | word z=>obtain ⟨rfl,_⟩:=h;rfl
 | row ts=>obtain ⟨xs,rfl,_⟩:=h;rfl
 | rec_ ks ts =>
  obtain ⟨m,xs,rfl,hm,_⟩:=h
  show isiA isT st (.ty n) (soCls st[m]?) st=_
  rw [hm]
  rfl
@[simp] theorem ztI (b:Bool) (st:Sto):optB (some b) st=.ok (.bl b) st:=(rfl)
theorem t1:tyb "int" "str" = some false:=rfl
theorem t2:tyb "int" "tuple" = some false:=rfl
theorem t3:tyb "int" "dict" = some false:=rfl
theorem t4:tyb "int" "int" = some true:=rfl
theorem t5:tyb "str" "str" = some true:=rfl
theorem t6:tyb "str" "tuple" = some false:=rfl
theorem t7:tyb "str" "dict" = some false:=rfl
theorem t9:tyb "tuple" "str" = some false:=rfl
theorem jy:tyb "tuple" "tuple" = some true:=rfl
theorem t11:tyb "tuple" "dict" = some false:=rfl
theorem wO:tyb "dict" "str" = some false:=rfl
theorem t14:tyb "dict" "tuple" = some false:=rfl
theorem t15:tyb "dict" "dict" = some true:=rfl
theorem wP:tyb "int" "bool" = some false:=rfl
def kn:Tr->Str
 | .num _ => "number"
 | .word _ => "word"
 | .row _ => "row"
 | .rec_ _ _ => "record"
theorem zrM {st:Sto}{t:Tr}{v:PV}(h:TR st t v):zbo [v] st=.ok (.str (kn t)) st:=by
 have e:=ziM h
 cases t<;>simp [zbo,zF,zih,zig,zif,zie,e,ty,t1,t2,t3,t5,t9,jy,wO,t14,t15,kn]
theorem zrN {st:Sto}{n:Nat}{ks:List Str}{xs:List PV}(h:st[n]?=some (.dic ks xs)):zd6 (.ref n) st=.ok (.ref st.length) (st++[.lst xs]):=by
 show yU st n _=_
 unfold yU
 rw [h]
theorem zrO {st:Sto}{t:Tr}{v:PV}(h:TR st t v):∃xs,wM [v] st=.ok (.ref st.length) (st++[.lst xs])/\TRs st (kids t) xs:=by
 have e:=ziM h
 cases t with
 | num i=>exact ⟨[],by simp [wM,zF,zbv,zc0,ze3,e,ty,t2,t3],rfl⟩
 | word z=>exact ⟨[],by simp [wM,zF,zbv,zc0,ze3,e,ty,t6,t7],rfl⟩
 | row ts=>obtain ⟨xs,rfl,hr⟩:=h;exact ⟨xs,by simp [wM,zF,zbv,e,ty,jy,zaA,za1],hr⟩
 | rec_ ks ts=>obtain ⟨m,xs,rfl,hm,nd,hl,hr,_⟩:=h;exact ⟨xs,by simp [wM,zF,zbv,zc0,e,ty,t14,t15,zrN hm],hr⟩
theorem y0:∀ts:List Tr,ts.length<=szs ts
 | []=>by simp [szs]
 | t::ts=>by have:=zrI t;have:=y0 ts;simp only [szs,List.length_cons];omega
abbrev tst:zd->Mo Bool:=(mB (zg jg (zc 2) (zl zS (ze (zc 1) zj))))
abbrev bdy:zd->Mo Fl:=(zp (yR (ja zch (zc 1) (zl wM (ze (zg zq (zc 1) (zc 2)) zj))))
  (za2 2 ipAdd (mC (.int 1))))
def Old (a b:Sto):Prop:=∀(n:Nat) so,a[n]?=some so->b[n]?=some so
theorem Old.refl (a:Sto):Old a a:=fun _ _ e=>e
theorem Old.trans {a b c:Sto}(h:Old a b) (h':Old b c):Old a c:=fun n so e=>h' n so (h n so e)
theorem Old.dk {a b:Sto}(h:Old a b):Dk a b:=fun n ks xs e=>h n _ e
theorem ziO {a b:Sto}(h:Pre a b):Old a b:=fun n so e=>h.get e
theorem zZ (a d:Sto):Old a (a++d):=ziO (Pre.of a d)
def Ob (r:Nat) (a b:Sto):Prop:=∀(n:Nat) so,n≠r->a[n]?=some so->b[n]?=some so
theorem Ob.trans {r:Nat}{a b c:Sto}(h:Ob r a b) (h':Ob r b c):Ob r a c:=fun n so ne e=>h' n so ne (h n so ne e)
theorem zrP {r:Nat}{a b:Sto}(h:Old a b):Ob r a b:=fun n so _ e=>h n so e
theorem zrQ (r:Nat) (a:Sto) (so:SO):Ob r a (a.set r so):=fun n s ne e=>by rw [List.getElem?_set_ne (Ne.symm ne)];exact e
theorem zrR (v:PV) (r:Nat):∀(m p fuel:Nat) (ts:List Tr) (xs:List PV) (st:Sto),st[r]?=some (.lst xs)->TRs st ts xs->p<=ts.length->szs (ts.drop p)=m->m<fuel->p+m<=100000 ->
  ∃ts' xs' st',whileF tst bdy fuel [some v,some (.ref r),some (.int p)] st=.ok (.nx [some v,some (.ref r),some (.int ts'.length)]) st'/\st'[r]?=some (.lst xs')/\TRs st' ts' xs'/\(Dk st st'/\Ob r st st')/\oks ts'=(oks (ts.take p)&&okTs (ts.drop p))/\ts'.length=p+m:=by
 intro m
 induction m using Nat.strongRecOn with
 | _ m ih =>
  intro p fuel ts xs st hr ht hp hm hf hb
  obtain ⟨f',rfl⟩:∃f',fuel=f'+1:=⟨fuel-1,by omega⟩
  have hlen:=ht.len
  by_cases he:p=ts.length
  ·subst he
   refine ⟨ts,xs,st,?_,hr,ht,⟨Dk.refl _,fun _ _ _ e=>e⟩,by simp [okTs],?_⟩
   ·rw [zg3]
    simp [zaD hr,hlen]
   ·rw [List.drop_length] at hm
    simp [szs] at hm
    omega
  ·have lt:p<ts.length:=by omega
   have lt2:p<xs.length:=by omega
   obtain ⟨t,et,hx⟩:=ht.get (List.getElem?_eq_getElem lt2)
   have hd:ts.drop p=t::ts.drop (p+1):=by
    rw [List.drop_eq_getElem_cons lt]
    have:=(List.getElem?_eq_some_iff.mp et).2
    rw [this]
   obtain ⟨ys,ey,hy⟩:=zrO hx
   have rl:r<st.length:=(List.getElem?_eq_some_iff.mp hr).1
   have hr1:(st++[SO.lst ys])[r]?=some (.lst xs):=(Pre.of st _).get hr
   have szt:=zrK t
   rw [hd] at hm
   simp only [szs] at hm
   have d1:Dk st (st++[SO.lst ys]):=zc9 _ _
   have d2:Dk (st++[SO.lst ys]) ((st++[SO.lst ys]).set r (.lst (xs++ys))):=ziH hr1
   have d12:=d1.trans d2
   have lk:ys.length<=szs (kids t):=by rw [<-hy.len];exact y0 _
   have lx:xs.length<=p+m:=by
    have:=y0 (ts.drop p)
    rw [hd] at this
    simp only [szs,List.length_cons,List.length_drop] at this
    omega
   have hdrop:(ts++kids t).drop (p+1)=ts.drop (p+1)++kids t:=List.drop_append_of_le_length (by omega)
   have htake:(ts++kids t).take (p+1)=ts.take p++[t]:=by
    rw [List.take_append_of_le_length (by omega),<-List.take_append_getElem lt]
    have:=(List.getElem?_eq_some_iff.mp et).2
    rw [this]
   have hm':szs ((ts++kids t).drop (p+1))=m-1:=by rw [hdrop,jx];omega
   have hset:((st++[SO.lst ys]).set r (SO.lst (xs++ys)))[r]?=some (SO.lst (xs++ys)):=by
    rw [List.getElem?_set_self]
    simp
    omega
   obtain ⟨ts',xs',st',e1,e2,e3,e4,e5,e6⟩:=ih (m-1) (by omega) (p+1) f' (ts++kids t) (xs++ys) ((st++[SO.lst ys]).set r (.lst (xs++ys))) hset ((ht.mono d12).append (hy.mono d12)) (by simp;omega) hm' (by omega) (by omega)
   refine ⟨ts',xs',st',?_,e2,e3,⟨d12.trans e4.1,((zrP (zZ _ _)).trans (zrQ r _ _)).trans e4.2⟩,?_,by omega⟩
   ·rw [zg3]
    have hat:atI xs (p:Int)=some xs[p]:=by simp [atI,ixN,lt2]
    have hlim:xs.length+ys.length<=1000000:=by omega
    have top:(st++[SO.lst ys])[st.length]?=some (.lst ys):=yu _ _
    have ee:((p:Int)+1)=((p+1:Nat):Int):=by omega
    simp [zaD hr,yj hr,lt2,hat,ey,zch,yj hr1,yj top,hlim]
    rw [ee]
    exact e1
   ·rw [e5,htake,hdrop,hd,ziK,ziL]
    have:=zrJ t
    simp only [oks,okTs,Bool.and_true,this]
    cases oks (ts.take p)<;>cases ok t<;>cases okTs (kids t)<;>cases okTs (ts.drop (p+1))<;>rfl
theorem zrS {st:Sto}{t:Tr}{v:PV}(h:TR st t v) (hs:sz t<=10000):∃r ts xs st',zc2 [v] st=.ok (.ref r) st'/\st'[r]?=some (.lst xs)/\TRs st' ts xs/\Old st st'/\oks ts=okT t/\ts.length=sz t:=by
 obtain ⟨ts',xs',st',e1,e2,e3,e4,e5,e6⟩:=zrR v st.length (sz t) 0 lim [t] [v] (st++[.lst [v]]) (yu _ _) ⟨v,[],rfl,h.mono (zc9 _ _),rfl⟩ (Nat.zero_le _) (by simp [szs]) (by show sz t<1000000;omega) (by omega)
 refine ⟨st.length,ts',xs',st',?_,e2,e3,fun n so e=>e4.2 n so (by have:=(List.getElem?_eq_some_iff.mp e).1;omega) (zZ _ _ n so e),by simpa [oks,okTs] using e5,by omega⟩
 simp only [zc2,zF,ziC,ziB,ziA,ziz]
 simp
 have e1':zdP tst bdy [some v,some (.ref st.length),some (.int 0)] (st++[.lst [v]])=.ok (.nx [some v,some (.ref st.length),some (.int ts'.length)]) st':=e1
 simp [e1']
theorem atI_get {α:Type}{l:List α}{k:Nat}{x:α}(h:l[k]?=some x):atI l (k:Int)=some x:=by
 obtain ⟨h1,h2⟩:=List.getElem?_eq_some_iff.mp h
 simp [atI,ixN,h1,h2]
theorem yO {α:Type}(x:α) (r:List α):atI (x::r) 0=some x:=atI_get (k:=0) rfl
theorem jG {α:Type}(x y:α) (r:List α):atI (x::y::r) 1=some y:=atI_get (k:=1) rfl
theorem at2 {α:Type}(x y z:α) (r:List α):atI (x::y::z::r) 2=some z:=atI_get (k:=2) rfl
def fits:List Str->List Tr->Bool
 | k::ks,t::ts=>(k == "any" || k==kn t)&&fits ks ts
 | _,_=>true
abbrev bdC:zd->Mo Fl:=(zN (jd (mB (zg yV (zc 2) (mC (.str "any")))) (mB (zg yV (zc 2) (zl zbo (ze (zc 3) zj)))))
  (wm "Fault" "word" (mC (.str "kind")))
  zQ)
theorem ziQ {st:Sto} (v0 v1:Option PV):∀(ks:List Str) (ts:List Tr) (xs:List PV) (v2 v3:Option PV),TRs st ts xs->ks.length=ts.length->∃v2' v3',forL (g2 2 3) bdC (jQ (ks.map PV.str) xs) [v0,v1,v2,v3] st=if fits ks ts=true then .ok (.nx [v0,v1,v2',v3']) st else .err "Fault" ["word"] [.str "kind"] st
 | [],[],_,v2,v3,h,_=>⟨v2,v3,by cases h;simp [jQ,forL,fits]⟩
 | k::ks,t::ts,_,v2,v3,h,hl=>by
  obtain ⟨x,r,rfl,h1,h2⟩:=h
  obtain ⟨v2',v3',e⟩:=ziQ v0 v1 ks ts r (some (.str k)) (some x) h2 (by simpa using hl)
  refine ⟨v2',v3',?_⟩
  have kx:=zrM h1
  simp only [jQ] at e
  simp only [jQ,List.map_cons,List.zip_cons_cons]
  unfold forL
  by_cases ha:k = "any"
  ·subst ha
   simp [e,fits]
  ·by_cases hk:k=kn t
   ·have hk':(kn t==kn t)=true:=by simp
    subst hk
    simp [ha,kx,e,fits]
   ·simp [ha,kx,hk,fits]
theorem ziR {st:Sto} {ks:List Str} {ts:List Tr} {xs:List PV} (h:TRs st ts xs) (hl:ks.length=ts.length):zcV [.tup (ks.map PV.str),.tup xs] st=if fits ks ts=true then .ok .non st else .err "Fault" ["word"] [.str "kind"] st:=by
 obtain ⟨v2',v3',e⟩:=ziQ (some (.tup (ks.map PV.str))) (some (.tup xs)) ks ts xs none none h hl
 simp only [zcV,zF,zij]
 simp [e]
theorem zrT {st:Sto}{t:Tr}{v:PV}(h:TR st t v) (hs:sz t<=10000):∃st',zc3 [v] st=.ok (.int (sz t)) st'/\Old st st':=by
 obtain ⟨r,ts,xs,st1,e1,e2,e3,e4,e5,e6⟩:=zrS h hs
 have hl:=e3.len
 exact ⟨st1,by simp [zc3,zF,ziD,e1,zaD e2,<-hl,e6],e4⟩
abbrev OpO (w:Str) (k:Int):SO:=.ins "Op" ["word", "many"] [.str w,.int k]
theorem i3:insOf "Op" = true:=by simp [insOf]
structure OpIs (op:Str) (ks:List Str) (f:Str) (mt:List PV->Mo PV):Prop where
 look:(j8.zip j9).lookup op=some (.tup [.tup (ks.map PV.str),.fn f])
 tab:zbu f=some mt
 new:∀st,wK [.str op] st=.ok (.ref st.length) (st++[OpO op ks.length])
section
variable {op f:Str}{ks:List Str}{mt:List PV->Mo PV}{ts:List Tr}{xs:List PV}
theorem zrU (h:OpIs op ks f mt) {st st1:Sto} {o:Nat} {k:Int} {w:Str} (ho:st[o]?=some (OpO op k)) (hr:TRs st ts xs) (hl:ks.length=ts.length) (hf:fits ks ts=true) (hm:mt [.tup xs] st=.err "Fault" ["word"] [.str w] st1):m_Op_answer [.ref o,.tup xs] st=.err "Fault" ["word"] [.str w] st1:=by
 have hc:=ziR hr hl
 rw [if_pos hf] at hc
 generalize hK:PV.tup (ks.map PV.str)=K1 at hc
 have lk:=h.look
 rw [hK] at lk
 simp [m_Op_answer,zF,zc6,zc5,zc4,zco ho,i3,List.lookup_cons,lk,h.tab,yO,jG,hc,hm]
theorem zrV (h:OpIs op ks f mt) {st st1:Sto}{o:Nat}{k:Int}{t:Tr}{v:PV}(ho:st[o]?=some (OpO op k)) (hr:TRs st ts xs) (hl:ks.length=ts.length) (hf:fits ks ts=true) (hm:mt [.tup xs] st=.ok v st1) (hv:TR st1 t v) (hs:sz t<=10000) :
  ∃st2,Old st1 st2/\m_Op_answer [.ref o,.tup xs] st=if sz t<=60 then .ok v st2 else .err "Fault" ["word"] [.str "large"] st2:=by
 have hc:=ziR hr hl
 rw [if_pos hf] at hc
 generalize hK:PV.tup (ks.map PV.str)=K1 at hc
 have lk:=h.look
 rw [hK] at lk
 obtain ⟨st2,hp,o2⟩:=zrT hv hs
 refine ⟨st2,o2,?_⟩
 by_cases hz:sz t<=60
 ·rw [if_pos hz]
  have:¬(60:Int)<sz t:=by omega
  simp [m_Op_answer,zF,zc6,zc5,zc4,ze6,ze5,zco ho,i3,List.lookup_cons,lk,h.tab,yO,jG,hc,hm,hp,hz]
  omega
 ·rw [if_neg hz]
  have:(60:Int)<sz t:=by omega
  simp [m_Op_answer,zF,zc6,zc5,zc4,ze6,ze5,zco ho,i3,List.lookup_cons,lk,h.tab,yO,jG,hc,hm,hp,hz]
  omega
theorem ziS {st st1:Sto} {o:Nat} {k:Int} {w:Str} (ho:st[o]?=some (OpO op k)) (ha:m_Op_answer [.ref o,.tup xs] st=.err "Fault" ["word"] [.str w] st1):yC [.ref o,.tup xs] st=.ok (.tup [.str "fault", .str w]) st1:=by
 have hm:∀k:Nat->(List PV->Mo PV)->Res PV,methAt "answer" zad (.ref o) st k=k o m_Op_answer:=zg1 ho (by simp) (by simp [zad])
 simp [yC,zF,zfb,zfa,ze9,ze8,ze7,hm,ha,zbe,oIs,isNon,excOf,List.lookup_cons]
theorem zrW {st st1:Sto} {o:Nat} {k:Int} {v:PV} (ho:st[o]?=some (OpO op k)) (ha:m_Op_answer [.ref o,.tup xs] st=.ok v st1):yC [.ref o,.tup xs] st=.ok (.tup [.str "told", v]) st1:=by
 have hm:∀k:Nat->(List PV->Mo PV)->Res PV,methAt "answer" zad (.ref o) st k=k o m_Op_answer:=zg1 ho (by simp) (by simp [zad])
 simp [yC,zF,zfb,zfa,ze9,ze8,ze7,hm,ha,zbe,oIs,isNon]
end
mutual
theorem TR.one {st:Sto}:∀(t t':Tr) {v:PV},TR st t v->TR st t' v->t=t'
 | .num i,t',v,h,h'=>by
  cases h
  cases t' with
  | num j=>cases h';rfl
  | word z=>obtain ⟨e,_⟩:=h';cases e
  | row ts=>obtain ⟨_,e,_⟩:=h';cases e
  | rec_ ks ts=>obtain ⟨_,_,e,_⟩:=h';cases e
 | .word z,t',v,h,h'=>by
  obtain ⟨rfl,_⟩:=h
  cases t' with
  | num j=>cases h'
  | word z=>obtain ⟨e,_⟩:=h';cases e;rfl
  | row ts=>obtain ⟨_,e,_⟩:=h';cases e
  | rec_ ks ts=>obtain ⟨_,_,e,_⟩:=h';cases e
 | .row ts,t',v,h,h'=>by
  obtain ⟨xs,rfl,r⟩:=h
  cases t' with
  | num j=>cases h'
  | word z=>obtain ⟨e,_⟩:=h';cases e
  | row us=>obtain ⟨_,e,r'⟩:=h';cases e;rw [TRs.one ts us r r']
  | rec_ ks ts=>obtain ⟨_,_,e,_⟩:=h';cases e
 | .rec_ ks ts,t',v,h,h'=>by
  obtain ⟨n,xs,rfl,g,_,_,r,_⟩:=h
  cases t' with
  | num j=>cases h'
  | word z=>obtain ⟨e,_⟩:=h';cases e
  | row us=>obtain ⟨_,e,r'⟩:=h';cases e
  | rec_ ks' us =>
   obtain ⟨_,_,e,g',_,_,r',_⟩:=h'
   cases e
   rw [g] at g'
   cases g'
   rw [TRs.one ts us r r']
theorem TRs.one {st:Sto}:∀(ts us:List Tr) {xs:List PV},TRs st ts xs->TRs st us xs->ts=us
 | [],us,xs,h,h'=>by
  cases h
  cases us with
  | nil=>rfl
  | cons=>obtain ⟨_,_,e,_⟩:=h';cases e
 | t::ts,us,xs,h,h'=>by
  obtain ⟨x,r,rfl,h1,h2⟩:=h
  cases us with
  | nil=>cases h'
  | cons u us =>
   obtain ⟨_,_,e,g1,g2⟩:=h'
   cases e
   rw [TR.one t u h1 g1,TRs.one ts us h2 g2]
end
theorem zbB {g:PV->zd->Option zd}{body:zd->Mo Fl}(I:Nat->zd->Sto->Prop) (n:Nat) (hb:∀i e st,i<n->I i e st->∃e1 e2 st2,g (.int i) e=some e1/\body e1 st=.ok (.nx e2) st2/\I (i+1) e2 st2) :
  ∀(k i:Nat) (env:zd) (st:Sto),i+k=n->I i env st->∃env' st',forL g body ((List.range' i k).map fun i:Nat=>PV.int i) env st=.ok (.nx env') st'/\I n env' st'
 | 0,i,env,st,hk,h=>⟨env,st,by simp,by rw [<-hk];exact h⟩
 | k+1,i,env,st,hk,h=>by
  obtain ⟨e1,e2,st2,q1,q2,q3⟩:=hb i env st (by omega) h
  obtain ⟨env',st',r1,r2⟩:=zbB I n hb k (i+1) e2 st2 (by omega) q3
  refine ⟨env',st',?_,r2⟩
  rw [List.range'_succ,List.map_cons]
  unfold forL
  rw [q1]
  simp only
  rw [q2]
  simp only [zJ]
  exact r1
theorem zbC (m:Nat) (st:Sto) (h:m<=1000):wG [.int (m:Int)] st=.ok (.im ((List.range' 0 m).map fun i:Nat=>PV.int i)) st:=by
 have hr:cR (m:Int)=true:=by simp [cR];omega
 simp [hr,nums,List.range_eq_range']
theorem modNat (i:Int) (j:Nat) (h:0<j):∃b:Nat,b<j/\yc i j=b:=by
 have h1:=Int.emod_nonneg i (show (j:Int)≠0 by omega)
 have h2:=Int.emod_lt_of_pos i (show (0:Int)<j by omega)
 exact ⟨(i%j).toNat,by omega,by rw [wN _ _ (by omega)];omega⟩
structure Fz (S:List Nat) (a b:Sto):Prop where
 out:∀m,m∉S->b[m]?=a[m]?
theorem Fz.refl (a:Sto):Fz [] a a:=⟨fun _ _=>rfl⟩
theorem zfi {st:Sto}{z:Str}:∀{ks:List Str}{ts:List Tr}{xs:List PV}{t:Tr},TRs st ts xs->(ks.zip ts).lookup z=some t->∃y,(ks.zip xs).lookup z=some y/\TR st t y
 | [],_,_,_,_,h=>by simp at h
 | _::_,[],_,_,_,h=>by simp at h
 | k::ks,u::ts,xs,t,r,h=>by
  obtain ⟨y,xs',rfl,r1,r2⟩:=r
  rw [List.zip_cons_cons,List.lookup_cons] at h ⊢
  cases hz:(z==k) with
  | true =>
   rw [hz] at h
   cases h
   exact ⟨y,rfl,r1⟩
  | false =>
   rw [hz] at h
   exact zfi r2 h
theorem ziT {α:Type}{z:Str}:∀{ks:List Str}{us:List α},ks.length=us.length->z∈ks->∃u,(ks.zip us).lookup z=some u
 | [],_,_,h=>by cases h
 | _::_,[],h,_=>by simp at h
 | k::ks,u::us,hl,h=>by
  rw [List.zip_cons_cons,List.lookup_cons]
  cases hz:(z==k) with
  | true=>exact ⟨u,rfl⟩
  | false =>
   rcases List.mem_cons.mp h with e|e
   ·simp [e] at hz
   ·exact ziT (by simpa using hl) e
theorem zbD {st:Sto}{n:Nat}{so:SO}(h:st[n]?=some so):n<st.length:=(List.getElem?_eq_some_iff.mp h).1
theorem zbE {z:Str}{u:Tr}:∀{ks:List Str}{ts:List Tr},(ks.zip ts).lookup z=some u->u∈ts
 | [],_,h=>by simp at h
 | _::_,[],h=>by simp at h
 | k::ks,t::ts,h=>by
  rw [List.zip_cons_cons,List.lookup_cons] at h
  cases hz:(z==k) with
  | true=>rw [hz] at h;cases h;exact List.mem_cons_self ..
  | false=>rw [hz] at h;exact List.mem_cons_of_mem _ (zbE h)
abbrev bdR (mr:List PV->Mo PV):zd->Mo Fl:=(zN (jN (mB (zg (j5 true) (zc 2) (zc 0))) (je (mB (zl mr (ze (zg yW (zc 0) (zc 2)) (ze (zg yW (zc 1) (zc 2)) zj))))))
  (zI (mC (.bl false)))
  zQ)
theorem ziU {a st:Sto}{mr:List PV->Mo PV}{ks ks':List Str}{ts us:List Tr}{xs ys:List PV}{p q:Nat}{S:List Nat}(hp:a[p]?=some (.dic ks xs)) (hq:a[q]?=some (.dic ks' ys)) (tr:TRs a ts xs) (tr':TRs a us ys) (len:ks.length=ks'.length) (ll:ks'.length=ys.length)
  (F:Fz S a st) (np:p∉S) (nq:q∉S) (sub:∀k u,(ks'.zip us).lookup k=some u->(ks.zip ts).lookup k=some u)
  (hm:∀k u x y,(ks'.zip us).lookup k=some u->TR a u x->TR a u y->mr [x,y] (st.set q (.fdi ks' ys))=.ok (.bl true) (st.set q (.fdi ks' ys))):wu mr [.ref p,.ref q] st=.ok (.bl true) st:=by
 have gp:st[p]?=some (.dic ks xs):=by rw [F.out p np];exact hp
 have gq:st[q]?=some (.dic ks' ys):=by rw [F.out q nq];exact hq
 have hlt:=zbD gq
 have hl':=tr'.len
 have gq1:(st.set q (.fdi ks' ys))[q]?=some (.fdi ks' ys):=by rw [List.getElem?_set_self hlt]
 have gp0:(st.set q (.fdi ks' ys))[p]?=some (.fdi ks xs)\/(st.set q (.fdi ks' ys))[p]?=some (.dic ks xs):=by
  by_cases e:q=p
  ·subst e
   rw [gp] at gq
   cases gq
   exact .inl gq1
  ·exact .inr (by rw [List.getElem?_set_ne e];exact gp)
 have back:(st.set q (.fdi ks' ys)).set q (.dic ks' ys)=st:=by
  rw [List.set_set]
  apply List.ext_getElem?
  intro i
  by_cases hi:q=i
  ·subst hi;rw [List.getElem?_set_self hlt,gq]
  ·rw [List.getElem?_set_ne hi]
 have id1:∀n,yA isT [.ref q,.ty n] st=optB (tyb "dict" n) st:=fun n=>by
  show isiA isT st _ (soCls st[q]?) st=_
  rw [gq];rfl
 have id2:∀n,yA isT [.ref p,.ty n] st=optB (tyb "dict" n) st:=fun n=>by
  show isiA isT st _ (soCls st[p]?) st=_
  rw [gp];rfl
 have l1:=zhJ gp
 have l2:=zhJ gq
 have loop:∀(zs:List Str),(∀z∈zs,z∈ks')->∀z2 z3,∃z2',forD (gN 2) (bdR mr) (zs.map PV.str) [some (.ref p),some (.ref q),z2,z3] (st.set q (.fdi ks' ys))=.ok [some (.ref p),some (.ref q),z2',z3] (st.set q (.fdi ks' ys)):=by
  intro zs
  induction zs with
  | nil=>exact fun _ z2 z3=>⟨z2,rfl⟩
  | cons z zs ih =>
   intro hz z2 z3
   obtain ⟨z2',e⟩:=ih (fun y hy=>hz y (List.mem_cons_of_mem _ hy)) (some (.str z)) z3
   refine ⟨z2',?_⟩
   obtain ⟨u,hu⟩:=ziT (us:=us) (by omega) (hz z (List.mem_cons_self ..))
   obtain ⟨y,hy,ty⟩:=zfi tr' hu
   obtain ⟨x,hx,tx⟩:=zfi tr (sub z u hu)
   have m1:=hm z u x y hu tx ty
   have gp1:=gp0
   generalize st.set q (.fdi ks' ys)=s1 at gq1 gp1 m1 e ⊢
   have i1:j5 true (.str z) (.ref p) s1=.ok (.bl false) s1:=by
    rcases gp1 with g|g
    ·simp [j5,g,hx]
    ·simp [j5,g,yx,hx]
   have i2:yW (.ref p) (.str z) s1=.ok x s1:=by
    rcases gp1 with g|g
    ·simp [yW,g,hx]
    ·simp [yW,g,zq,zdW,yU,hx]
   have i3:yW (.ref q) (.str z) s1=.ok y s1:=by
    simp [yW,gq1,hy]
   have B:bdR mr [some (.ref p),some (.ref q),some (.str z),z3] s1=.ok (.nx [some (.ref p),some (.ref q),some (.str z),z3]) s1:=by
    simp [i1,i2,i3,m1]
   simp only [List.map_cons,forD,gN,List.set_cons_succ,List.set_cons_zero]
   rw [B]
   simp only [zau,zJ]
   exact e
 obtain ⟨z2',e⟩:=loop ks' (fun _ h=>h) none none
 show (zaf mr [some (.ref p),some (.ref q),none,none] st).bind endOf=_
 have t15:tyb "dict" "dict" = some true:=rfl
 have lens:((ks.length:Int)=(ks'.length:Int)):=by omega
 have A:(zcz (zc 1) (gN 2) (bdR mr)) [some (.ref p),some (.ref q),none,none] st=.ok (.nx [some (.ref p),some (.ref q),z2',none]) st:=by
  rw [zpt]
  simp only [j0,List.getElem?_cons_succ,List.getElem?_cons_zero,zJ,zbg,zcB gq]
  rw [e]
  simp only [zau,zJ,thawM,gq1,back]
 have C:(zN (jN (je (mB (zl (yA isT) (ze (zc 0) (ze (mC (.ty "dict")) zj))))) (mB (zg yV (zl zS (ze (zc 0) zj)) (zl zS (ze (zc 1) zj))))) (zI (mC (.bl false))) zQ) [some (.ref p),some (.ref q),none,none] st=.ok (.nx [some (.ref p),some (.ref q),none,none]) st:=by
  simp [id2,t15,optB,l1,l2,lens]
 have T:(mB (zl (yA isT) (ze (zc 1) (ze (mC (.ty "dict")) zj)))) [some (.ref p),some (.ref q),none,none] st=.ok true st:=by
  simp [id1,t15,optB]
 simp only [zaf,yN]
 rw [za8,T]
 simp only [zJ,if_true,yN]
 rw [C]
 simp only [zJ,jE,yN]
 unfold bdR at A
 rw [A]
 rfl
abbrev bdT (mr:List PV->Mo PV):zd->Mo Fl:=(zN (je (mB (zl mr (ze (zg yW (zc 0) (zc 3)) (ze (zg yW (zc 1) (zc 3)) zj)))))
  (zI (mC (.bl false)))
  zQ)
theorem ziV {st:Sto}{mr:List PV->Mo PV}{xs ys:List PV}(len:xs.length=ys.length) (hl:ys.length<=1000) (hm:∀(i:Nat) x y,xs[i]?=some x->ys[i]?=some y->mr [x,y] st=.ok (.bl true) st):wu mr [.tup xs,.tup ys] st=.ok (.bl true) st:=by
 have ex:∀(zs:List PV) t,yA isT [.tup zs,.ty t] st=optB (tyb "tuple" t) st:=fun _ _=>rfl
 obtain ⟨env',st',F',z3,rfl,hst⟩:=zbB (g:=gN 3) (body:=bdT mr) (fun i e s=>∃z3,e=[some (.tup xs),some (.tup ys),none,z3]/\s=st) ys.length (fun i e s hi ⟨z3,he,hs⟩=>by
  subst he hs
  have hx:xs[i]?=some (xs[i]'(by omega)):=List.getElem?_eq_getElem (by omega)
  have hy:ys[i]?=some (ys[i]'(by omega)):=List.getElem?_eq_getElem (by omega)
  have m1:=hm i _ _ hx hy
  have ax:=atI_get hx
  have ay:=atI_get hy
  have f1:∀(zs:List PV) (i:Int),yW (.tup zs) (.int i) s=optR (atI zs i) s:=fun _ _=>rfl
  exact ⟨[some (.tup xs),some (.tup ys),none,some (.int (i:Int))],_,s,rfl,by simp [f1,ax,ay,m1];rfl,_,rfl,rfl⟩) ys.length 0 [some (.tup xs),some (.tup ys),none,none] st (by omega) ⟨none,rfl,rfl⟩
 rw [hst] at F'
 have R:=zbC ys.length st hl
 have lens:((xs.length:Int)=(ys.length:Int)):=by omega
 have T1:(mB (zl (yA isT) (ze (zc 1) (ze (mC (.ty "dict")) zj)))) [some (.tup xs),some (.tup ys),none,none] st=.ok false st:=by
  simp [ex,t11,optB]
 have T2:(mB (zl (yA isT) (ze (zc 1) (ze (mC (.ty "tuple")) zj)))) [some (.tup xs),some (.tup ys),none,none] st=.ok true st:=by
  simp [ex,jy,optB]
 have C:(zN (jN (je (mB (zl (yA isT) (ze (zc 0) (ze (mC (.ty "tuple")) zj))))) (mB (zg yV (zl zS (ze (zc 0) zj)) (zl zS (ze (zc 1) zj))))) (zI (mC (.bl false))) zQ) [some (.tup xs),some (.tup ys),none,none] st=.ok (.nx [some (.tup xs),some (.tup ys),none,none]) st:=by
  simp [ex,jy,optB,lens]
 have A:(jH (iRng1 (ze (zl zS (ze (zc 1) zj)) zj)) (gN 3) (bdT mr)) [some (.tup xs),some (.tup ys),none,none] st=.ok (.nx [some (.tup xs),some (.tup ys),none,z3]) st:=by
  simp only [zcn,w6,zat,zas,za6,j0,List.getElem?_cons_succ,List.getElem?_cons_zero,zJ,zps]
  rw [R]
  simp only [zJ,za9]
  exact F'
 show (zaf mr [some (.tup xs),some (.tup ys),none,none] st).bind endOf=_
 simp only [zaf,yN]
 rw [za8,T1]
 simp only [zJ,Bool.false_eq_true,↓reduceIte,zgY,jE,zc8,yN]
 rw [za8,T2]
 simp only [zJ,if_true,yN]
 rw [C]
 simp only [zJ,jE,yN]
 unfold bdT at A
 rw [A]
 rfl
theorem zaL {a:Sto}:∀(n:Nat) (t:Tr) (v w:PV) (S:List Nat) (st:Sto),dp t<n->sz t<=1000->Fz S a st->(∀m∈S,∃u,TR a u (.ref m)/\sz t<sz u)->TR a t v->TR a t w->yL n [v,w] st=.ok (.bl true) st:=by
 intro n
 induction n with
 | zero=>intro t v w S st h;omega
 | succ n ih =>
  intro t v w S st hd hz F big tv tw
  show wu (yL n) [v,w] st=_
  cases t with
  | num i =>
   cases tv;cases tw
   have e:∀t,yA isT [.int i,.ty t] st=optB (tyb "int" t) st:=fun _=>rfl
   have q:wH (.int i) (.int i) st=.ok (.bl true) st:=by
    unfold wH
    rw [show eqT st 150 (.int i) (.int i)=some true by show some (i==i)=_;simp]
   simp [wu,zF,zaf,zc8,zfd,ziE,e,t1,t2,t3,t4,wP,optB,q]
  | word z =>
   obtain ⟨rfl,_⟩:=tv
   obtain ⟨rfl,_⟩:=tw
   have e:∀t,yA isT [.str z,.ty t] st=optB (tyb "str" t) st:=fun _=>rfl
   have q:wH (.str z) (.str z) st=.ok (.bl true) st:=by
    unfold wH
    rw [show eqT st 150 (.str z) (.str z)=some true by show some (z==z)=_;simp]
   simp [wu,zF,zaf,zc8,zfd,e,t5,t6,t7,optB,q]
  | row ts =>
   obtain ⟨xs,rfl,r1⟩:=tv
   obtain ⟨ys,rfl,r2⟩:=tw
   have l1:=r1.len
   have l2:=r2.len
   have hb:=y0 ts
   simp only [sz] at hz big
   simp only [dp] at hd
   refine ziV (by omega) (by omega) fun i x y hx hy=>?_
   obtain ⟨u,hu,tx⟩:=r1.get hx
   obtain ⟨u',hu',ty⟩:=r2.get hy
   rw [hu] at hu'
   cases hu'
   have hm:=List.mem_of_getElem? hu
   have hsz:=ww hm
   have hdp:=zda hm
   exact ih u _ _ S st (by omega) (by omega) F (fun m h=>by
    obtain ⟨u',h1,h2⟩:=big m h
    exact ⟨u',h1,by omega⟩) tx ty
  | rec_ ks ts =>
   have tv':=tv
   have tw':=tw
   obtain ⟨p,xs,rfl,g1,nd,ll,r1,_⟩:=tv
   obtain ⟨q,ys,rfl,g2,_,ll2,r2,_⟩:=tw
   have np:∀m,TR a (.rec_ ks ts) (.ref m)->m∉S:=fun m h hm=>by
    obtain ⟨u,hu,hs⟩:=big m hm
    rw [TR.one _ _ h hu] at hs
    omega
   refine ziU g1 g2 r1 r2 rfl ll2 F (np p tv') (np q tw') (fun k u h=>h) fun k u x y hk tx ty=>?_
   have hsz:sz u<sz (.rec_ ks ts):=by
    have:=ww (zbE hk)
    simp only [sz];omega
   have hdp:dp u<n:=by
    have:=zda (zbE hk)
    simp only [dp] at hd;omega
   refine ih u x y (q::S) _ hdp (by omega) ⟨fun m hm=>?_⟩ (fun m hm=>?_) tx ty
   ·rw [List.getElem?_set_ne (fun e=>hm (by rw [e];exact List.mem_cons_self ..))]
    exact F.out m fun h=>hm (List.mem_cons_of_mem _ h)
   ·rcases List.mem_cons.mp hm with e|e
    ·rw [e];exact ⟨_,tw',hsz⟩
    ·obtain ⟨u',h1,h2⟩:=big m e
     exact ⟨u',h1,by omega⟩
theorem zrX {a:Sto}{n:Nat}{ks ks':List Str}{ts us:List Tr}{v w:PV}(hd:dp (.rec_ ks' us)<n) (hz:sz (.rec_ ks' us)<=1000) (tv:TR a (.rec_ ks ts) v) (tw:TR a (.rec_ ks' us) w) (len:ks.length=ks'.length) (sub:∀k u,(ks'.zip us).lookup k=some u->(ks.zip ts).lookup k=some u):yL n [v,w] a=.ok (.bl true) a:=by
 obtain ⟨m,rfl⟩:∃m,n=m+1:=⟨n-1,by omega⟩
 have tw':=tw
 obtain ⟨p,xs,rfl,g1,nd,ll,r1,_⟩:=tv
 obtain ⟨q,ys,rfl,g2,_,ll2,r2,_⟩:=tw
 show wu (yL m) [.ref p,.ref q] a=_
 refine ziU g1 g2 r1 r2 len ll2 (Fz.refl a) (by simp) (by simp) sub fun k u x y hk tx ty=>?_
 have hsz:sz u<sz (.rec_ ks' us):=by
  have:=ww (zbE hk)
  simp only [sz];omega
 have hdp:dp u<m:=by
  have:=zda (zbE hk)
  simp only [dp] at hd;omega
 refine zaL m u x y [q] _ hdp (by omega) ⟨fun i hi=>?_⟩ (fun i hi=>?_) tx ty
 ·rw [List.getElem?_set_ne (fun e=>hi (by rw [e];exact List.mem_cons_self ..))]
 ·rw [List.mem_singleton.mp hi];exact ⟨_,tw',hsz⟩
def OcV (st:Sto):Str ⊕ Tr->PV->Prop
 | .inl w,v=>v=.tup [.str "fault", .str w]
 | .inr t,v=>∃x,v=.tup [.str "told", x]/\TR st t x
def chk (t:Tr):Str ⊕ Tr:=if sz t<=60 then .inr t else .inl "large"
theorem zrY {op f:Str}{ks:List Str}(h:(j8.zip j9).lookup op=some (.tup [.tup (ks.map PV.str),.fn f])) (st:Sto):wK [.str op] st=.ok (.ref st.length) (st++[OpO op ks.length]):=by
 simp [wK,zF,zia,zh9,kdIn,h,newI,zeR,zh8,zh7,jj,insOf,Mi.putK,yO]
theorem mkOp {op f:Str}{ks:List Str}{mt:List PV->Mo PV}(h:(j8.zip j9).lookup op=some (.tup [.tup (ks.map PV.str),.fn f])) (h':zbu f=some mt):OpIs op ks f mt:=⟨h,h',zrY h⟩
theorem ziW:OpIs "front" ["any", "row"] "tell_front" zcW:=mkOp rfl rfl
theorem zfj:OpIs "head" ["row"] "tell_head" zbp:=mkOp rfl rfl
theorem zfk:OpIs "rest" ["row"] "tell_rest" zbq:=mkOp rfl rfl
theorem ziX:OpIs "many" ["row"] "tell_many" zcX:=mkOp rfl rfl
theorem zfl:OpIs "item" ["row", "number"] "tell_item" zbr:=mkOp rfl rfl
theorem zfm:OpIs "put" ["row", "number", "any"] "tell_put" zbs:=mkOp rfl rfl
theorem zfn:OpIs "field" ["record", "word"] "tell_field" zbt:=mkOp rfl rfl
theorem ziY:OpIs "set" ["record", "word", "any"] "tell_set" zcZ:=mkOp rfl rfl
section
variable {op f:Str}{ks:List Str}{mt:List PV->Mo PV}{ts:List Tr}{xs:List PV}{st st1:Sto}{o:Nat}{k:Int}
theorem wQ {t:Tr}{v:PV}(h:OpIs op ks f mt) (ho:st[o]?=some (OpO op k)) (hr:TRs st ts xs) (hl:ks.length=ts.length) (hf:fits ks ts=true) (hm:mt [.tup xs] st=.ok v st1) (hv:TR st1 t v) (o1:Old st st1) (hs:sz t<=10000) :
  ∃f st2,yC [.ref o,.tup xs] st=.ok f st2/\Old st st2/\OcV st2 (chk t) f:=by
 obtain ⟨st2,o2,e⟩:=zrV h ho hr hl hf hm hv hs
 unfold chk
 by_cases hz:sz t<=60
 ·rw [if_pos hz] at e ⊢
  exact ⟨_,st2,zrW ho e,o1.trans o2,v,rfl,hv.mono o2.dk⟩
 ·rw [if_neg hz] at e ⊢
  exact ⟨_,st2,ziS ho e,o1.trans o2,rfl⟩
theorem zbF {w:Str} (h:OpIs op ks f mt) (ho:st[o]?=some (OpO op k)) (hr:TRs st ts xs) (hl:ks.length=ts.length) (hf:fits ks ts=true) (hm:mt [.tup xs] st=.err "Fault" ["word"] [.str w] st) :
  ∃f st2,yC [.ref o,.tup xs] st=.ok f st2/\Old st st2/\OcV st2 (.inl w) f:=⟨_,st,ziS ho (zrU h ho hr hl hf hm),Old.refl _,rfl⟩
end
theorem zdb {xs:List PV} {st:Sto}:zaJ [.tup xs] st=if xs=[] then .err "Fault" ["word"] [.str "empty"] st else .ok (.tup xs) st:=by
 by_cases h:xs=[]
 ·subst h;simp [zaJ,zF,zeT]
 ·rw [if_neg h]
  have:¬((xs.length:Int)=0):=by
   intro e
   exact h (List.length_eq_zero_iff.mp (by omega))
  simp [zaJ,zF,zeT,zil,h]
theorem zrZ (x:PV) (r:List PV):cutP (x::r) (some 1) none=r:=by
 simp [cutP,HT.sIx]
theorem zdc {xs:List PV} {i:Int} {st:Sto}:zac [.tup xs,.int i] st=if 0<=i/\i<xs.length then .ok (.int i) st else .err "Fault" ["word"] [.str "place"] st:=by
 by_cases h0:0<=i
 ·by_cases h1:i<xs.length
  ·rw [if_pos ⟨h0,h1⟩];simp [zac,zF,zcY,zio,h0,h1]
  ·rw [if_neg (fun z=>h1 z.2)];simp [zac,zF,zcY,h0,h1]
 ·rw [if_neg (fun z=>h0 z.1)];simp [zac,zF,zcY,h0]
theorem ziZ {l:List PV}{m:Nat}(h:m<=l.length):cutP l none (some (m:Int))=l.take m:=by
 have:¬((m:Int)<0):=by omega
 simp [cutP,HT.sIx,this]
theorem zi0 {l:List PV}{m:Nat}(h:m<=l.length):cutP l (some (m:Int)) none=l.drop m:=by
 have:¬((m:Int)<0):=by omega
 simp [cutP,HT.sIx,this]
 rw [Nat.min_eq_left h,List.take_of_length_le (by simp)]
theorem zr0 {st:Sto}{n:Nat}{ks:List Str}{xs:List PV}(hn:st[n]?=some (.dic ks xs)) (w:Str):yx true (.str w) (.ref n) st=.ok (.bl (!((ks.zip xs).lookup w).isSome)) st:=by
 simp [yx,hn]
theorem zr1 {st:Sto}{n:Nat}{ks:List Str}{xs:List PV}(hn:st[n]?=some (.dic ks xs)) (w:Str):zq (.ref n) (.str w) st=optR ((ks.zip xs).lookup w) st:=by
 simp only [zq,zdW,zcB hn]
theorem zi1 {α:Type}{w:Str}:∀{ks:List Str}{ts:List α}{t:α},(ks.zip ts).lookup w=some t->t∈ts
 | [],_,_,h=>by simp at h
 | _::_,[],_,h=>by simp at h
 | k::ks,t::ts,u,h=>by
  simp only [List.zip_cons_cons,List.lookup_cons] at h
  split at h
  ·cases h;simp
  ·exact List.mem_cons_of_mem _ (zi1 h)
theorem zdd {st:Sto}{n:Nat}{ks:List Str}{xs:List PV}(hn:st[n]?=some (.dic ks xs)) (hl:ks.length<=1000) (z:Str) (x:PV):j3 (.str z) x (.ref n) st=.ok () (st.set n (.dic (yq z x ks xs).1 (yq z x ks xs).2)):=by
 simp only [j3,zcB hn]
 rw [if_pos (by show ks.length<1000000;omega)]
@[simp] theorem zr2 {fo fi fv:zd->Mo PV}{env:zd}{st:Sto}:wo fo fi fv env st=(fv env st).bind fun x st1=>(fo env st1).bind fun o st2=>(fi env st2).bind fun z st3=>(j3 z x o st3).bind fun _ st4=>.ok (.nx env) st4:=(rfl)
def putK (z:Str) (ks:List Str):List Str:=if ks.contains z=true then ks else ks++[z]
def putT (z:Str) (t:Tr) (ks:List Str) (ts:List Tr):List Tr:=if ks.contains z=true then repl z t ks ts else ts++[t]
theorem TRs.repl {st:Sto}{z:Str}{t:Tr}{x:PV}(h:TR st t x):∀{ks:List Str}{ts:List Tr}{xs:List PV},TRs st ts xs->TRs st (Mi.repl z t ks ts) (Mi.repl z x ks xs)
 | [],_,_,hr=>by simpa [Mi.repl] using hr
 | k::ks,[],_,hr=>by cases hr;simp [Mi.repl,TRs]
 | k::ks,u::us,_,hr=>by
  obtain ⟨y,r,rfl,h1,h2⟩:=hr
  have ih:=TRs.repl (z:=z) h (ks:=ks) h2
  by_cases hk:k=z
  ·exact ⟨x,_,by simp [Mi.repl,hk],by simpa [hk] using h,ih⟩
  ·exact ⟨y,_,by simp [Mi.repl,hk],by simpa [hk] using h1,ih⟩
theorem zr3 {st:Sto}{z:Str}{t:Tr}{x:PV}(h:TR st t x) {ks:List Str}{ts:List Tr}{xs:List PV}(hr:TRs st ts xs):TRs st (putT z t ks ts) (yq z x ks xs).2/\(yq z x ks xs).1=putK z ks:=by
 unfold putT yq putK
 split
 ·exact ⟨TRs.repl h hr,rfl⟩
 ·exact ⟨hr.append ⟨x,[],rfl,h,rfl⟩,rfl⟩
theorem zr4 {z:Str}{ks:List Str}(h:ks.Nodup):(putK z ks).Nodup:=by
 unfold putK
 split
 ·exact h
 ·rename_i hz
  rw [List.nodup_append]
  refine ⟨h,by simp,fun a ha b hb e=>?_⟩
  rw [List.mem_singleton.mp hb] at e
  subst e
  exact hz (by simpa using ha)
theorem zr5 {z k:Str}{ks:List Str}(h:k∈putK z ks):k∈ks\/k=z:=by
 unfold putK at h
 split at h
 ·exact .inl h
 ·rcases List.mem_append.mp h with h|h
  ·exact .inl h
  ·exact .inr (List.mem_singleton.mp h)
theorem repl_len {α:Type}{z:Str}{t:α}:∀{ks:List Str}{ts:List α},(repl z t ks ts).length=ts.length
 | [],ts=>by simp [repl]
 | _::_,[]=>by simp [repl]
 | k::ks,u::us=>by simp [repl,repl_len]
theorem zr6 {z:Str}{t:Tr}{ks:List Str}{ts:List Tr}(h:ks.length=ts.length):(putK z ks).length=(putT z t ks ts).length:=by
 unfold putK putT
 split
 ·rw [repl_len];exact h
 ·simp [h]
theorem zi2 {z:Str}{t:Tr}:∀{ks:List Str}{ts:List Tr},szs (repl z t ks ts)<=szs ts+sz t*ks.length
 | [],ts=>by simp [repl]
 | _::_,[]=>by simp [repl,szs]
 | k::ks,u::us=>by
  have ih:=zi2 (z:=z) (t:=t) (ks:=ks) (ts:=us)
  have e:sz t*(ks.length+1)=sz t*ks.length+sz t:=Nat.mul_succ _ _
  simp only [repl,szs,List.length_cons]
  rw [e]
  split<;>omega
theorem zi3 {z:Str}{t:Tr}{ks:List Str}{ts:List Tr}:szs (putT z t ks ts)<=szs ts+sz t*(ks.length+1):=by
 have e:sz t*(ks.length+1)=sz t*ks.length+sz t:=Nat.mul_succ _ _
 unfold putT
 split
 ·have:=zi2 (z:=z) (t:=t) (ks:=ks) (ts:=ts);omega
 ·rw [jx];simp only [szs];omega
section
variable {st:Sto}{o:Nat}{k:Int}{us:List Tr}{ys:List PV}{t:Tr}{x:PV}
theorem zr7 (ho:st[o]?=some (OpO "front" k)) (hx:TR st t x) (hr:TRs st us ys) (hz:sz (.row (t::us))<=10000):∃f st',yC [.ref o,.tup [x,.tup ys]] st=.ok f st'/\Old st st'/\OcV st' (chk (.row (t::us))) f:=by
 have ll:=hr.len
 have sl:=y0 us
 refine wQ ziW ho (ts:=[t,.row us]) ⟨x,_,rfl,hx,_,_,rfl,⟨ys,rfl,hr⟩,rfl⟩ rfl (by simp [fits,kn]) (st1:=st) (v:=.tup (x::ys)) ?_ ⟨_,rfl,x,ys,rfl,hx,hr⟩ (Old.refl _) hz
 have hlim:1+ys.length<=1000000:=by simp only [sz,szs] at hz;omega
 simp [zcW,zF,zik,yO,jG,hlim]
def hdOc:List Tr->Str ⊕ Tr
 | []=>.inl "empty"
 | u::_=>chk u
theorem zr8 (ho:st[o]?=some (OpO "head" k)) (hr:TRs st us ys) (hz:szs us<=9000):∃f st',yC [.ref o,.tup [.tup ys]] st=.ok f st'/\Old st st'/\OcV st' (hdOc us) f:=by
 have tr:TRs st [.row us] [.tup ys]:=⟨_,_,rfl,⟨ys,rfl,hr⟩,rfl⟩
 cases us with
 | nil=>cases hr;exact zbF zfj ho tr rfl (by simp [fits,kn]) (by simp [zbp,zF,zeU,yO,zdb])
 | cons u us =>
  obtain ⟨y,r,rfl,h2,h3⟩:=hr
  exact wQ zfj ho tr rfl (by simp [fits,kn]) (st1:=st) (v:=y) (by simp [zbp,zF,zeU,yO,zdb]) h2 (Old.refl _) (by simp only [szs] at hz;omega)
def rsOc:List Tr->Str ⊕ Tr
 | []=>.inl "empty"
 | _::us=>chk (.row us)
theorem zr9 (ho:st[o]?=some (OpO "rest" k)) (hr:TRs st us ys) (hz:szs us<=9000):∃f st',yC [.ref o,.tup [.tup ys]] st=.ok f st'/\Old st st'/\OcV st' (rsOc us) f:=by
 have tr:TRs st [.row us] [.tup ys]:=⟨_,_,rfl,⟨ys,rfl,hr⟩,rfl⟩
 cases us with
 | nil=>cases hr;exact zbF zfk ho tr rfl (by simp [fits,kn]) (by simp [zbq,zF,zeV,yO,zdb])
 | cons u us =>
  obtain ⟨y,r,rfl,h2,h3⟩:=hr
  exact wQ zfk ho tr rfl (by simp [fits,kn]) (st1:=st) (v:=.tup r) (by simp [zbq,zF,zeV,yO,zdb,zrZ]) ⟨_,rfl,h3⟩ (Old.refl _) (by simp only [sz,szs] at hz ⊢;omega)
theorem zsa (ho:st[o]?=some (OpO "many" k)) (hr:TRs st us ys):∃f st',yC [.ref o,.tup [.tup ys]] st=.ok f st'/\Old st st'/\OcV st' (chk (.num us.length)) f:=by
 have tr:TRs st [.row us] [.tup ys]:=⟨_,_,rfl,⟨ys,rfl,hr⟩,rfl⟩
 have ll:=hr.len
 exact wQ ziX ho tr rfl (by simp [fits,kn]) (st1:=st) (v:=.int ys.length) (by simp [zcX,zF,zin,yO]) (by show _=_;rw [ll]) (Old.refl _) (by simp [sz])
def itOc (us:List Tr) (i:Int):Str ⊕ Tr:=if 0<=i/\i<us.length then chk ((us[i.toNat]?).getD (.num 0)) else .inl "place"
theorem zsb (ho:st[o]?=some (OpO "item" k)) (hr:TRs st us ys) (i:Int) (hz:szs us<=9000):∃f st',yC [.ref o,.tup [.tup ys,.int i]] st=.ok f st'/\Old st st'/\OcV st' (itOc us i) f:=by
 have tr:TRs st [.row us,.num i] [.tup ys,.int i]:=⟨_,_,rfl,⟨ys,rfl,hr⟩,_,_,rfl,rfl,rfl⟩
 have ll:=hr.len
 unfold itOc
 by_cases hi:0<=i/\i<us.length
 ·rw [if_pos hi]
  obtain ⟨n,rfl⟩:=Int.eq_ofNat_of_zero_le hi.1
  have lt:n<ys.length:=by omega
  obtain ⟨t,e1,e2⟩:=hr.get (List.getElem?_eq_getElem lt)
  have hm:=ww (List.mem_of_getElem? e1)
  have hi':(0:Int)<=(n:Int)/\(n:Int)<ys.length:=by omega
  rw [show ((us[((n:Nat):Int).toNat]?).getD (.num 0))=t by rw [Int.toNat_natCast,e1];rfl]
  exact wQ zfl ho tr rfl (by simp [fits,kn]) (st1:=st) (v:=ys[n]) (by simp [zbr,zF,zeX,zeW,yO,jG,zdc,lt,atI_get (List.getElem?_eq_getElem lt)]) e2 (Old.refl _) (by omega)
 ·rw [if_neg hi]
  have hi':¬(0<=i/\i<ys.length):=fun z=>hi ⟨z.1,by omega⟩
  exact zbF zfl ho tr rfl (by simp [fits,kn]) (by simp [zbr,zF,zeX,zeW,yO,jG,zdc,hi'])
def ptOc (us:List Tr) (i:Int) (t:Tr):Str ⊕ Tr:=if 0<=i/\i<us.length then chk (.row (us.take i.toNat++[t]++us.drop (i.toNat+1))) else .inl "place"
theorem zfo (ts:List Tr) (n:Nat):szs (ts.take n)+szs (ts.drop n)=szs ts:=by rw [<-jx,List.take_append_drop]
theorem zsc (ho:st[o]?=some (OpO "put" k)) (hr:TRs st us ys) (i:Int) (hx:TR st t x) (hz:szs us<=4000) (ht:sz t<=900):∃f st',yC [.ref o,.tup [.tup ys,.int i,x]] st=.ok f st'/\Old st st'/\OcV st' (ptOc us i t) f:=by
 have tr:TRs st [.row us,.num i,t] [.tup ys,.int i,x]:=⟨_,_,rfl,⟨ys,rfl,hr⟩,_,_,rfl,rfl,_,_,rfl,hx,rfl⟩
 have ll:=hr.len
 have sl:=y0 us
 unfold ptOc
 by_cases hi:0<=i/\i<us.length
 ·rw [if_pos hi]
  obtain ⟨n,rfl⟩:=Int.eq_ofNat_of_zero_le hi.1
  rw [Int.toNat_natCast]
  have lt:n<ys.length:=by omega
  have hs1:TRs st [t] [x]:=⟨x,[],rfl,hx,rfl⟩
  have e1:=zfo us n
  have e2:=zfo us (n+1)
  refine wQ zfm ho tr rfl (by simp [fits,kn]) (st1:=st) (v:=.tup (ys.take n++[x]++ys.drop (n+1))) ?_ ⟨_,rfl,((hr.take n).append hs1).append (hr.drop (n+1))⟩ (Old.refl _) (by simp only [sz,jx,szs];omega)
  have c1:=ziZ (l:=ys) (m:=n) (by omega)
  have c2:=zi0 (l:=ys) (m:=n+1) (by omega)
  rw [show ((n+1:Nat):Int)=(n:Int)+1 from rfl] at c2
  have e1:(ys.take n).length+1<=1000000:=by simp;omega
  have e2:(ys.take n++[x]).length+(ys.drop (n+1)).length<=1000000:=by simp;omega
  have a1:zP (.tup (ys.take n)) (.tup [x]) st=.ok (.tup (ys.take n++[x])) st:=by
   show (if (ys.take n).length+1<=lim then _ else _)=_
   rw [if_pos e1]
  have a2:zP (.tup (ys.take n++[x])) (.tup (ys.drop (n+1))) st=.ok (.tup (ys.take n++[x]++ys.drop (n+1))) st:=by
   show (if (ys.take n++[x]).length+(ys.drop (n+1)).length<=lim then _ else _)=_
   rw [if_pos e2]
  generalize ys.take n++[x]++ys.drop (n+1)=r at a2 ⊢
  generalize ys.take n++[x]=q at a1 a2
  generalize ys.take n=q0 at a1 c1
  generalize ys.drop (n+1)=q1 at a2 c2
  have c1':y4 (.tup ys) none (some (n:Int)) st=.ok (.tup q0) st:=by rw [zcl,c1]
  have c2':y4 (.tup ys) (some ((n:Int)+1)) none st=.ok (.tup q1) st:=by rw [zcl,c2]
  simp only [zbs,zF,ze0,zeZ,zis]
  simp [-zcl,yO,jG,at2,zdc,lt,c1',c2',-zgX,a1,a2]
 ·rw [if_neg hi]
  have hi':¬(0<=i/\i<ys.length):=fun z=>hi ⟨z.1,by omega⟩
  exact zbF zfm ho tr rfl (by simp [fits,kn]) (by simp [zbs,zF,ze0,zeZ,yO,jG,zdc,hi'])
def fdOc (ks:List Str) (us:List Tr) (z:Str):Str ⊕ Tr:=match (ks.zip us).lookup z with
 | some u=>chk u
 | none=>.inl "field"
theorem zsd (ho:st[o]?=some (OpO "field" k)) {ks:List Str} {v:PV} (hv:TR st (.rec_ ks us) v) {z:Str} (hz:z.length<=1000) (hs:szs us<=9000):∃f st',yC [.ref o,.tup [v,.str z]] st=.ok f st'/\Old st st'/\OcV st' (fdOc ks us z) f:=by
 have tr:TRs st [.rec_ ks us,.word z] [v,.str z]:=⟨_,_,rfl,hv,_,_,rfl,⟨rfl,hz⟩,rfl⟩
 obtain ⟨n,ys,rfl,hn,nd,hl2,hr,hk⟩:=hv
 have e1:=zr0 hn z
 have e2:=zr1 hn z
 unfold fdOc
 cases hlk:(ks.zip ys).lookup z with
 | none =>
  rw [hlk] at e1
  rw [ziJ hr hlk]
  exact zbF zfn ho tr rfl (by simp [fits,kn]) (by simp [zbt,zF,ze2,ze1,yO,jG,e1])
 | some w =>
  rw [hlk] at e1 e2
  obtain ⟨t,q1,q2⟩:=ziI hr hlk
  have hm:=ww (zi1 q1)
  rw [q1]
  exact wQ zfn ho tr rfl (by simp [fits,kn]) (st1:=st) (v:=w) (by simp [zbt,zF,ze2,ze1,ziu,yO,jG,e1,e2]) q2 (Old.refl _) (by omega)
theorem zse (ho:st[o]?=some (OpO "set" k)) {ks:List Str} {v:PV} (hv:TR st (.rec_ ks us) v) {z:Str} (hz:z.length<=1000) (hx:TR st t x) (hs:szs us<=60) (ht:sz t<=100):∃f st',yC [.ref o,.tup [v,.str z,x]] st=.ok f st'/\Old st st'/\OcV st' (chk (.rec_ (putK z ks) (putT z t ks us))) f:=by
 have tr:TRs st [.rec_ ks us,.word z,t] [v,.str z,x]:=⟨_,_,rfl,hv,_,_,rfl,⟨rfl,hz⟩,_,_,rfl,hx,rfl⟩
 obtain ⟨n,ys,rfl,hn,nd,hl2,hr,hk⟩:=hv
 have l1:=y0 us
 have ll:=hr.len
 have lk:ks.length<=60:=by omega
 have ht1:=yu st (.dic ks ys)
 have dp:=zdd ht1 (by omega) z x
 have se:(st++[SO.dic ks ys]).set st.length (.dic (yq z x ks ys).1 (yq z x ks ys).2)=st++[.dic (yq z x ks ys).1 (yq z x ks ys).2]:=by simp
 rw [se] at dp
 have od:Old st (st++[.dic (yq z x ks ys).1 (yq z x ks ys).2]):=zZ _ _
 obtain ⟨p1,p2⟩:=zr3 (z:=z) (ks:=ks) (hx.mono od.dk) (hr.mono od.dk)
 have ht2:=yu st (.dic (yq z x ks ys).1 (yq z x ks ys).2)
 refine wQ ziY ho tr rfl (by simp [fits,kn]) (st1:=st++[.dic (yq z x ks ys).1 (yq z x ks ys).2]) (v:=.ref st.length) ?_ ⟨st.length,(yq z x ks ys).2,rfl,by rw [<-p2];exact ht2,zr4 nd,by rw [zr6 (t:=t) (by omega:ks.length=us.length)];exact p1.len,p1,fun k hk2=>?_⟩ od ?_
 ·generalize st++[SO.dic (yq z x ks ys).1 (yq z x ks ys).2]=s9 at dp ⊢
  simp [zcZ,zF,ziy,zix,ziw,yO,jG,at2,zcC,zcB hn,dp]
 ·rcases zr5 hk2 with q|q
  ·exact hk k q
  ·rw [q];exact hz
 ·have q:=zi3 (z:=z) (t:=t) (ks:=ks) (ts:=us)
  have q2:sz t*(ks.length+1)<=100*61:=Nat.mul_le_mul ht (by omega)
  simp only [sz]
  omega
end
theorem zsf {a:Sto}{oc:Str ⊕ Tr}{f d:PV}(hf:OcV a oc f) (hd:OcV a oc d) (hw:∀w,oc=.inl w->w.length<=1000) (hs:∀t,oc=.inr t->sz t<=60):yL 64 [f,d] a=.ok (.bl true) a:=by
 cases oc with
 | inl w =>
  cases hf
  cases hd
  have h:=hw w rfl
  have tr:TR a (.row [.word "fault", .word w]) (.tup [.str "fault", .str w]):=⟨_,rfl,_,_,rfl,⟨rfl,by decide⟩,_,_,rfl,⟨rfl,h⟩,rfl⟩
  exact zaL 64 _ _ _ [] a (by simp [dp,dps]) (by simp [sz,szs]) (Fz.refl a) (fun _ h=>by cases h) tr tr
 | inr t =>
  obtain ⟨x,rfl,tx⟩:=hf
  obtain ⟨y,rfl,ty⟩:=hd
  have h:=hs t rfl
  have h2:=zfh t
  have tr:∀z,TR a t z->TR a (.row [.word "told", t]) (.tup [.str "told", z]):=fun z hz=>⟨_,rfl,_,_,rfl,⟨rfl,by decide⟩,_,_,rfl,hz,rfl⟩
  exact zaL 64 _ _ _ [] a (by simp only [dp,dps];omega) (by simp only [sz,szs];omega) (Fz.refl a) (fun _ h=>by cases h) (tr x tx) (tr y ty)
theorem zsg {a:Sto}{ks ks':List Str}{ts us:List Tr}{f d:PV}(hf:OcV a (.inr (.rec_ ks ts)) f) (hd:OcV a (.inr (.rec_ ks' us)) d) (hs:sz (.rec_ ks' us)<=60) (len:ks.length=ks'.length) (sub:∀k u,(ks'.zip us).lookup k=some u->(ks.zip ts).lookup k=some u):yL 64 [f,d] a=.ok (.bl true) a:=by
 obtain ⟨x,rfl,tx⟩:=hf
 obtain ⟨y,rfl,ty⟩:=hd
 have h2:=zfh (.rec_ ks' us)
 show wu (yL 63) _ a=_
 refine ziV rfl (by simp) fun i v w hv hw=>?_
 match i,hv,hw with
 | 0,hv,hw =>
  cases hv;cases hw
  exact zaL 63 (.word "told") _ _ [] a (by simp [dp]) (by simp [sz]) (Fz.refl a) (fun _ h=>by cases h) ⟨rfl,by decide⟩ ⟨rfl,by decide⟩
 | 1,hv,hw =>
  cases hv;cases hw
  exact zrX (by omega) (by omega) tx ty len sub
 | n+2,hv,hw=>simp at hv
def prs:List Tr->List PV->List PV
 | t::ts,v::vs=>.tup [v,.int (sz t)]::prs ts vs
 | _,_=>[]
theorem jJ:∀{ts:List Tr}{vs:List PV},ts.length=vs.length->(prs ts vs).length=ts.length
 | [],[],_=>rfl
 | t::ts,v::vs,h=>by simp [prs,jJ (by simpa using h)]
 | [],_::_,h=>by simp at h
 | _::_,[],h=>by simp at h
theorem zfp:∀(k:Nat) {ts:List Tr}{vs:List PV},ts.length=vs.length->(prs ts vs).drop k=prs (ts.drop k) (vs.drop k)
 | 0,_,_,_=>rfl
 | k+1,[],[],_=>rfl
 | k+1,t::ts,v::vs,h=>by simp [prs,zfp k (by simpa using h)]
 | _,[],_::_,h=>by simp at h
 | _,_::_,[],h=>by simp at h
theorem zfq:∀(k:Nat) {ts:List Tr}{vs:List PV},ts.length=vs.length->(prs ts vs).take k=prs (ts.take k) (vs.take k)
 | 0,_,_,_=>by simp [prs]
 | k+1,[],[],_=>rfl
 | k+1,t::ts,v::vs,h=>by simp [prs,zfq k (by simpa using h)]
 | _,[],_::_,h=>by simp at h
 | _,_::_,[],h=>by simp at h
theorem zfr:∀{ts us:List Tr}{vs ws:List PV},ts.length=vs.length->prs (ts++us) (vs++ws)=prs ts vs++prs us ws
 | [],us,[],ws,_=>rfl
 | t::ts,us,v::vs,ws,h=>by simp [prs,zfr (by simpa using h)]
 | [],_,_::_,_,h=>by simp at h
 | _::_,_,[],_,h=>by simp at h
theorem zfs:∀{ts:List Tr}{vs:List PV}{i:Nat}{t:Tr}{v:PV},ts[i]?=some t->vs[i]?=some v->(prs ts vs)[i]?=some (.tup [v,.int (sz t)])
 | [],_,_,_,_,h,_=>by simp at h
 | _::_,[],_,_,_,_,h=>by simp at h
 | t::ts,v::vs,0,_,_,h,h'=>by cases h;cases h';rfl
 | t::ts,v::vs,i+1,_,_,h,h'=>by simpa [prs] using zfs (ts:=ts) (by simpa using h) (by simpa using h')
theorem zbG {x:PV}:∀{ts:List Tr}{vs:List PV},x∈prs ts vs->∃v n,x=.tup [v,.int n]
 | [],_,h=>by simp [prs] at h
 | _::_,[],h=>by simp [prs] at h
 | t::ts,v::vs,h=>by
  rcases List.mem_cons.mp (by simpa [prs] using h) with q|q
  ·exact ⟨v,_,q⟩
  ·exact zbG q
def fst:PV->PV
 | .tup (v::_)=>v
 | _=>.non
def snd:PV->PV
 | .tup (_::n::_)=>n
 | _=>.non
theorem zde:∀{ts:List Tr}{vs:List PV},ts.length=vs.length->(prs ts vs).map fst=vs
 | [],[],_=>rfl
 | t::ts,v::vs,h=>by simp [prs,fst,zde (by simpa using h)]
 | [],_::_,h=>by simp at h
 | _::_,[],h=>by simp at h
theorem zi4:∀{ts:List Tr}{vs:List PV},ts.length=vs.length->(prs ts vs).map snd=(ts.map fun t=>(sz t:Int)).map PV.int
 | [],[],_=>rfl
 | t::ts,v::vs,h=>by simp [prs,snd,zi4 (by simpa using h)]
 | [],_::_,h=>by simp at h
 | _::_,[],h=>by simp at h
structure HL (st:Sto) (l:Nat) (ts:List Tr) (vs:List PV):Prop where
 at_:st[l]?=some (.lst (prs ts vs))
 tr:TRs st ts vs
theorem HL.mono {a b:Sto}{l:Nat}{ts:List Tr}{vs:List PV}(h:HL a l ts vs) (o:Old a b):HL b l ts vs:=⟨o _ _ h.at_,h.tr.mono o.dk⟩
theorem zft:∀is:List Int,intsP (is.map PV.int)=some is
 | []=>rfl
 | i::is=>by simp [intsP,zft is]
theorem zfu:∀ts:List Tr,(ts.map fun t=>(sz t:Int)).sum=(szs ts:Nat)
 | []=>rfl
 | t::ts=>by
  simp only [List.map_cons,List.sum_cons,zfu ts,szs]
  omega
section
variable {st:Sto}{l:Nat}{ts:List Tr}{vs:List PV}{env:zd}{i:Nat}
theorem zaM (h:HL st l ts vs) (hl:ts.length<=1000) (he:env[i]?=some (some (.ref l))):yr (yF (zc i)) (zg zq (zc 0) (mC (.int 0))) env st=.ok (.ref st.length) (st++[.lst vs]):=by
 have hv:=h.tr.len
 have pl:=jJ hv
 have q:=zcv (fe:=zg zq (zc 0) (mC (.int 0))) (env:=env) (f:=fst) h.at_ (fun x hx=>by
  obtain ⟨v,n,rfl⟩:=zbG hx
  simp [yO,fst]) (prs ts vs).length 0 (lim+1) [] (by omega) (Nat.zero_le _) (by show _<1000001;omega)
 rw [List.drop_zero,zde hv,List.nil_append] at q
 have hh:=h.at_
 simp only [zbc,zcm,j0,he,zJ,seqOf,yj hh,compS]
 exact q
theorem zbH (h:HL st l ts vs) (hl:ts.length<=1000) (he:env[i]?=some (some (.ref l))):∃d,zl jI (ze (yr (yF (zc i)) (zg zq (zc 0) (mC (.int 1)))) zj) env st=.ok (.int (szs ts:Nat)) (st++[d]):=by
 have hv:=h.tr.len
 have pl:=jJ hv
 have q:=zcv (fe:=zg zq (zc 0) (mC (.int 1))) (env:=env) (f:=snd) h.at_ (fun x hx=>by
  obtain ⟨v,n,rfl⟩:=zbG hx
  simp [jG,snd]) (prs ts vs).length 0 (lim+1) [] (by omega) (Nat.zero_le _) (by show _<1000001;omega)
 rw [List.drop_zero,zi4 hv,List.nil_append] at q
 have hh:=h.at_
 have c:yr (yF (zc i)) (zg zq (zc 0) (mC (.int 1))) env st=.ok (.ref st.length) (st++[.lst ((ts.map fun t=>(sz t:Int)).map PV.int)]):=by
  simp only [zbc,zcm,j0,he,zJ,seqOf,yj hh,compS]
  exact q
 have im:=zft (ts.map fun t=>(sz t:Int))
 have ss:=zfu ts
 refine ⟨.lst ((ts.map fun t=>(sz t:Int)).map PV.int),?_⟩
 simp only [za6,zat,zas,c,zJ,zhq,zhp]
 simp only [zg0,zJ]
 rw [im]
 simp only [ss]
theorem zsi (h:HL st l ts vs) {k:Nat}(hk:k<=ts.length):∃s1,y4 (.ref l) none (some (k:Int)) st=.ok (.ref st.length) s1/\Old st s1/\HL s1 st.length (ts.take k) (vs.take k):=by
 have hv:=h.tr.len
 refine ⟨st++[.lst ((prs ts vs).take k)],?_,zZ _ _,⟨by rw [zfq k hv];exact yu _ _,(h.tr.take k).mono (zZ _ _).dk⟩⟩
 rw [zbd,yj h.at_,ziZ (by rw [jJ hv];exact hk)]
theorem zsj (h:HL st l ts vs) {k:Nat}(hk:k<=ts.length):∃s1,y4 (.ref l) (some (k:Int)) none st=.ok (.ref st.length) s1/\Old st s1/\HL s1 st.length (ts.drop k) (vs.drop k):=by
 have hv:=h.tr.len
 refine ⟨st++[.lst ((prs ts vs).drop k)],?_,zZ _ _,⟨by rw [zfp k hv];exact yu _ _,(h.tr.drop k).mono (zZ _ _).dk⟩⟩
 rw [zbd,yj h.at_,zi0 (by rw [jJ hv];exact hk)]
theorem jK (h:HL st l ts vs):zS [.ref l] st=.ok (.int ts.length) st:=by
 have:=zaD h.at_
 rw [jJ h.tr.len] at this
 exact this
theorem zsk (n m:Nat) (st:Sto):zP (.ref n) (.ref m) st=ye st n fun xs=>ye st m fun ys=>if xs.length+ys.length<=lim then .ok (.ref st.length) (st++[.lst (xs++ys)]) else .stuck:=(rfl)
theorem zaN {l':Nat}{us:List Tr}{ws:List PV}(h:HL st l ts vs) (h':HL st l' us ws) (hl:ts.length+us.length<=1000):∃s1,zP (.ref l) (.ref l') st=.ok (.ref st.length) s1/\Old st s1/\HL s1 st.length (ts++us) (vs++ws):=by
 have hv:=h.tr.len
 have hw:=h'.tr.len
 refine ⟨st++[.lst (prs ts vs++prs us ws)],?_,zZ _ _,⟨by rw [zfr hv];exact yu _ _,(h.tr.append h'.tr).mono (zZ _ _).dk⟩⟩
 rw [zsk,yj h.at_,yj h'.at_,if_pos (by rw [jJ hv,jJ hw];show _<=1000000;omega)]
end
theorem zsl (z:Str) (n:Nat) (hz:z.cps.toList.length=n) (hn:n<=1000) (i:Int) (h0:0<=i) (h1:i<n):∃c,c∈z.cps.toList/\∀st,zq (.str z) (.int i) st=.ok (.str ⟨#[c]⟩) st:=by
 have hl:z.length<=1000000:=by show z.cps.size<=1000000;rw [<-Array.length_toList];omega
 obtain ⟨k,rfl⟩:=Int.eq_ofNat_of_zero_le h0
 have lt:k<z.cps.toList.length:=by omega
 refine ⟨z.cps.toList[k],List.getElem_mem lt,fun st=>?_⟩
 rw [zcu,zdT,if_pos hl,atI_get (List.getElem?_eq_getElem lt)]
 rfl
abbrev alpha:Str := "rstlneadiouchmgbpkfwyvxzjq"
abbrev wb:zd->Mo Fl:=(zp (zx 2 (zg zP (zc 2) (zg zq (mC (.str "rstlneadiouchmgbpkfwyvxzjq")) (zg zR (zc 3) (mC (.int 26))))))
  (zx 3 (zg zR (zg yG (zc 3) (mC (.int 16807))) (mC (.int 2147483647)))))
theorem zi5 (v0 v1:Option PV):∀(xs:List PV) (z:Str) (r:Int) (v4:Option PV),z.length+xs.length<=100->∃z' r' v4',z'.length=z.length+xs.length/\∀st,forL (gN 4) wb xs [v0,v1,some (.str z),some (.int r),v4] st=.ok (.nx [v0,v1,some (.str z'),some (.int r'),v4']) st
 | [],z,r,v4,h=>⟨z,r,v4,by simp,fun st=>by simp⟩
 | x::xs,z,r,v4,h=>by
  simp only [List.length_cons] at h
  have hm:0<=yc r 26/\yc r 26<(26:Nat):=by
   rw [wN _ _ (by decide)]
   exact ⟨Int.emod_nonneg _ (by decide),Int.emod_lt_of_pos _ (by decide)⟩
  obtain ⟨c,hc1,ec⟩:=zsl alpha 26 (by decide +kernel) (by decide) (yc r 26) hm.1 hm.2
  have l1:(⟨#[c]⟩:Str).length=1:=rfl
  have lz:(z++(⟨#[c]⟩:Str)).length=z.length+1:=by rw [Str.length_append,l1]
  obtain ⟨z',r',v4',hl,e⟩:=zi5 v0 v1 xs (z++⟨#[c]⟩) (yc (r*16807) 2147483647) (some x) (by rw [lz];omega)
  refine ⟨z',r',v4',by rw [hl,lz];simp;omega,fun st=>?_⟩
  have hc:cMul r 16807=true:=by simp [cMul]
  have hlim:z.length+(⟨#[c]⟩:Str).length<=1000000:=by rw [l1];omega
  rw [<-e st]
  conv=>lhs;unfold forL
  simp only [zgZ,yN,za7,zck,j0,zgN,zgV]
  simp [cNz,hc,-zcu,ec,hlim]
theorem zi6 (c:Int) (m:Nat) (hm:m<=8):∃z:Str,z.length=m/\∀st,zaa [.int c,.int m] st=.ok (.str z) st:=by
 have l0:((("" : String):Str)).length=0:=rfl
 have hn:(nums 0 m).length=m:=by simp [nums]
 obtain ⟨z',r',v4',hl,e⟩:=zi5 (some (.int c)) (some (.int m)) (nums 0 m) "" (yc c 2147483647) none (by rw [l0,hn];omega)
 refine ⟨z',by rw [hl,l0,hn];omega,fun st=>?_⟩
 have hR:cR (m:Int)=true:=by simp [cR];omega
 simp only [zaa,zF,zhW,zhV,zhU,zhT]
 simp only [List.length_cons,List.length_nil,if_true,yN,za7,zgN,zJ,jE,zck,j0,zgV]
 simp [cNz,hR]
 rw [e st]
 simp
theorem zfv (c:Int):∃t v,sz t=1/\dp t=0/\∀st,ju [.int c] st=.ok v st/\TR st t v:=by
 have pw:((10:Int) ^ (18:Int).toNat)=1000000000000000000:=by decide
 have cp:cPow 10 18=true:=by decide
 have m4:yc c 3=c%3:=wN _ _ (by decide)
 by_cases h0:c%3=0
 ·have m8:yc (z0 c 3) 8=z0 c 3%8:=wN _ _ (by decide)
  have e1:=Int.emod_nonneg (z0 c 3) (show (8:Int)≠0 by decide)
  have e2:=Int.emod_lt_of_pos (z0 c 3) (show (0:Int)<8 by decide)
  obtain ⟨k,hk⟩:∃k:Nat,z0 c 3%8=k:=⟨_,(Int.toNat_of_nonneg e1).symm⟩
  obtain ⟨z,hl,e⟩:=zi6 (z0 c 24) (1+k) (by omega)
  have e':∀st,zaa [.int (z0 c 24),.int (1+(k:Int))] st=.ok (.str z) st:=e
  refine ⟨.word z,.str z,rfl,rfl,fun st=>⟨?_,rfl,by omega⟩⟩
  simp [ju,zF,zcN,zcM,cp,pw,m4,h0,cNz,cDv,m8,hk,e']
 ·by_cases h1:c%3=1
  ·refine ⟨.num (yc (z0 c 3) 1999999999999999999-999999999999999999),_,rfl,rfl,fun st=>⟨?_,rfl⟩⟩
   simp [ju,zF,zcN,zcM,zeJ,cp,pw,m4,h1,cNz,cDv,cMul]
  ·refine ⟨.num (yc (z0 c 3) 9-2),_,rfl,rfl,fun st=>⟨?_,rfl⟩⟩
   simp [ju,zF,zcN,zcM,zeJ,zhZ,cp,pw,m4,h0,h1,cNz,cDv]
noncomputable def lfT (c:Int):Tr:=Classical.choose (zfv c)
noncomputable def lfV (c:Int):PV:=Classical.choose (Classical.choose_spec (zfv c))
theorem lf (c:Int):sz (lfT c)=1/\dp (lfT c)=0/\∀st,ju [.int c] st=.ok (lfV c) st/\TR st (lfT c) (lfV c):=Classical.choose_spec (Classical.choose_spec (zfv c))
theorem Old.set {a b:Sto}(h:Old a b) {n:Nat}(hn:a.length<=n) (so:SO):Old a (b.set n so):=fun m s e=>by
 have:=(List.getElem?_eq_some_iff.mp e).1
 rw [List.getElem?_set_ne (by omega)]
 exact h m s e
theorem ad (x y:Str) (h:x.length+y.length<=1000000) (st:Sto):zP (.str x) (.str y) st=.ok (.str (x++y)) st:=by
 rw [zgW,if_pos h]
def sgn (j:Nat):Nat:=(abc.cps.toList[j]?).getD 0
theorem zsm (j:Nat) (hj:j<26) (st:Sto):zq (.str abc) (.int j) st=.ok (.str ⟨#[sgn j]⟩) st:=by
 have hz:abc.cps.toList.length=26:=by decide +kernel
 have lt:j<abc.cps.toList.length:=by omega
 have hl:abc.length<=1000000:=by decide +kernel
 have e:abc.cps.toList[j]?=some (sgn j):=by unfold sgn;rw [List.getElem?_eq_getElem lt];rfl
 rw [zcu,zdT,if_pos hl,atI_get e]
 rfl
theorem zsn:∀i,i<26->∀j,j<26->sgn i=sgn j->i=j:=by decide +kernel
def key (z:Str) (a j:Nat):Str:=Txt.slice z none (some (a:Int))++⟨#[sgn j]⟩++Txt.slice z (some (a:Int)) none
theorem zso {z:Str}{a i j:Nat}(hi:i<26) (hj:j<26) (h:key z a i=key z a j):i=j:=by
 refine zsn i hi j hj ?_
 unfold key at h
 have ap:∀a b:Str,(a++b).cps.toList=a.cps.toList++b.cps.toList:=fun a b=>by show (a.cps++b.cps).toList=_;simp
 have e:=congrArg (fun s:Str=>s.cps.toList) h
 simp only [ap] at e
 simpa using List.append_cancel_left (List.append_cancel_right e)
theorem zsp {z:Str}{a j:Nat}(hz:z.length<=100):(key z a j).length<=1000:=by
 have sl1:=Txt.slice_le z none (some (a:Int))
 have sl2:=Txt.slice_le z (some (a:Int)) none
 have l1:(⟨#[sgn j]⟩:Str).length=1:=rfl
 unfold key
 rw [Str.length_append,Str.length_append]
 omega
def pj (c:Int) (i:Nat):Nat:=(yc (z0 c 11+3*(i:Int)) 26).toNat
theorem zbI (c:Int) (i:Nat):pj c i<26/\yc (z0 c 11+3*(i:Int)) 26=(pj c i:Int):=by
 unfold pj
 rw [wN _ _ (by decide)]
 have:=Int.emod_nonneg (z0 c 11+3*(i:Int)) (show (26:Int)≠0 by decide)
 have:=Int.emod_lt_of_pos (z0 c 11+3*(i:Int)) (show (0:Int)<26 by decide)
 omega
theorem zsq {c:Int}{i j:Nat}(hi:i<26) (hj:j<26) (h:pj c i=pj c j):i=j:=by
 obtain ⟨_,e1⟩:=zbI c i
 obtain ⟨_,e2⟩:=zbI c j
 rw [<-h,<-e1,wN _ _ (by decide),wN _ _ (by decide)] at e2
 omega
abbrev bdK:zd->Mo Fl:=(zp (zx 6 (zg zq (mC (.str "abcdefghijklmnopqrstuvwxyz")) (zg zR (zg zP (zg yf (zc 0) (mC (.int 11))) (zg yG (mC (.int 3)) (zc 5))) (mC (.int 26)))))
  (yR (ja yS (zc 4) (zg zP (zg zP (yo (zc 2) pNone (pSome (zc 3))) (zc 6)) (yo (zc 2) (pSome (zc 3)) pNone)))))
theorem zi7 (c:Int):∃key:Nat->Str,(∀i j,i<26->j<26->key i=key j->i=j)/\(∀i,(key i).length<=1000)/\∀(m:Nat),m<=26->∀st,∃r st1,jS [.int c,.int m] st=.ok (.ref r) st1/\Old st st1/\st1[r]?=some (.lst (((List.range m).map key).map PV.str)):=by
 obtain ⟨b,hb,eb⟩:=modNat c 8 (by omega)
 have eb:yc c 8=(b:Int):=eb
 obtain ⟨z,hz,ez⟩:=zi6 (z0 c 40) b (by omega)
 obtain ⟨a,ha,ea⟩:=modNat (z0 c 8) (z.length+1) (by omega)
 have ea':yc (z0 c 8) ((z.length:Int)+1)=(a:Int):=ea
 refine ⟨fun i=>key z a (pj c i),fun i j hi hj h=>zsq hi hj (zso (zbI c i).1 (zbI c j).1 h),fun i=>zsp (by omega),fun m hm st=>?_⟩
 obtain ⟨env',st',F,z5,z6,rfl,hr,o⟩:=zbB (g:=gN 5) (body:=bdK) (fun i e s=>∃z5 z6,e=[some (.int c),some (.int m),some (.str z),some (.int a),some (.ref st.length),z5,z6]/\s[st.length]?=some (.lst (((List.range i).map fun i=>key z a (pj c i)).map PV.str))/\Old st s) m (fun i e s hi ⟨z5,z6,he,h1,o⟩=>by
  subst he
  obtain ⟨j1,j2⟩:=zbI c i
  have s1:=zsm (pj c i) j1 s
  have sl1:=Txt.slice_le z none (some (a:Int))
  have sl2:=Txt.slice_le z (some (a:Int)) none
  have q1:(⟨#[sgn (pj c i)]⟩:Str).length=1:=rfl
  have b1:=ad (Txt.slice z none (some (a:Int))) ⟨#[sgn (pj c i)]⟩ (by omega) s
  have b2:=ad (Txt.slice z none (some (a:Int))++⟨#[sgn (pj c i)]⟩) (Txt.slice z (some (a:Int)) none) (by rw [Str.length_append];omega) s
  have sl:∀lo hi,y4 (.str z) lo hi s=.ok (.str (Txt.slice z lo hi)) s:=fun lo hi=>by
   show (if z.length<=lim then Res.ok (PV.str (Txt.slice z lo hi)) s else .stuck)=_
   rw [if_pos (by show z.length<=1000000;omega)]
  have c3:cMul 3 (i:Int)=true:=by simp [cMul]
  have hlt:=(List.getElem?_eq_some_iff.mp h1).1
  have ap:yS (.ref st.length) (.str (key z a (pj c i))) s=.ok .non (s.set st.length (.lst (((List.range (i+1)).map fun i=>key z a (pj c i)).map PV.str))):=by
   simp only [yS,yj h1]
   rw [if_pos (by simp [lim];omega),List.range_succ]
   simp
  refine ⟨[some (.int c),some (.int m),some (.str z),some (.int a),some (.ref st.length),some (.int (i:Int)),z6],[some (.int c),some (.int m),some (.str z),some (.int a),some (.ref st.length),some (.int (i:Int)),some (.str ⟨#[sgn (pj c i)]⟩)],_,rfl,?_,_,_,rfl,by rw [List.getElem?_set_self hlt],o.set (Nat.le_refl _) _⟩
  generalize s.set st.length (.lst (((List.range (i+1)).map fun i=>key z a (pj c i)).map PV.str))=s9 at ap ⊢
  generalize ((List.range i).map fun i=>key z a (pj c i)).map PV.str=l at h1
  have E1:(zx 6 (zg zq (mC (.str "abcdefghijklmnopqrstuvwxyz")) (zg zR (zg zP (zg yf (zc 0) (mC (.int 11))) (zg yG (mC (.int 3)) (zc 5))) (mC (.int 26))))) [some (.int c),some (.int m),some (.str z),some (.int a),some (.ref st.length),some (.int (i:Int)),z6] s=.ok (.nx [some (.int c),some (.int m),some (.str z),some (.int a),some (.ref st.length),some (.int (i:Int)),some (.str ⟨#[sgn (pj c i)]⟩)]) s:=by
   simp [cDv,cNz,c3,j2,-zcu,s1]
  unfold key at ap
  unfold bdK
  rw [yN,E1,zJ,jE]
  simp [sl,-zgW,b1,b2,recL,yj h1,-zhr,ap]) m 0 [some (.int c),some (.int m),some (.str z),some (.int a),some (.ref st.length),none,none] (st++[.lst []]) (by omega) ⟨none,none,rfl,by simp,zZ _ _⟩
 refine ⟨st.length,st',?_,o,hr⟩
 have R:=zbC m (st++[.lst []]) (by omega)
 have nz:¬((z.length:Int)+1=0):=by omega
 have nzb:((z.length:Int)+1).natAbs<1606938044258990275541962092341162602522202993782792835301376:=by omega
 have hlen:wY [.str z] st=.ok (.int z.length) st:=by
  unfold wY
  simp
  omega
 have ez':=ez st
 show (zeM [some (.int c),some (.int m),none,none,none,none,none] st).bind endOf=_
 have E0:(zx 2 (zl zaa (ze (zg yf (zc 0) (mC (.int 40))) (ze (zg zR (zc 0) (mC (.int 8))) zj)))) [some (.int c),some (.int m),none,none,none,none,none] st=.ok (.nx [some (.int c),some (.int m),some (.str z),none,none,none,none]) st:=by
  simp [cDv,cNz,eb,ez']
 have E1:(zx 3 (zg zR (zg yf (zc 0) (mC (.int 8))) (zg zP (zl zS (ze (zc 2) zj)) (mC (.int 1))))) [some (.int c),some (.int m),some (.str z),none,none,none,none] st=.ok (.nx [some (.int c),some (.int m),some (.str z),some (.int a),none,none,none]) st:=by
  simp [cDv,cNz,hlen,nz,nzb,ea']
 simp only [zeM,yN]
 rw [E0]
 simp only [zJ,jE,zh3,yN]
 rw [E1]
 simp only [zJ,jE,zh2,yN,za7,zgR,zas]
 rw [if_pos (by simp [lim])]
 simp only [zJ,jE,zh1,yN,zcn,w6,zat,j0,zas,List.set_cons_succ,List.set_cons_zero,List.getElem?_cons_succ,List.getElem?_cons_zero]
 rw [R]
 simp only [zJ,za9]
 unfold bdK at F
 rw [F]
 rfl
abbrev bdRc:zd->Mo Fl:=(wo (zc 2) (zg zq (zc 0) (zc 3)) (zg zq (zc 1) (zc 3)))
theorem zdf {st:Sto}{kr vr:Nat}{zs:List Str}{vs:List PV}{ts:List Tr}(hk:st[kr]?=some (.lst (zs.map PV.str))) (hv:st[vr]?=some (.lst vs)) (tr:TRs st ts vs) (nd:zs.Nodup) (hz:∀z∈zs,z.length<=1000) (len:zs.length=ts.length) (hl:ts.length<=1000) :
  ∃v st1,wI [.ref kr,.ref vr] st=.ok v st1/\Old st st1/\TR st1 (.rec_ zs ts) v:=by
 have ll:=tr.len
 obtain ⟨env',st',F,z3,rfl,hr,o⟩:=zbB (g:=gN 3) (body:=bdRc) (fun i e s=>∃z3,e=[some (.ref kr),some (.ref vr),some (.ref st.length),z3]/\s[st.length]?=some (.dic (zs.take i) (vs.take i))/\Old st s) vs.length (fun i e s hi ⟨z3,he,h1,o⟩=>by
  subst he
  have hz1:zs[i]?=some (zs[i]'(by omega)):=List.getElem?_eq_getElem (by omega)
  have hv1:vs[i]?=some (vs[i]'hi):=List.getElem?_eq_getElem hi
  have hk':=o _ _ hk
  have hv':=o _ _ hv
  have ak:atI (zs.map PV.str) (i:Int)=some (.str (zs[i]'(by omega))):=atI_get (by rw [List.getElem?_map,hz1];rfl)
  have av:=atI_get hv1
  have dp:=zdd h1 (by simp;omega) (zs[i]'(by omega)) (vs[i]'hi)
  have nc:(zs.take i).contains (zs[i]'(by omega))=false:=by
   rw [Bool.eq_false_iff]
   intro h
   have hm:zs[i]'(by omega)∈zs.take i:=by simpa using h
   obtain ⟨j,hj,e⟩:=List.getElem_of_mem hm
   have hj':j<i:=by simp at hj;omega
   rw [List.getElem_take] at e
   exact (List.pairwise_iff_getElem.mp nd j i (by omega) (by omega) hj') e
  have ed:yq (zs[i]'(by omega)) (vs[i]'hi) (zs.take i) (vs.take i)=(zs.take (i+1),vs.take (i+1)):=by
   unfold yq
   rw [nc]
   simp only [Bool.false_eq_true,↓reduceIte]
   rw [List.take_succ_eq_append_getElem (by omega),List.take_succ_eq_append_getElem hi]
  rw [ed] at dp
  have hlt:=(List.getElem?_eq_some_iff.mp h1).1
  refine ⟨[some (.ref kr),some (.ref vr),some (.ref st.length),some (.int (i:Int))],[some (.ref kr),some (.ref vr),some (.ref st.length),some (.int (i:Int))],s.set st.length (.dic (zs.take (i+1)) (vs.take (i+1))),rfl,?_,some (.int (i:Int)),rfl,by rw [List.getElem?_set_self hlt],o.set (Nat.le_refl _) _⟩
  generalize s.set st.length (.dic (zs.take (i+1)) (vs.take (i+1)))=s9 at dp ⊢
  generalize zs.map PV.str=l at hk' ak
  simp [yj hk',yj hv',ak,av,dp]) vs.length 0 [some (.ref kr),some (.ref vr),some (.ref st.length),none] (st++[.dic [] []]) (by omega) ⟨none,rfl,by simp,zZ _ _⟩
 rw [List.take_of_length_le (by omega),List.take_of_length_le (Nat.le_refl _)] at hr
 refine ⟨.ref st.length,st',?_,o,st.length,vs,rfl,hr,nd,by omega,tr.mono o.dk,hz⟩
 have R:=zbC vs.length (st++[.dic [] []]) (by omega)
 have ln:=zaD (zZ st [.dic [] []] _ _ hv)
 show (zeL [some (.ref kr),some (.ref vr),none,none] st).bind endOf=_
 simp only [zeL,yN]
 rw [show (zx 2 zcq) [some (.ref kr),some (.ref vr),none,none] st=.ok (.nx [some (.ref kr),some (.ref vr),some (.ref st.length),none]) (st++[.dic [] []]) from rfl]
 simp only [zJ,jE,zh0,yN,zcn,w6,zat,zas,za6,j0,List.getElem?_cons_succ,List.getElem?_cons_zero,ln]
 rw [R]
 simp only [zJ,za9]
 unfold bdRc at F
 rw [F]
 rfl
def mix (a:Int):List Int->Int
 | []=>a
 | x::r=>mix (yc (a*4001+x) 998244353) r
theorem zsr (l:List Int) (n:Nat) (st:Sto) (hn:st[n]?=some (.lst (l.map PV.int))) (v0 v1:Option PV):∀(k i m:Nat) (a:Int) (v3:Option PV),l.length-i=k->i<=l.length->k<m->∃v3',
  forR (gN 3) (zx 2 (zg zR (zg zP (zg yG (zc 2) (mC (.int 4001))) (zc 3)) (mC (.int 998244353)))) n m i [v0,v1,some (.int a),v3] st=.ok (.nx [v0,v1,some (.int (mix a (l.drop i))),v3']) st:=by
 intro k
 induction k with
 | zero =>
  intro i m a v3 hk hi hm
  obtain ⟨m',rfl⟩:∃m',m=m'+1:=⟨m-1,by omega⟩
  have hi':i=l.length:=by omega
  subst hi'
  exact ⟨v3,by simp [forR,ye,hn,mix]⟩
 | succ k ih =>
  intro i m a v3 hk hi hm
  obtain ⟨m',rfl⟩:∃m',m=m'+1:=⟨m-1,by omega⟩
  have hlt:i<l.length:=by omega
  obtain ⟨v3',e⟩:=ih (i+1) m' (yc (a*4001+l[i]) 998244353) (some (.int l[i])) (by omega) (by omega) (by omega)
  refine ⟨v3',?_⟩
  rw [List.drop_eq_getElem_cons hlt]
  simp only [mix]
  rw [<-e]
  have hi1:(l.map PV.int)[i]?=some (.int l[i]):=by simp [hlt]
  have hc:cMul a 4001=true:=by simp [cMul]
  conv=>lhs;unfold forR
  simp only [ye,hn,hi1,zgZ]
  simp [hc,cNz]
theorem zi8 (ns:List Int) (k:Nat) (h9:k<1000):∃c,∀st,∃st1,yt [.frl (ns.map PV.int),.int k] st=.ok (.int c) st1/\Pre st st1:=by
 by_cases hk:k<ns.length
 ·have e:atI (ns.map PV.int) (k:Int)=some (.int ns[k]):=by
   simp [atI,ixN,hk]
  exact ⟨ns[k],fun st=>⟨st,by simp [yt,zF,zeI,hk,e],Pre.refl _⟩⟩
 ·have hcut:cutP (ns.map PV.int) none (some 5)=(ns.take 5).map PV.int:=by
   unfold cutP
   simp [HT.sIx]
  refine ⟨yc (mix (43*k+19) (ns.take 5)*(k+11)) 1000000007,fun st=>?_⟩
  have top:=yu st (SO.lst ((ns.take 5).map PV.int))
  obtain ⟨v3',e⟩:=zsr (ns.take 5) st.length (st++[.lst ((ns.take 5).map PV.int)]) top (some (.frl (ns.map PV.int))) (some (.int k)) (ns.take 5).length 0 (lim+1) (43*k+19) none (by omega) (Nat.zero_le _) (by show (ns.take 5).length<1000000+1;simp;omega)
  refine ⟨st++[.lst ((ns.take 5).map PV.int)],?_,Pre.of _ _⟩
  have c1:cMul 43 (k:Int)=true:=by simp [cMul]
  have c2:cMul (mix (43*k+19) (ns.take 5)) (k+11)=true:=by
   simp only [cMul,Bool.or_eq_true,Bool.and_eq_true,decide_eq_true_eq]
   exact .inr ⟨by omega,by omega⟩
  simp only [List.drop_zero] at e
  simp only [yt,zF,zeI,zhS,zhR,zhQ]
  simp [hk,c1,hcut,forS]
  simp only [zdT,List.map_take,Nat.reduceAdd] at e
  rw [e]
  simp [c2,cNz]
noncomputable def cel (ns:List Int) (k:Nat) (h:k<1000):Int:=Classical.choose (zi8 ns k h)
theorem zss (ns:List Int) (k:Nat) (h:k<1000) (st:Sto):∃st1,yt [.frl (ns.map PV.int),.int k] st=.ok (.int (cel ns k h)) st1/\Pre st st1:=Classical.choose_spec (zi8 ns k h) st
abbrev scr (ns:List Int):PV:=.frl (ns.map PV.int)
noncomputable def cl (ns:List Int) (k:Nat):Int:=if h:k<1000 then cel ns k h else 0
theorem y3 (ns:List Int) (k:Nat) (h:k<1000) (st:Sto):∃st1,yt [scr ns,.int k] st=.ok (.int (cl ns k)) st1/\Old st st1:=by
 obtain ⟨st1,e,p⟩:=zss ns k h st
 unfold cl
 rw [dif_pos h]
 exact ⟨st1,e,ziO p⟩
inductive Rn (g:PV->zd->Option zd) (body:zd->Mo Fl):List PV->zd->Sto->zd->Sto->Prop
 | nil {e:zd} {s:Sto}:Rn g body [] e s e s
 | cons {x:PV} {xs:List PV} {e e1 e2 e3:zd} {s s2 s3:Sto}:g x e=some e1->body e1 s=.ok (.nx e2) s2->Rn g body xs e2 s2 e3 s3->Rn g body (x::xs) e s e3 s3
theorem Rn.snoc {g:PV->zd->Option zd}{body:zd->Mo Fl}{xs:List PV}{e e2:zd}{s s2:Sto}(h:Rn g body xs e s e2 s2) {x:PV}{e3 e4:zd}{s4:Sto}(h1:g x e2=some e3) (h2:body e3 s2=.ok (.nx e4) s4):Rn g body (xs++[x]) e s e4 s4:=by
 induction h with
 | nil=>exact .cons h1 h2 .nil
 | cons a b _ ih=>exact .cons a b (ih h1 h2)
theorem Rn.run {g:PV->zd->Option zd}{body:zd->Mo Fl}{xs:List PV}{e e2:zd}{s s2:Sto}(h:Rn g body xs e s e2 s2):forL g body xs e s=.ok (.nx e2) s2:=by
 induction h with
 | nil=>rfl
 | cons a b _ ih =>
  unfold forL
  rw [a]
  simp only
  rw [b]
  exact ih
theorem zst {a b:Sto}(o:Old a b):a.length<=b.length:=by
 apply Classical.byContradiction
 intro z
 have hb:b.length<a.length:=by omega
 exact absurd (zbD (o b.length _ (List.getElem?_eq_getElem hb))) (by omega)
theorem zsu (i j:Int) (st:Sto):yD (.int i) (.int j) st=.ok (.int (i-j)) st:=by simp
section
variable {st base:Sto}{l:Nat}{ts:List Tr}{vs:List PV}
theorem zi9 (o:Old base st) (hb:base.length<=l) (h:HL st l ts vs) {t:Tr}{v:PV}(tv:TR st t v) (hl:ts.length<=1000):∃st',yS (.ref l) (.tup [v,.int (sz t)]) st=.ok .non st'/\Old base st'/\HL st' l (ts++[t]) (vs++[v]):=by
 have hv:=h.tr.len
 have hlt:=zbD h.at_
 have e:prs (ts++[t]) (vs++[v])=prs ts vs++[.tup [v,.int (sz t)]]:=zfr hv
 have dk:Dk st (st.set l (.lst (prs (ts++[t]) (vs++[v])))):=ziH h.at_
 refine ⟨st.set l (.lst (prs (ts++[t]) (vs++[v]))),?_,o.set hb _,by rw [List.getElem?_set_self hlt],(h.tr.mono dk).append (show TRs _ [t] [v] from ⟨_,_,rfl,tv.mono dk,rfl⟩)⟩
 simp only [yS,yj h.at_]
 rw [if_pos (by rw [jJ hv];show _<1000000;omega),e]
end
noncomputable def kyF (c:Int):Nat->Str:=Classical.choose (zi7 c)
theorem zbJ (c:Int):(∀i j,i<26->j<26->kyF c i=kyF c j->i=j)/\(∀i,(kyF c i).length<=1000)/\∀(m:Nat),m<=26->∀st,∃r st1,jS [.int c,.int m] st=.ok (.ref r) st1/\Old st st1/\st1[r]?=some (.lst (((List.range m).map (kyF c)).map PV.str)):=Classical.choose_spec (zi7 c)
noncomputable def kys (c:Int) (m:Nat):List Str:=(List.range m).map (kyF c)
theorem zdg (c:Int) (m:Nat):(kys c m).length=m:=by simp [kys]
theorem zja (c:Int) (m:Nat) (h:m<=26):(kys c m).Nodup:=by
 unfold kys List.Nodup
 rw [List.pairwise_map]
 refine List.Pairwise.imp_of_mem ?_ (List.nodup_range (n:=m))
 intro a b ha hb ne e
 rw [List.mem_range] at ha hb
 exact ne ((zbJ c).1 a b (by omega) (by omega) e)
theorem zjb (c:Int) (m:Nat):∀z∈kys c m,z.length<=1000:=by
 intro z h
 unfold kys at h
 obtain ⟨i,_,rfl⟩:=List.mem_map.mp h
 exact (zbJ c).2.1 i
theorem zdh (c:Int) (m:Nat) (h:m<=26) (st:Sto):∃r st1,jS [.int c,.int m] st=.ok (.ref r) st1/\Old st st1/\st1[r]?=some (.lst ((kys c m).map PV.str)):=(zbJ c).2.2 m h st
abbrev bdB:zd->Mo Fl:=(zp (zx 5 (zg zP (zl yt (ze (zc 0) (ze (zg zP (zc 1) (zg zR (zc 4) (mC (.int 9)))) zj))) (zg yG (zg yG (mC (.int 7907)) (zc 4)) (zg yf (zc 4) (mC (.int 9))))))
  (zp (zx 6 (zl zay (ze (zg zR (zg yf (zc 5) (mC (.int 4))) (mC (.int 4))) (ze (zl zS (ze (zc 3) zj)) zj))))
  (zp (zx 7 (yo (zc 3) (pSome (zg yD (zl zS (ze (zc 3) zj)) (zc 6))) pNone))
  (zN (mB (zg jg (zg zR (zc 5) (mC (.int 4))) (mC (.int 2))))
  (yR (ja yS (zc 3) (yb (ze (zl ju (ze (zg yf (zc 5) (mC (.int 4))) zj)) (ze (mC (.int 1)) zj)))))
  (zp (zx 3 (yo (zc 3) pNone (pSome (zg yD (zl zS (ze (zc 3) zj)) (zc 6)))))
  (zp (zx 8 (zg zP (mC (.int 1)) (zl jI (ze (yr (yF (zc 7)) (zg zq (zc 0) (mC (.int 1)))) zj))))
  (zp (zx 9 (yr (yF (zc 7)) (zg zq (zc 0) (mC (.int 0)))))
  (zN (mB (zg yh (zg zR (zc 5) (mC (.int 4))) (mC (.int 2))))
  (yR (ja yS (zc 3) (yb (ze (zl jP (ze (zc 9) zj)) (ze (zc 8) zj)))))
  (yR (ja yS (zc 3) (yb (ze (zl wI (ze (zl jS (ze (zg yf (zc 5) (mC (.int 16))) (ze (zc 6) zj))) (ze (zc 9) zj))) (ze (zc 8) zj)))))))))))))
abbrev eB (ns:List Int) (a n:Int) (l:Nat) (z4 z5 z6 z7 z8 z9:Option PV):zd:=[some (scr ns),some (.int a),some (.int n),some (.ref l),z4,z5,z6,z7,z8,z9]
theorem zbK (ts:List Tr) (k:Nat):szs (ts.take k)+szs (ts.drop k)=szs ts:=zfo ts k
theorem zsv (ns:List Int) (a i:Nat) (ha:a<=100) (hi:i<60) {ts:List Tr}(hs:szs ts=i) (n:Int) :
  ∃ts',szs ts'=i+1/\∀(base st:Sto) (l:Nat) (vs:List PV) (z5 z6 z7 z8 z9:Option PV),Old base st->base.length<=l->HL st l ts vs ->
   ∃l' vs' st' y5 y6 y7 y8 y9,bdB (eB ns a n l (some (.int (i:Int))) z5 z6 z7 z8 z9) st=.ok (.nx (eB ns a n l' (some (.int (i:Int))) y5 y6 y7 y8 y9)) st'/\Old base st'/\base.length<=l'/\HL st' l' ts' vs':=by
 have tl:=y0 ts
 have m9:yc (i:Int) 9=((i%9:Nat):Int):=by rw [wN _ _ (by decide)];omega
 have d9:z0 (i:Int) 9=((i/9:Nat):Int):=by rw [zrG _ _ (by decide)];omega
 obtain ⟨x,hx⟩:∃x:Int,x=cl ns (a+i%9)+7907*(i:Int)*((i/9:Nat):Int):=⟨_,rfl⟩
 obtain ⟨b,hb,eb⟩:=modNat (z0 x 4) 4 (by omega)
 have eb:yc (z0 x 4) 4=(b:Int):=eb
 have E5:∀(st:Sto) (l:Nat) (z5 z6 z7 z8 z9:Option PV),∃s1,Old st s1/\(zx 5 (zg zP (zl yt (ze (zc 0) (ze (zg zP (zc 1) (zg zR (zc 4) (mC (.int 9)))) zj))) (zg yG (zg yG (mC (.int 7907)) (zc 4)) (zg yf (zc 4) (mC (.int 9)))))) (eB ns a n l (some (.int (i:Int))) z5 z6 z7 z8 z9) st=.ok (.nx (eB ns a n l (some (.int (i:Int))) (some (.int x)) z6 z7 z8 z9)) s1:=fun st l z5 z6 z7 z8 z9=>by
  obtain ⟨s1,c,o⟩:=y3 ns (a+i%9) (by omega) st
  have c':yt [scr ns,.int ((a:Int)+((i%9:Nat):Int))] st=.ok (.int (cl ns (a+i%9))) s1:=c
  have k1:cMul 7907 (i:Int)=true:=by simp [cMul]
  have k2:cMul (7907*(i:Int)) ((i/9:Nat):Int)=true:=by
   simp only [cMul,Bool.or_eq_true,Bool.and_eq_true,decide_eq_true_eq]
   exact .inr ⟨by omega,by omega⟩
  generalize ((i%9:Nat):Int)=q at m9 c'
  generalize ((i/9:Nat):Int)=r at d9 k2 hx
  exact ⟨s1,o,by simp [eB,m9,d9,c',k1,k2,cDv,cNz,hx]⟩
 obtain ⟨f,hf⟩:∃f:Nat,f=min b ts.length:=⟨_,rfl⟩
 have hfl:f<=ts.length:=by omega
 have hf3:f<=3:=by omega
 obtain ⟨k,hk⟩:∃k:Nat,k=ts.length-f:=⟨_,rfl⟩
 have hkl:k<=ts.length:=by omega
 have sb:((ts.length:Nat):Int)-(f:Int)=(k:Int):=by omega
 have hd:(ts.drop k).length=f:=by simp;omega
 have td:=zbK ts k
 have E7:∀(st:Sto) (l:Nat) (vs:List PV) (z5 z6 z7 z8 z9:Option PV),HL st l ts vs->∃s2 h,Old st s2/\HL s2 h (ts.drop k) (vs.drop k)/\∀X,((zN (mB (zg jg (zg zR (zc 5) (mC (.int 4))) (mC (.int 2))))
  (yR (ja yS (zc 3) (yb (ze (zl ju (ze (zg yf (zc 5) (mC (.int 4))) zj)) (ze (mC (.int 1)) zj)))))
  (zp (zx 3 (yo (zc 3) pNone (pSome (zg yD (zl zS (ze (zc 3) zj)) (zc 6)))))
  (zp (zx 8 (zg zP (mC (.int 1)) (zl jI (ze (yr (yF (zc 7)) (zg zq (zc 0) (mC (.int 1)))) zj))))
  (zp (zx 9 (yr (yF (zc 7)) (zg zq (zc 0) (mC (.int 0)))))
  (zN (mB (zg yh (zg zR (zc 5) (mC (.int 4))) (mC (.int 2))))
  (yR (ja yS (zc 3) (yb (ze (zl jP (ze (zc 9) zj)) (ze (zc 8) zj)))))
  (yR (ja yS (zc 3) (yb (ze (zl wI (ze (zl jS (ze (zg yf (zc 5) (mC (.int 16))) (ze (zc 6) zj))) (ze (zc 9) zj))) (ze (zc 8) zj))))))))))  (eB ns a n l (some (.int (i:Int))) (some (.int x)) (some (.int (f:Int))) (some (.ref h)) z8 z9) s2=X)->bdB (eB ns a n l (some (.int (i:Int))) z5 z6 z7 z8 z9) st=X:=fun st l vs z5 z6 z7 z8 z9 h=>by
  obtain ⟨s1,o1,e5⟩:=E5 st l z5 z6 z7 z8 z9
  have h1:=h.mono o1
  have ln:=jK h1
  obtain ⟨s2,e7,o2,h2⟩:=zsj h1 hkl
  have mn:zay [.int (b:Int),.int (ts.length:Int)] s1=.ok (.int (f:Int)) s1:=by
   show Res.ok _ s1=_
   congr 2
   split<;>omega
  have E6:(zx 6 (zl zay (ze (zg zR (zg yf (zc 5) (mC (.int 4))) (mC (.int 4))) (ze (zl zS (ze (zc 3) zj)) zj)))) (eB ns a n l (some (.int (i:Int))) (some (.int x)) z6 z7 z8 z9) s1=.ok (.nx (eB ns a n l (some (.int (i:Int))) (some (.int x)) (some (.int (f:Int))) z7 z8 z9)) s1:=by
   simp [eB,cDv,cNz,eb,ln,mn]
  have E7:(zx 7 (yo (zc 3) (pSome (zg yD (zl zS (ze (zc 3) zj)) (zc 6))) pNone)) (eB ns a n l (some (.int (i:Int))) (some (.int x)) (some (.int (f:Int))) z7 z8 z9) s1=.ok (.nx (eB ns a n l (some (.int (i:Int))) (some (.int x)) (some (.int (f:Int))) (some (.ref s1.length)) z8 z9)) s2:=by
   simp only [za7,zgS,zgT,zof,zck,za6,zat,zas,j0,List.getElem?_cons_succ,List.getElem?_cons_zero,zJ,ln,zsu,sb,zgU,e7]
   rfl
  refine ⟨s2,s1.length,o1.trans o2,h2,fun X hX=>?_⟩
  simp only [bdB,yN]
  rw [e5]
  simp only [zJ,jE,yN]
  rw [E6]
  simp only [zJ,jE,yN]
  rw [E7]
  simp only [zJ,jE]
  exact hX
 by_cases h2:yc x 4<2
 ·obtain ⟨q1,q2,q3⟩:=lf (z0 x 4)
  refine ⟨ts++[lfT (z0 x 4)],by rw [jx];simp only [szs];omega,fun base st l vs z5 z6 z7 z8 z9 o hb h=>?_⟩
  obtain ⟨s2,hh,o2,hd2,K⟩:=E7 st l vs z5 z6 z7 z8 z9 h
  obtain ⟨s3,ap,o3,h3⟩:=zi9 (o.trans o2) hb (h.mono o2) (q3 s2).2 (by omega)
  rw [q1] at ap
  refine ⟨l,_,s3,some (.int x),some (.int (f:Int)),some (.ref hh),z8,z9,K _ ?_,o3,hb,h3⟩
  have ha:=(h.mono o2).at_
  have lv:=(q3 s2).1
  generalize prs ts vs=pp at ha
  have ap':yS (.ref l) (.tup [lfV (z0 x 4),.int 1]) s2=.ok .non s3:=ap
  simp [eB,cNz,h2,recL,yj ha,cDv,lv,lim,-zhr,ap']
 ·obtain ⟨tn,htn⟩:∃tn:Tr,tn=if yc x 4=2 then .row (ts.drop k) else .rec_ (kys (z0 x 16) f) (ts.drop k):=⟨_,rfl⟩
  have szn:sz tn=1+szs (ts.drop k):=by rw [htn];split<;>simp only [sz]
  refine ⟨ts.take k++[tn],by rw [jx];simp only [szs];omega,fun base st l vs z5 z6 z7 z8 z9 o hb h=>?_⟩
  obtain ⟨s2,hh,o2,hd2,K⟩:=E7 st l vs z5 z6 z7 z8 z9 h
  have h2':=h.mono o2
  obtain ⟨s3,e3,o3,h3⟩:=zsi h2' hkl
  have dl:(ts.drop k).length<=1000:=by omega
  have hd3:=hd2.mono o3
  obtain ⟨d,e8⟩:=zbH (env:=eB ns a n s2.length (some (.int (i:Int))) (some (.int x)) (some (.int (f:Int))) (some (.ref hh)) z8 z9) (i:=7) hd3 dl rfl
  have o8:Old s3 (s3++[d]):=zZ _ _
  have e9:=zaM (env:=eB ns a n s2.length (some (.int (i:Int))) (some (.int x)) (some (.int (f:Int))) (some (.ref hh)) (some (.int (1+(szs (ts.drop k):Nat)))) z9) (i:=7) (hd3.mono o8) dl rfl
  have o9:Old (s3++[d]) (s3++[d]++[.lst (vs.drop k)]):=zZ _ _
  have t9:=yu (s3++[d]) (.lst (vs.drop k))
  have tr9:=(hd3.mono (o8.trans o9)).tr
  have h9:=h3.mono (o8.trans o9)
  have ob:Old base (s3++[d]++[.lst (vs.drop k)]):=o.trans (o2.trans (o3.trans (o8.trans o9)))
  have hb2:base.length<=s2.length:=zst (o.trans o2)
  generalize s3++[d]++[.lst (vs.drop k)]=s9 at e9 o9 t9 tr9 h9 ob
  generalize (s3++[d]).length=r9 at e9 t9
  have ln:=jK h2'
  have tlk:(ts.take k).length<=1000:=by simp;omega
  have cnt:(1+((szs (ts.drop k):Nat):Int))=((sz tn:Nat):Int):=by rw [szn];omega
  have T1:(mB (zg jg (zg zR (zc 5) (mC (.int 4))) (mC (.int 2)))) (eB ns a n l (some (.int (i:Int))) (some (.int x)) (some (.int (f:Int))) (some (.ref hh)) z8 z9) s2=.ok false s2:=by
   simp [eB,cNz,h2]
  have T2:(mB (zg yh (zg zR (zc 5) (mC (.int 4))) (mC (.int 2)))) (eB ns a n s2.length (some (.int (i:Int))) (some (.int x)) (some (.int (f:Int))) (some (.ref hh)) (some (.int (1+(szs (ts.drop k):Nat)))) (some (.ref r9))) s9=.ok (decide (yc x 4=2)) s9:=by
   simp [eB,cNz]
   rfl
  have E3:(yo (zc 3) pNone (pSome (zg yD (zl zS (ze (zc 3) zj)) (zc 6)))) (eB ns a n l (some (.int (i:Int))) (some (.int x)) (some (.int (f:Int))) (some (.ref hh)) z8 z9) s2=.ok (.ref s2.length) s3:=by
   refine jk (zk rfl) jn (jm (zo (zC (ya (zk rfl)) ln) (zk rfl) (j7 _ _))) ?_
   rw [sb]
   exact e3
  have fin:∀{u:PV} {sA:Sto},Old s9 sA->TR sA tn u->∃vs' s',yS (.ref s2.length) (.tup [u,.int (1+(szs (ts.drop k):Nat))]) sA=.ok .non s'/\Old base s'/\HL s' s2.length (ts.take k++[tn]) vs':=fun {u sA} oA tu=>by
   obtain ⟨s',ap,o',h'⟩:=zi9 (ob.trans oA) hb2 (h9.mono oA) tu tlk
   exact ⟨_,s',by rw [cnt];exact ap,o',h'⟩
  by_cases hr:yc x 4=2
  ·rw [if_pos hr] at htn
   subst htn
   obtain ⟨vs',s',ap,o',h'⟩:=fin (Old.refl s9) ⟨_,rfl,tr9⟩
   refine ⟨s2.length,vs',s',some (.int x),some (.int (f:Int)),some (.ref hh),some (.int (1+(szs (ts.drop k):Nat))),some (.ref r9),K _ ?_,o',hb2,h'⟩
   refine zcE T1 (zA (zU E3) (zA (zU (zo rfl e8 (jb _ _))) (zA (zU e9) (yX (by rw [<-decide_eq_true hr];exact T2) ?_))))
   refine zd8 (zhP (zk rfl) h9.at_ (yl (zD (zC (ya (zk rfl)) ?_) (zk rfl)) (by simp)) ap)
   rw [w8,yj t9]
  ·rw [if_neg hr] at htn
   subst htn
   obtain ⟨rk,s10,ek,o10,hk⟩:=zdh (z0 x 16) f (by omega) s9
   obtain ⟨u,s11,er,o11,tu⟩:=zdf hk (o10 _ _ t9) (tr9.mono o10.dk) (zja _ _ (by omega)) (zjb _ _) (by rw [zdg];omega) (by omega)
   obtain ⟨vs',s',ap,o',h'⟩:=fin (o10.trans o11) tu
   refine ⟨s2.length,vs',s',some (.int x),some (.int (f:Int)),some (.ref hh),some (.int (1+(szs (ts.drop k):Nat))),some (.ref r9),K _ ?_,o',hb2,h'⟩
   refine zcE T1 (zA (zU E3) (zA (zU (zo rfl e8 (jb _ _))) (zA (zU e9) (zcE (by rw [<-decide_eq_false hr];exact T2) ?_))))
   exact zd8 (zhP (zk rfl) h9.at_ (yl (zD (zC (zD (zC (zD (zo (zk rfl) rfl (yZ _ _ (by decide) (by decide))) (zk rfl)) ek) (zk rfl)) er) (zk rfl)) (by simp)) ap)
theorem zsw (i:Nat):nums 0 (i+1)=nums 0 i++[.int (i:Int)]:=by
 simp [nums,List.range_succ]
theorem zjc (ns:List Int) (a:Nat) (ha:a<=100) (n:Int):∀i:Nat,i<=60->∃ts,szs ts=i/\∀(st:Sto),∃l vs s' z4 z5 z6 z7 z8 z9,Rn (gN 4) bdB (nums 0 i) (eB ns a n st.length none none none none none none) (st++[.lst []]) (eB ns a n l z4 z5 z6 z7 z8 z9) s'/\Old st s'/\st.length<=l/\HL s' l ts vs
 | 0,_=>⟨[],rfl,fun st=>⟨st.length,[],st++[.lst []],none,none,none,none,none,none,.nil,zZ _ _,Nat.le_refl _,⟨yu _ _,rfl⟩⟩⟩
 | i+1,hi=>by
  obtain ⟨ts,h1,h2⟩:=zjc ns a ha n i (by omega)
  obtain ⟨ts',h3,h4⟩:=zsv ns a i ha (by omega) h1 n
  refine ⟨ts',h3,fun st=>?_⟩
  obtain ⟨l,vs,s',z4,z5,z6,z7,z8,z9,r,o,hl,h⟩:=h2 st
  obtain ⟨l',vs',s2,y5,y6,y7,y8,y9,e,o2,hl2,h'⟩:=h4 st s' l vs z5 z6 z7 z8 z9 o hl h
  refine ⟨l',vs',s2,some (.int (i:Int)),y5,y6,y7,y8,y9,?_,o2,hl2,h'⟩
  rw [zsw]
  exact r.snoc rfl e
theorem zjd (ns:List Int) (a m:Nat) (ha:a<=100) (hm:m<=60):∃ts,szs ts=m/\∀st,∃l vs s',zcR [scr ns,.int a,.int m] st=.ok (.ref l) s'/\Old st s'/\HL s' l ts vs:=by
 obtain ⟨ts,h1,h2⟩:=zjc ns a ha m m hm
 refine ⟨ts,h1,fun st=>?_⟩
 obtain ⟨l,vs,s',z4,z5,z6,z7,z8,z9,r,o,hl,h⟩:=h2 st
 refine ⟨l,vs,s',?_,o,h⟩
 have hR:cR (m:Int)=true:=by simp [cR];omega
 have R:wG [.int (m:Int)] (st++[.lst []])=.ok (.im (nums 0 m)) (st++[.lst []]):=by
  rw [zho,if_pos hR];simp
 refine yv rfl (zA (zU (wq zcF (by simp))) (zA (e1:=eB ns a m l z4 z5 z6 z7 z8 z9) (s1:=s') ?_ (ym (zk rfl))))
 show (iRng1 (ze (zc 2) zj) _ _).bind _=_
 rw [w6,ya (zk (v:=.int (m:Int)) rfl),zJ,R,zJ,za9]
 exact r.run
noncomputable def lvT (c d:Int) (m:Nat):List Tr:=(List.range m).map fun k:Nat=>lfT (c+d*k)
noncomputable def lvV (c d:Int) (m:Nat):List PV:=(List.range m).map fun k:Nat=>lfV (c+d*k)
theorem TRs.maps {st:Sto}{f:Nat->Tr}{g:Nat->PV}(h:∀k,TR st (f k) (g k)):∀xs:List Nat,TRs st (xs.map f) (xs.map g)
 | []=>rfl
 | x::xs=>⟨_,_,rfl,h x,TRs.maps h xs⟩
theorem zje (st:Sto) (c d:Int) (m:Nat):TRs st (lvT c d m) (lvV c d m):=TRs.maps (fun k=>((lf (c+d*k)).2.2 st).2) _
theorem zjf {f:Nat->Tr}(h:∀k,sz (f k)=1):∀xs:List Nat,szs (xs.map f)=xs.length
 | []=>rfl
 | x::xs=>by simp only [List.map_cons,szs,h x,zjf h xs,List.length_cons];omega
theorem zdi (c d:Int) (m:Nat):szs (lvT c d m)=m:=by
 unfold lvT
 rw [zjf (fun k=>(lf (c+d*k)).1)]
 simp
theorem zjg {env:zd}{i j:Nat}{c d:Int}{m:Nat}{st:Sto}(hi:env[i]?=some (some (.int c))) (hj:env[j]?=some (some (.int ((m:Int)+1)))) (hm:m<=1000) (hd:cMul d 0=true) (hd2:∀x,cMul d x=true) :
  yr (iRng1 (ze (zg yD (zc j) (mC (.int 1))) zj)) (zl ju (ze (zg zP (zc (i+1)) (zg yG (mC (.int d)) (zc 0))) zj)) env st=.ok (.ref st.length) (st++[.lst (lvV c d m)]):=by
 have hR:cR ((m:Int)+1-1)=true:=by simp [cR];omega
 have R:wG [.int ((m:Int)+1-1)] st=.ok (.im (nums 0 m)) st:=by
  rw [zho,if_pos hR]
  congr 2
  rw [show ((m:Int)+1-1).toNat=m by omega]
 rw [zbc,w6,ya (zo (zk hj) rfl (j7 _ _)),zJ,R,zJ,zoF,if_pos (by simp [nums,lim];omega)]
 have nm:nums 0 m=(List.range m).map fun k:Nat=>PV.int (k:Int):=by simp [nums]
 have q:=zhs (fe:=zl ju (ze (zg zP (zc (i+1)) (zg yG (mC (.int d)) (zc 0))) zj)) (env:=env) (st:=st) (f:=fun x=>match x with | .int k=>lfV (c+d*k)|_=>.non) (nums 0 m) (fun x hx=>by
  rw [nm] at hx
  obtain ⟨k,_,rfl⟩:=List.mem_map.mp hx
  exact zC (ya (zo (zk (by simpa using hi)) (zo rfl (zk rfl) (zpH _ _ (hd2 _))) (jb _ _))) ((lf _).2.2 st).1) []
 rw [q,nm]
 simp [lvV,List.map_map,Function.comp_def]
theorem zsx (l:List PV) (m:Nat):cutP l none (some (m:Int))=l.take m:=by
 have:¬((m:Int)<0):=by omega
 simp [cutP,HT.sIx,this]
theorem zfw (l:List PV) (m:Nat):cutP l (some (m:Int)) none=l.drop m:=by
 have:¬((m:Int)<0):=by omega
 simp [cutP,HT.sIx,this]
 rw [List.take_of_length_le (by simp)]
 by_cases h:m<=l.length
 ·rw [Nat.min_eq_left h]
 ·rw [Nat.min_eq_right (by omega),List.drop_of_length_le (by omega),List.drop_of_length_le (by omega)]
section
variable {st:Sto}{l:Nat}{ts:List Tr}{vs:List PV}{env:zd}{i:Nat}
theorem zfx (h:HL st l ts vs) (k:Nat):∃s1,y4 (.ref l) none (some (k:Int)) st=.ok (.ref st.length) s1/\Old st s1/\HL s1 st.length (ts.take k) (vs.take k):=by
 have hv:=h.tr.len
 refine ⟨st++[.lst ((prs ts vs).take k)],?_,zZ _ _,⟨by rw [zfq k hv];exact yu _ _,(h.tr.take k).mono (zZ _ _).dk⟩⟩
 rw [zbd,yj h.at_,zsx]
theorem zaO (h:HL st l ts vs) (k:Nat):∃s1,y4 (.ref l) (some (k:Int)) none st=.ok (.ref st.length) s1/\Old st s1/\HL s1 st.length (ts.drop k) (vs.drop k):=by
 have hv:=h.tr.len
 refine ⟨st++[.lst ((prs ts vs).drop k)],?_,zZ _ _,⟨by rw [zfp k hv];exact yu _ _,(h.tr.drop k).mono (zZ _ _).dk⟩⟩
 rw [zbd,yj h.at_,zfw]
theorem zdj {t:Tr}{v:PV}{n:Int}(h:TR st t v) (hn:n=(sz t:Nat)):HL (st++[.lst [.tup [v,.int n]]]) st.length [t] [v]:=by
 subst hn
 exact ⟨yu _ _,_,_,rfl,h.mono (zc9 _ _),rfl⟩
end
theorem jT (i:Int) (j b:Nat) (h:0<j) (e:yc i j=(b:Int)) (st:Sto):zR (.int i) (.int (j:Int)) st=.ok (.int (b:Int)) st:=by
 rw [yY i j (by omega),e]
theorem zjh (ns:List Int):∃ts,szs ts<=59/\ts.length<=6/\∀st,∃l vs s',wJ [scr ns] st=.ok (.ref l) s'/\Old st s'/\HL s' l ts vs:=by
 obtain ⟨c,hc⟩:∃c,c=cl ns 1:=⟨_,rfl⟩
 obtain ⟨b,hb,eb⟩:=modNat (z0 c 3) 7 (by omega)
 obtain ⟨ts,h1,h2⟩:=zjd ns 5 b (by omega) (by omega)
 have hl:=y0 ts
 have run:∀st,∃l vs s2,Old st s2/\HL s2 l ts vs/\∀X:PV×Sto,zh5 [some (scr ns),some (.int c),some (.ref l),none,none,none] s2=.ok (.rt X.1) X.2->wJ [scr ns] st=.ok X.1 X.2:=fun st=>by
  obtain ⟨s1,e1,o1⟩:=y3 ns 1 (by omega) st
  obtain ⟨l,vs,s2,e2,o2,h⟩:=h2 s1
  refine ⟨l,vs,s2,o1.trans o2,h,fun X hX=>?_⟩
  rw [<-hc] at e1
  refine yv rfl (zA (zU (zC (zD (zk rfl) rfl) e1)) (zA (zU (zC (yz (zk rfl) (zD rfl (zo (zo (zk rfl) rfl (yZ _ _ (by decide) (by decide))) rfl (jT _ 7 b (by omega) eb s1)))) e2)) hX))
 by_cases h3:yc c 3=1
 ·obtain ⟨q,hq,eq⟩:=modNat (z0 c 21) 7 (by omega)
  obtain ⟨p,hp,ep⟩:=modNat (z0 c 147) ((ts.take 5).length+1) (by omega)
  have htd:=zbK ts 5
  obtain ⟨m,hm⟩:∃m:Nat,m+1+szs (ts.take 5)=53+q:=⟨52+q-szs (ts.take 5),by omega⟩
  have hpd:=zbK (ts.take 5) p
  have hs5:=y0 (ts.take 5)
  refine ⟨(ts.take 5).take p++[.row (lvT c 13 m)]++(ts.take 5).drop p,?_,?_,fun st=>?_⟩
  ·rw [jx,jx]
   simp only [szs,sz,zdi]
   omega
  ·have l1:(ts.take 5).length<=5:=by simp;omega
   have l2:=congrArg List.length (List.take_append_drop p (ts.take 5))
   simp only [List.length_append,List.length_cons,List.length_nil] at l2 ⊢
   omega
  obtain ⟨l,vs,s2,o2,h,K⟩:=run st
  obtain ⟨s3,e3,o3,h5⟩:=zfx h 5
  obtain ⟨d,e4⟩:=zbH (env:=[some (scr ns),some (.int c),some (.ref s2.length),none,none,none]) (i:=2) h5 (by omega) rfl
  have o4:Old s3 (s3++[d]):=zZ _ _
  have h6:=h5.mono o4
  generalize s3++[d]=s4 at e4 o4 h6
  have mm:(53+(q:Int))-((szs (ts.take 5):Nat):Int)=(m:Int)+1:=by omega
  have e5:=zjg (env:=[some (scr ns),some (.int c),some (.ref s2.length),some (.int ((m:Int)+1)),none,none]) (i:=1) (j:=3) (c:=c) (d:=13) (m:=m) (st:=s4) rfl rfl (by omega) (by simp [cMul]) (fun x=>by simp [cMul])
  have t5:=yu s4 (.lst (lvV c 13 m))
  have o5:Old s4 (s4++[.lst (lvV c 13 m)]):=zZ _ _
  have h7:=h6.mono o5
  generalize s4++[.lst (lvV c 13 m)]=s5 at e5 o5 t5 h7
  generalize s4.length=r5 at e5 t5
  have ln:=jK h7
  obtain ⟨s6,e6,o6,h8⟩:=zfx h7 p
  have tr:TR s6 (.row (lvT c 13 m)) (.tup (lvV c 13 m)):=⟨_,rfl,zje s6 c 13 m⟩
  have h9:=zdj (n:=(m:Int)+1) tr (by simp only [sz,zdi];omega)
  have o7:=zZ s6 [.lst [.tup [.tup (lvV c 13 m),.int ((m:Int)+1)]]]
  obtain ⟨s8,e8,o8,h10⟩:=zaN (h8.mono o7) h9 (by simp;omega)
  obtain ⟨s9,e9,o9,h11⟩:=zaO (h7.mono (o6.trans (o7.trans o8))) p
  obtain ⟨s10,e10,o10,h12⟩:=zaN (h10.mono o9) h11 (by simp;omega)
  refine ⟨_,_,s10,K (_,s10) ?_,o2.trans (o3.trans (o4.trans (o5.trans (o6.trans (o7.trans (o8.trans (o9.trans o10))))))),h12⟩
  refine zA (yB (zT (b:=false) ?_)) (zA (zU (jk (zk rfl) jn (jm rfl) e3)) (zA (zU (v:=.int ((m:Int)+1)) (zo (zo rfl (zo (zo (zk rfl) rfl (yZ _ _ (by decide) (by decide))) rfl (jT _ 7 q (by omega) eq s3)) (jb _ _)) e4 ?_)) (zA (zU (yl (zD (zC (ya e5) ?_) (zk rfl)) (by simp))) (zA (zU (zo (zo (zk rfl) rfl (yZ _ _ (by decide) (by decide))) (zo (zC (ya (zk rfl)) ln) rfl (jb _ _)) (jT _ _ p (by omega) ep s5))) (ym (zo (zo (jk (zk rfl) jn (jm (zk rfl)) e6) (wq (ya (zk rfl)) (by simp)) e8) (jk (zk rfl) (jm (zk rfl)) jn e9) e10))))))
  ·refine zo (zo (zk rfl) rfl (yY _ _ (by decide))) rfl ?_
   rw [h3]
   simp
  ·rw [<-mm];exact j7 _ _
  ·rw [w8,yj t5]
 ·refine ⟨ts,by omega,by omega,fun st=>?_⟩
  obtain ⟨l,vs,s2,o2,h,K⟩:=run st
  refine ⟨l,vs,s2,K (_,s2) (yP (yX (zT (b:=true) ?_) (ym (zk rfl)))),o2,h⟩
  refine zo (zo (zk rfl) rfl (yY _ _ (by decide))) rfl ?_
  simp [h3]
def PrV (ns:List Int) (m:Sto->Res PV) (t:Tr):Prop:=∀st,∃v s',m st=.ok (.tup [v,.int (sz t:Nat)]) s'/\Old st s'/\TR s' t v
theorem eqI (i j:Int) (st:Sto):yh (.int i) (.int j) st=.ok (.bl (decide (i=j))) st:=by
 simp [Mi.plain,dep,eqP]
 rfl
theorem zsy (ns:List Int):∃t,sz t<=60/\PrV ns (zeO [scr ns]) t:=by
 obtain ⟨c,hc⟩:∃c,c=cl ns 2:=⟨_,rfl⟩
 obtain ⟨b,hb,eb⟩:=modNat (z0 c 4) 7 (by omega)
 obtain ⟨b',hb',eb'⟩:=modNat (z0 c 4) 60 (by omega)
 obtain ⟨n,hn⟩:∃n:Nat,n=if yc c 4=1 then b' else b:=⟨_,rfl⟩
 have hn60:n<=59:=by rw [hn];split<;>omega
 obtain ⟨ts,h1,h2⟩:=zjd ns 14 n (by omega) (by omega)
 have tl:=y0 ts
 refine ⟨.row ts,by simp only [sz];omega,fun st=>?_⟩
 obtain ⟨s1,e1,o1⟩:=y3 ns 2 (by omega) st
 obtain ⟨s2,e2,o2⟩:=y3 ns 2 (by omega) s1
 rw [<-hc] at e1 e2
 have A:∃s3,Old s2 s3/\(zN (mB (zg yh (zg zR (zl yt (ze (zc 0) (ze (mC (.int 2)) zj))) (mC (.int 4))) (mC (.int 1))))
  (zx 1 (zg zR (zg yf (zl yt (ze (zc 0) (ze (mC (.int 2)) zj))) (mC (.int 4))) (mC (.int 60))))
  zQ) [some (scr ns),some (.int (b:Int)),none] s1=.ok (.nx [some (scr ns),some (.int (n:Int)),none]) s3:=by
  by_cases h4:yc c 4=1
  ·obtain ⟨s3,e3,o3⟩:=y3 ns 2 (by omega) s2
   rw [<-hc] at e3
   rw [if_pos h4] at hn
   subst hn
   exact ⟨s3,o3,yX (zT (b:=true) (zo (zo (zC (zD (zk rfl) rfl) e2) rfl (yY _ _ (by decide))) rfl (by rw [eqI,h4];rfl))) (zU (zo (zo (zC (zD (zk rfl) rfl) e3) rfl (yZ _ _ (by decide) (by decide))) rfl (jT _ 60 _ (by omega) eb' s3)))⟩
  ·rw [if_neg h4] at hn
   subst hn
   exact ⟨s2,Old.refl _,yB (zT (b:=false) (zo (zo (zC (zD (zk rfl) rfl) e2) rfl (yY _ _ (by decide))) rfl (by rw [eqI,decide_eq_false h4])))⟩
 obtain ⟨s3,o3,A⟩:=A
 obtain ⟨l,vs,s4,e4,o4,h⟩:=h2 s3
 have e5:=zaM (env:=[some (scr ns),some (.int (n:Int)),some (.ref l)]) (i:=2) h (by omega) rfl
 have o5:Old s4 (s4++[.lst vs]):=zZ _ _
 have t5:=yu s4 (.lst vs)
 obtain ⟨d,e6⟩:=zbH (env:=[some (scr ns),some (.int (n:Int)),some (.ref l)]) (i:=2) (h.mono o5) (by omega) rfl
 have o6:Old (s4++[.lst vs]) (s4++[.lst vs]++[d]):=zZ _ _
 refine ⟨.tup vs,_,yv rfl (zA (zU (zo (zo (zC (zD (zk rfl) rfl) e1) rfl (yZ _ _ (by decide) (by decide))) rfl (jT _ 7 b (by omega) eb s1))) (zA A (zA (zU (zC (yz (zk rfl) (zD rfl (zk rfl))) e4)) (ym (yl (zD (zC (ya e5) (by rw [w8,yj t5])) (zo rfl e6 ?_)) (by simp)))))),o1.trans (o2.trans (o3.trans (o4.trans (o5.trans o6)))),_,rfl,(h.mono (o5.trans o6)).tr⟩
 rw [jb]
 rfl
theorem zsz (ns:List Int):∃t,sz t<=60/\PrV ns (zeP [scr ns]) t:=by
 by_cases h:yc (z0 (cl ns 2) 300) 2=1
 ·obtain ⟨q1,q2,q3⟩:=lf (cl ns 23)
  refine ⟨lfT (cl ns 23),by omega,fun st=>?_⟩
  obtain ⟨s1,e1,o1⟩:=y3 ns 2 (by omega) st
  obtain ⟨s2,e2,o2⟩:=y3 ns 23 (by omega) s1
  refine ⟨_,s2,yv rfl (yP (yX (zT (b:=true) (zo (zo (zo (zC (zD (zk rfl) rfl) e1) rfl (yZ _ _ (by decide) (by decide))) rfl (yY _ _ (by decide))) rfl (by rw [eqI,h];rfl))) (ym (yl (zD (zC (ya (zC (zD (zk rfl) rfl) e2)) (q3 s2).1) ?_) (by simp))))),o1.trans o2,(q3 s2).2⟩
  rw [q1];rfl
 ·obtain ⟨t,h1,h2⟩:=zsy ns
  refine ⟨t,h1,fun st=>?_⟩
  obtain ⟨s1,e1,o1⟩:=y3 ns 2 (by omega) st
  obtain ⟨v,s2,e2,o2,tv⟩:=h2 s1
  exact ⟨v,s2,yv rfl (zA (yB (zT (b:=false) (zo (zo (zo (zC (zD (zk rfl) rfl) e1) rfl (yZ _ _ (by decide) (by decide))) rfl (yY _ _ (by decide))) rfl (by rw [eqI,decide_eq_false h])))) (ym (zC (ya (zk rfl)) e2))),o1.trans o2,tv⟩
theorem zji (ns:List Int) (tot:Int) (h1:1<=tot) (h60:tot<=60):∃t,sz t<=60/\PrV ns (zcU [scr ns,.int tot]) t:=by
 obtain ⟨c,hc⟩:∃c,c=cl ns 24:=⟨_,rfl⟩
 obtain ⟨b,hb,eb⟩:=modNat (z0 c 2) 2 (by omega)
 by_cases h2:yc c 2=0\/60-tot+(b:Int)<1
 ·obtain ⟨t,h1,h3⟩:=zsz ns
  refine ⟨t,h1,fun st=>?_⟩
  obtain ⟨s1,e1,o1⟩:=y3 ns 24 (by omega) st
  obtain ⟨v,s2,e2,o2,tv⟩:=h3 s1
  rw [<-hc] at e1
  refine ⟨v,s2,yv rfl (zA (zU (zC (zD (zk rfl) rfl) e1)) (zA (zU (zo (zo rfl (zk rfl) (j7 _ _)) (zo (zo (zk rfl) rfl (yZ _ _ (by decide) (by decide))) rfl (jT _ 2 b (by omega) eb s1)) (jb _ _))) (yP (yX ?_ (ym (zC (ya (zk rfl)) e2)))))),o1.trans o2,tv⟩
  by_cases h4:yc c 2=0
  ·exact zpG (zT (zo (zo (zk rfl) rfl (yY _ _ (by decide))) rfl (by rw [eqI,h4];rfl)))
  ·refine zhO (zT (zo (zo (zk rfl) rfl (yY _ _ (by decide))) rfl (by rw [eqI,decide_eq_false h4]))) (zT (zo (zk rfl) rfl ?_))
   rw [zcI,decide_eq_true (h2.resolve_left h4)]
 ·have h3:¬yc c 2=0:=fun e=>h2 (.inl e)
  have h4:¬60-tot+(b:Int)<1:=fun e=>h2 (.inr e)
  obtain ⟨m,hm⟩:∃m:Nat,60-tot+(b:Int)=(m:Int)+1:=⟨(60-tot+b-1).toNat,by omega⟩
  refine ⟨.row (lvT c 17 m),by simp only [sz,zdi];omega,fun st=>?_⟩
  obtain ⟨s1,e1,o1⟩:=y3 ns 24 (by omega) st
  rw [<-hc] at e1
  have e5:=zjg (env:=[some (scr ns),some (.int tot),some (.int c),some (.int ((m:Int)+1))]) (i:=2) (j:=3) (c:=c) (d:=17) (m:=m) (st:=s1) rfl rfl (by omega) (by simp [cMul]) (fun x=>by simp [cMul])
  have t5:=yu s1 (.lst (lvV c 17 m))
  refine ⟨.tup (lvV c 17 m),_,yv rfl (zA (zU (zC (zD (zk rfl) rfl) e1)) (zA (zU (v:=.int ((m:Int)+1)) (zo (zo rfl (zk rfl) (j7 _ _)) (zo (zo (zk rfl) rfl (yZ _ _ (by decide) (by decide))) rfl (jT _ 2 b (by omega) eb s1)) (by rw [jb,hm]))) (zA (yB (zhO (zT (zo (zo (zk rfl) rfl (yY _ _ (by decide))) rfl (by rw [eqI,decide_eq_false h3]))) (zT (zo (zk rfl) rfl ?_)))) (ym (yl (zD (zC (ya e5) (by rw [w8,yj t5])) (zk ?_)) (by simp)))))),o1.trans (zZ _ _),_,rfl,zje _ c 17 m⟩
  ·rw [zcI,decide_eq_false (by omega)]
  ·simp only [sz,zdi,List.map_cons,List.map_nil,List.set_cons_succ,List.set_cons_zero,List.cons_append,List.getElem?_cons_succ,List.getElem?_cons_zero]
   rw [show ((m:Int)+1)=((1+m:Nat):Int) by omega]
   rfl
theorem zjj (st:Sto):za0 (.int 10) (.int 17) st=.ok (.int 100000000000000000) st:=by
 have cp:cPow 10 17=true:=by decide
 have pw:((10:Int) ^ (17:Int).toNat)=100000000000000000:=by decide
 show (if cPow 10 17=true then Res.ok (PV.int (10 ^ (17:Int).toNat)) st else .stuck)=_
 rw [if_pos cp,pw]
theorem zsA (c:Int) (m:Nat) (hm:m<=1000):∃i:Int,∀st,∃s',zeN [.int c,.int (m:Int)] st=.ok (.int i) s'/\Old st s':=by
 by_cases h:yc c 4=0
 ·obtain ⟨b,hb,eb⟩:=modNat (z0 c 4) 5 (by omega)
  obtain ⟨i,hi⟩:∃i:Int,([PV.int (-1),.int (m:Int),.int (0-(m:Int)),.int (0-1-yc (z0 c 16) 100000000000000000),.int ((m:Int)+yc (z0 c 16) 100000000000000000)])[b]?=some (.int i):=by
   match b,hb with
   | 0,_=>exact ⟨_,rfl⟩
   | 1,_=>exact ⟨_,rfl⟩
   | 2,_=>exact ⟨_,rfl⟩
   | 3,_=>exact ⟨_,rfl⟩
   | 4,_=>exact ⟨_,rfl⟩
  refine ⟨i,fun st=>⟨st++[.lst [PV.int (-1),.int (m:Int),.int (0-(m:Int)),.int (0-1-yc (z0 c 16) 100000000000000000),.int ((m:Int)+yc (z0 c 16) 100000000000000000)]],yv rfl (yP (yX (zT (b:=true) (zo (zo (zk rfl) rfl (yY _ _ (by decide))) rfl (by rw [eqI,h];rfl))) (ym (zo (wq (yz rfl (yz (zk rfl) (yz (zo rfl (zk rfl) (j7 _ _)) (zD (zo (zo rfl rfl (j7 _ _)) (zo (zo (zk rfl) rfl (yZ _ _ (by decide) (by decide))) (zo rfl rfl (zjj _)) (yY _ _ (by decide))) (j7 _ _)) (zo (zk rfl) (zo (zo (zk rfl) rfl (yZ _ _ (by decide) (by decide))) (zo rfl rfl (zjj _)) (yY _ _ (by decide))) (jb _ _)))))) (by simp)) (zo (zo (zk rfl) rfl (yZ _ _ (by decide) (by decide))) rfl (jT _ 5 b (by omega) eb _)) ?_)))),zZ _ _⟩⟩
  rw [zbb,yj (yu _ _),atI_get hi,w5]
 ·refine ⟨yc (z0 c 4) (max 1 m:Nat),fun st=>⟨st,yv rfl (zA (yB (zT (b:=false) (zo (zo (zk rfl) rfl (yY _ _ (by decide))) rfl (by rw [eqI,decide_eq_false h])))) (ym (zo (zo (zk rfl) rfl (yZ _ _ (by decide) (by decide))) (zC (zD rfl (zk rfl)) (xs:=[.int 1,.int m]) (s1:=st) (X:=.ok (.int ((max 1 m:Nat):Int)) st) ?_) (yY _ _ (by omega))))),Old.refl _⟩⟩
  show Res.ok _ _=_
  congr 2
  split<;>omega
theorem zfy {st:Sto}{l:Nat}{ts:List Tr}{vs:List PV}(h:HL st l ts vs) (hl:ts.length<=1000):∃v s',zbn [.ref l] st=.ok v s'/\Old st s'/\OcV s' (chk (.row ts)) v:=by
 obtain ⟨d,e6⟩:=zbH (env:=[some (.ref l)]) (i:=0) h hl rfl
 have o6:Old st (st++[d]):=zZ _ _
 have h2:=h.mono o6
 generalize st++[d]=s1 at e6 o6 h2
 unfold chk
 by_cases h60:sz (.row ts)<=60
 ·rw [if_pos h60]
  simp only [sz] at h60
  have e5:=zaM (env:=[some (.ref l)]) (i:=0) h2 hl rfl
  have t5:=yu s1 (.lst vs)
  refine ⟨_,_,yv rfl (zA (yB (zT (b:=false) (zo (zo rfl e6 (jb _ _)) rfl (by rw [zaF,decide_eq_false (by omega)])))) (ym (yl (zD rfl (zC (ya e5) (by rw [w8,yj t5]))) (by simp)))),o6.trans (zZ _ _),.tup vs,rfl,vs,rfl,h2.tr.mono (zc9 _ _)⟩
 ·rw [if_neg h60]
  simp only [sz] at h60
  exact ⟨_,_,yv rfl (yP (yX (zT (b:=true) (zo (zo rfl e6 (jb _ _)) rfl (by rw [zaF,decide_eq_true (by omega)]))) (ym (yl (zD rfl rfl) (by simp))))),o6,rfl⟩
theorem OcV.mono {a b:Sto}(o:Old a b):∀{oc:Str ⊕ Tr}{v:PV},OcV a oc v->OcV b oc v
 | .inl _,_,h=>h
 | .inr _,_,⟨x,e,h⟩=>⟨x,e,h.mono o.dk⟩
def good:Str ⊕ Tr->Prop
 | .inl w=>w.length<=1000
 | .inr t=>sz t<=60
theorem zag (t:Tr):good (chk t):=by
 unfold chk
 split
 ·assumption
 ·show (("large" : String):Str).length<=1000;decide
theorem zaP {t:Tr}(h:sz t<=60):chk t=.inr t:=by unfold chk;rw [if_pos h]
theorem zbL {a:Sto}{oc:Str ⊕ Tr}{f d:PV}(hf:OcV a oc f) (hd:OcV a oc d) (g:good oc):yL 64 [f,d] a=.ok (.bl true) a :=
 zsf hf hd (fun w e=>by subst e;exact g) (fun t e=>by subst e;exact g)
structure RowW (w:Str) (args:List PV->PV->Int->List PV) (oc:List Tr->Tr->Int->Str ⊕ Tr):Prop where
 new:∃k:Int,∀st,wK [.str w] st=.ok (.ref st.length) (st++[OpO w k])
 val:∀ys x n i st,zbx [.str w,.tup ys,.tup [x,n],.int i] st=.ok (.tup (args ys x i)) st
 ask:∀st o k us ys t x i,st[o]?=some (OpO w k)->TRs st us ys->TR st t x->szs us<=70->sz t<=70->∃f s',yC [.ref o,.tup (args ys x i)] st=.ok f s'/\Old st s'/\OcV s' (oc us t i) f
 due:∀st l us vs t x i,HL st l us vs->TR st t x->szs us<=60->sz t<=60->∃d s',wL [.str w,.ref l,.tup [x,.int (sz t:Nat)],.int i] st=.ok d s'/\Old st s'/\OcV s' (oc us t i) d
 fit:∀us t i,szs us<=60->good (oc us t i)
section
variable {st:Sto}{l:Nat}{us:List Tr}{vs:List PV}{t:Tr}{x:PV}{i:Int}
theorem inPair (w a b:Str) (st:Sto):yx false (.str w) (.tup [.str a,.str b]) st=.ok (.bl (decide (w=a\/w=b))) st:=by
 rw [zoI,if_pos ⟨rfl,rfl,by simp [deps,dep]⟩]
 congr 2
 simp only [List.any_cons,List.any_nil,eqP,Bool.or_false,Bool.false_bne]
 show (a==w||b==w)=_
 rw [Bool.eq_iff_iff,Bool.or_eq_true,beq_iff_eq,beq_iff_eq,decide_eq_true_eq]
 exact ⟨fun h=>h.imp Eq.symm Eq.symm,fun h=>h.imp Eq.symm Eq.symm⟩
theorem isEmpty (h:HL st l us vs):zaz (.ref l) (.ref st.length) (st++[.lst []])=.ok (.bl (decide (us=[]))) (st++[.lst []]):=by
 have h1:=(h.mono (zZ st [.lst []])).at_
 have h2:=yu st (.lst [])
 have hl:=jJ h.tr.len
 unfold zaz
 have e:eqS (st++[.lst []]) 8 (.ref l) (.ref st.length)=some (decide (us=[])):=by
  show eqSO _ _=_
  rw [h1,h2]
  show allE jt _ _=_
  cases us with
  | nil =>
   rw [show prs [] vs=[] by simp [prs]]
   rfl
  | cons u us =>
   cases hp:prs (u::us) vs with
   | nil=>rw [hp] at hl;simp at hl
   | cons a b=>rfl
 rw [e]
theorem zsB (h:HL st l us vs):wL [.str "many", .ref l,x,.int i] st=.ok (.tup [.str "told", .int us.length]) st :=
 yv rfl (yP (yX (zT (zo (zk rfl) rfl (jo _ _))) (ym (yl (zD rfl (zC (ya (zk rfl)) (jK h))) (by simp)))))
theorem zbM {w:Str} (h:HL st l us vs) (hw:w ≠ "many") (hs:(w = "head" \/ w = "rest")->us≠[]) (hp:(w = "item" \/ w = "put")->0<=i/\i<us.length) :
  ∃s',Old st s'/\∀X:PV×Sto,zic [some (.str w),some (.ref l),some x,some (.int i)] s'=.ok (.rt X.1) X.2->wL [.str w,.ref l,x,.int i] st=.ok X.1 X.2:=by
 have A:∃s',Old st s'/\(jd (mB (zg (yx false) (zc 0) (yb (ze (mC (.str "head")) (ze (mC (.str "rest")) zj))))) (mB (zg zaz (zc 1) (ji zj)))) [some (.str w),some (.ref l),some x,some (.int i)] st=.ok false s':=by
  by_cases hh:w = "head" \/ w = "rest"
  ·refine ⟨_,zZ st [.lst []],j6 (zT (zo (zk rfl) (yl (zD rfl rfl) (by simp)) (by rw [inPair,decide_eq_true hh]))) (zT (zo (zk rfl) (wq zcF (by simp)) ?_))⟩
   rw [isEmpty h,decide_eq_false (hs hh)]
  ·exact ⟨st,Old.refl _,zaE (zT (zo (zk rfl) (yl (zD rfl rfl) (by simp)) (by rw [inPair,decide_eq_false hh])))⟩
 obtain ⟨s',o',A⟩:=A
 have B:(jd (mB (zg (yx false) (zc 0) (yb (ze (mC (.str "item")) (ze (mC (.str "put")) zj))))) (je (mB (we oLe jg (mC (.int 0)) (zc 3) (zl zS (ze (zc 1) zj)))))) [some (.str w),some (.ref l),some x,some (.int i)] s'=.ok false s':=by
  by_cases hh:w = "item" \/ w = "put"
  ·obtain ⟨q1,q2⟩:=hp hh
   refine j6 (zT (zo (zk rfl) (yl (zD rfl rfl) (by simp)) (by rw [inPair,decide_eq_true hh]))) (zcG (b:=true) (zT ?_))
   have ln:=jK (h.mono o')
   simp [q1,q2,ln]
  ·exact zaE (zT (zo (zk rfl) (yl (zD rfl rfl) (by simp)) (by rw [inPair,decide_eq_false hh])))
 exact ⟨s',o',fun X K=>yv rfl (zA (yB (zT (zo (zk rfl) rfl (by rw [jo,decide_eq_false hw])))) (zA (yB A) (zA (yB B) K)))⟩
theorem zjk {w:Str} (h:HL st l [] vs) (hw:w = "head" \/ w = "rest"):wL [.str w,.ref l,x,.int i] st=.ok (.tup [.str "fault", .str "empty"]) (st++[.lst []]):=by
 have nm:w ≠ "many" := by rcases hw with rfl|rfl<;>decide
 refine yv rfl (zA (yB (zT (zo (zk rfl) rfl (by rw [jo,decide_eq_false nm])))) (yP (yX (j6 (zT (zo (zk rfl) (yl (zD rfl rfl) (by simp)) (by rw [inPair,decide_eq_true hw]))) (zT (zo (zk rfl) (wq zcF (by simp)) ?_))) (ym (yl (zD rfl rfl) (by simp))))))
 rw [isEmpty h,decide_eq_true rfl]
theorem zjl {w:Str} (h:HL st l us vs) (hw:w = "item" \/ w = "put") (hi:¬(0<=i/\i<us.length)):wL [.str w,.ref l,x,.int i] st=.ok (.tup [.str "fault", .str "place"]) st:=by
 have nm:w ≠ "many" := by rcases hw with rfl|rfl<;>decide
 have nh:¬(w = "head" \/ w = "rest"):=by rcases hw with rfl|rfl<;>decide
 have ln:=jK h
 refine yv rfl (zA (yB (zT (zo (zk rfl) rfl (by rw [jo,decide_eq_false nm])))) (zA (yB (zaE (zT (zo (zk rfl) (yl (zD rfl rfl) (by simp)) (by rw [inPair,decide_eq_false nh]))))) (yP (yX (j6 (zT (zo (zk rfl) (yl (zD rfl rfl) (by simp)) (by rw [inPair,decide_eq_true hw]))) (zcG (b:=false) (zT ?_))) (ym (yl (zD rfl rfl) (by simp)))))))
 by_cases q1:0<=i
 ·have q2:¬i<us.length:=fun z=>hi ⟨q1,z⟩
  simp [q1,q2,ln]
 ·simp [q1]
end
theorem neq {w a:Str}{e:zd}{st:Sto}(he:e[0]?=some (some (.str w))) (h:w≠a) {g:zd->Mo Fl}:zN (mB (zg yh (zc 0) (mC (.str a)))) g zQ e st=.ok (.nx e) st :=
 yB (zT (zo (zk he) rfl (by rw [jo,decide_eq_false h])))
theorem yeq {w a:Str}{e:zd}{st s1:Sto}{v:PV}(he:e[0]?=some (some (.str w))) (h:w=a) {g:zd->Mo Fl}(hg:g e st=.ok (.rt v) s1) {g':zd->Mo Fl}:zN (mB (zg yh (zc 0) (mC (.str a)))) g g' e st=.ok (.rt v) s1 :=
 yX (zT (zo (zk he) rfl (by rw [jo,decide_eq_true h]))) hg
theorem zah {st:Sto}{l:Nat}{us:List Tr}{vs:List PV}(h:HL st l us vs) {n:Nat}(hn:n<us.length):∃v,zq (.ref l) (.int (n:Int)) st=.ok (.tup [v,.int (sz us[n]:Nat)]) st/\TR st us[n] v:=by
 have hv:=h.tr.len
 have lt:n<vs.length:=by omega
 obtain ⟨t,e1,e2⟩:=h.tr.get (List.getElem?_eq_getElem lt)
 have e3:us[n]=t:=(List.getElem?_eq_some_iff.mp e1).2
 subst e3
 have g:=zfs e1 (List.getElem?_eq_getElem lt)
 exact ⟨_,by rw [zbb,yj h.at_,atI_get g,w5],e2⟩
theorem jU (x y:PV) (st:Sto):zq (.tup [x,y]) (.int 0) st=.ok x st:=by rw [zhn,yO,w5]
theorem ix1 (x y:PV) (st:Sto):zq (.tup [x,y]) (.int 1) st=.ok y st:=by rw [zhn,jG,w5]
theorem zsC:RowW "many" (fun ys _ _=>[.tup ys]) (fun us _ _=>chk (.num us.length)) where
 new:=⟨_,ziX.new⟩
 val ys x n i st:=yv rfl (zA (neq rfl (by decide)) (zA (neq rfl (by decide)) (zA (neq rfl (by decide)) (ym (yl (ya (zk rfl)) (by simp))))))
 ask st o k us ys t x i ho hr ht hz hs:=zsa ho hr
 due st l us vs t x i h ht hz hs:=⟨_,st,zsB h,Old.refl _,by
  rw [zaP (by simp [sz])]
  exact ⟨_,rfl,rfl⟩⟩
 fit us t i h:=zag _
theorem zsD {us:List Tr}:good (hdOc us):=by
 cases us with
 | nil=>show (("empty" : String):Str).length<=1000;decide
 | cons u us=>exact zag _
theorem zsE {us:List Tr}:good (rsOc us):=by
 cases us with
 | nil=>show (("empty" : String):Str).length<=1000;decide
 | cons u us=>exact zag _
theorem zjm:good (.inl "place"):=by show (("place" : String):Str).length<=1000;decide
theorem zsF:RowW "head" (fun ys _ _=>[.tup ys]) (fun us _ _=>hdOc us) where
 new:=⟨_,zfj.new⟩
 val ys x n i st:=yv rfl (zA (neq rfl (by decide)) (zA (neq rfl (by decide)) (zA (neq rfl (by decide)) (ym (yl (ya (zk rfl)) (by simp))))))
 ask st o k us ys t x i ho hr ht hz hs:=zr8 ho hr (by omega)
 due st l us vs t x i h ht hz hs:=by
  cases us with
  | nil=>exact ⟨_,_,zjk h (.inl rfl),zZ _ _,rfl⟩
  | cons u us =>
   obtain ⟨s',o',K⟩:=zbM (x:=.tup [x,.int (sz t:Nat)]) (i:=i) (w := "head") h (by decide) (fun _=>by simp) (fun z=>absurd z (by decide))
   obtain ⟨v,e,tv⟩:=zah (h.mono o') (n:=0) (by simp)
   refine ⟨.tup [.str "told", v],s',K (_,s') (yP (yeq rfl rfl (ym (yl (zD rfl (zo (zo (zk rfl) rfl e) rfl (jU _ _ _))) (by simp))))),o',?_⟩
   have:sz u<=60:=by simp only [szs] at hz;omega
   simp only [hdOc]
   rw [zaP this]
   exact ⟨v,rfl,tv⟩
 fit us t i h:=zsD
theorem zsG:RowW "rest" (fun ys _ _=>[.tup ys]) (fun us _ _=>rsOc us) where
 new:=⟨_,zfk.new⟩
 val ys x n i st:=yv rfl (zA (neq rfl (by decide)) (zA (neq rfl (by decide)) (zA (neq rfl (by decide)) (ym (yl (ya (zk rfl)) (by simp))))))
 ask st o k us ys t x i ho hr ht hz hs:=zr9 ho hr (by omega)
 due st l us vs t x i h ht hz hs:=by
  cases us with
  | nil=>exact ⟨_,_,zjk h (.inr rfl),zZ _ _,rfl⟩
  | cons u us =>
   have tl:=y0 (u::us)
   obtain ⟨s',o',K⟩:=zbM (x:=.tup [x,.int (sz t:Nat)]) (i:=i) (w := "rest") h (by decide) (fun _=>by simp) (fun z=>absurd z (by decide))
   obtain ⟨s1,e1,o1,h1⟩:=zaO (h.mono o') 1
   obtain ⟨v,s2,e2,o2,oc⟩:=zfy h1 (by simp at tl ⊢;omega)
   exact ⟨v,s2,K (_,s2) (zA (neq rfl (by decide)) (zA (neq rfl (by decide)) (yP (yeq rfl rfl (ym (zC (ya (jk (zk rfl) (jm rfl) jn e1)) e2)))))),o'.trans (o1.trans o2),oc⟩
 fit us t i h:=zsE
theorem zjn:RowW "front" (fun ys x _=>[x,.tup ys]) (fun us t _=>chk (.row (t::us))) where
 new:=⟨_,ziW.new⟩
 val ys x n i st:=yv rfl (yP (yeq rfl rfl (ym (yl (zD (zo (zk rfl) rfl (jU _ _ _)) (zk rfl)) (by simp)))))
 ask st o k us ys t x i ho hr ht hz hs:=zr7 ho ht hr (by simp only [sz,szs];omega)
 due st l us vs t x i h ht hz hs:=by
  have tl:=y0 us
  obtain ⟨s',o',K⟩:=zbM (x:=.tup [x,.int (sz t:Nat)]) (i:=i) (w := "front") h (by decide) (fun z=>absurd z (by decide)) (fun z=>absurd z (by decide))
  have h1:=zdj (n:=(sz t:Nat)) (ht.mono o'.dk) rfl
  have o1:=zZ s' [.lst [.tup [x,.int (sz t:Nat)]]]
  obtain ⟨s2,e2,o2,h2⟩:=zaN h1 ((h.mono o').mono o1) (by simp;omega)
  obtain ⟨v,s3,e3,o3,oc⟩:=zfy h2 (by simp;omega)
  exact ⟨v,s3,K (_,s3) (zA (neq rfl (by decide)) (zA (neq rfl (by decide)) (zA (neq rfl (by decide)) (yP (yeq rfl rfl (ym (zC (ya (zo (wq (ya (zk rfl)) (by simp)) (zk rfl) e2)) e3))))))),o'.trans (o1.trans (o2.trans o3)),oc⟩
 fit us t i h:=zag _
theorem zsH:RowW "item" (fun ys _ i=>[.tup ys,.int i]) (fun us _ i=>itOc us i) where
 new:=⟨_,zfl.new⟩
 val ys x n i st:=yv rfl (zA (neq rfl (by decide)) (yP (yeq rfl rfl (ym (yl (zD (zk rfl) (zk rfl)) (by simp))))))
 ask st o k us ys t x i ho hr ht hz hs:=zsb ho hr i (by omega)
 due st l us vs t x i h ht hz hs:=by
  unfold itOc
  by_cases hi:0<=i/\i<us.length
  ·rw [if_pos hi]
   obtain ⟨n,rfl⟩:=Int.eq_ofNat_of_zero_le hi.1
   have lt:n<us.length:=by omega
   obtain ⟨s',o',K⟩:=zbM (x:=.tup [x,.int (sz t:Nat)]) (i:=(n:Int)) (w := "item") h (by decide) (fun z=>absurd z (by decide)) (fun _=>hi)
   obtain ⟨v,e,tv⟩:=zah (h.mono o') lt
   refine ⟨.tup [.str "told", v],s',K (_,s') (zA (neq rfl (by decide)) (yP (yeq rfl rfl (ym (yl (zD rfl (zo (zo (zk rfl) (zk rfl) e) rfl (jU _ _ _))) (by simp)))))),o',?_⟩
   have hs:=ww (List.getElem_mem lt)
   rw [Int.toNat_natCast,List.getElem?_eq_getElem lt]
   show OcV s' (chk us[n]) _
   rw [zaP (by omega)]
   exact ⟨v,rfl,tv⟩
  ·rw [if_neg hi]
   exact ⟨_,st,zjl h (.inl rfl) hi,Old.refl _,rfl⟩
 fit us t i h:=by
  unfold itOc
  split
  ·exact zag _
  ·exact zjm
theorem zjo:RowW "put" (fun ys x i=>[.tup ys,.int i,x]) (fun us t i=>ptOc us i t) where
 new:=⟨_,zfm.new⟩
 val ys x n i st:=yv rfl (zA (neq rfl (by decide)) (zA (neq rfl (by decide)) (yP (yeq rfl rfl (ym (yl (yz (zk rfl) (zD (zk rfl) (zo (zk rfl) rfl (jU _ _ _)))) (by simp)))))))
 ask st o k us ys t x i ho hr ht hz hs:=zsc ho hr i ht (by omega) (by omega)
 due st l us vs t x i h ht hz hs:=by
  have tl:=y0 us
  unfold ptOc
  by_cases hi:0<=i/\i<us.length
  ·rw [if_pos hi]
   obtain ⟨n,rfl⟩:=Int.eq_ofNat_of_zero_le hi.1
   have lt:n<us.length:=by omega
   obtain ⟨s',o',K⟩:=zbM (x:=.tup [x,.int (sz t:Nat)]) (i:=(n:Int)) (w := "put") h (by decide) (fun z=>absurd z (by decide)) (fun _=>hi)
   obtain ⟨s1,e1,o1,h1⟩:=zfx (h.mono o') n
   have h2:=zdj (n:=(sz t:Nat)) (ht.mono (o'.trans o1).dk) rfl
   have o2:=zZ s1 [.lst [.tup [x,.int (sz t:Nat)]]]
   obtain ⟨s3,e3,o3,h3⟩:=zaN (h1.mono o2) h2 (by simp;omega)
   obtain ⟨s4,e4,o4,h4⟩:=zaO (h.mono (o'.trans (o1.trans (o2.trans o3)))) (n+1)
   obtain ⟨s5,e5,o5,h5⟩:=zaN (h3.mono o4) h4 (by simp;omega)
   obtain ⟨v,s6,e6,o6,oc⟩:=zfy h5 (by simp;omega)
   rw [Int.toNat_natCast]
   exact ⟨v,s6,K (_,s6) (zA (neq rfl (by decide)) (zA (neq rfl (by decide)) (zA (neq rfl (by decide)) (zA (neq rfl (by decide)) (ym (zC (ya (zo (zo (jk (zk rfl) jn (jm (zk rfl)) e1) (wq (ya (zk rfl)) (by simp)) e3) (jk (zk rfl) (jm (zo (zk rfl) rfl (jb _ _))) jn e4) e5)) e6)))))),o'.trans (o1.trans (o2.trans (o3.trans (o4.trans (o5.trans o6))))),oc⟩
  ·rw [if_neg hi]
   exact ⟨_,st,zjl h (.inr rfl) hi,Old.refl _,rfl⟩
 fit us t i h:=by
  unfold ptOc
  split
  ·exact zag _
  ·exact zjm
theorem zsI {a:Sto}{us:List Tr}{xs ys:List PV}(h:TRs a us xs) (h':TRs a us ys) (hz:szs us<=60):yL 64 [.tup xs,.tup ys] a=.ok (.bl true) a:=by
 have h2:=dps_szs us
 exact zaL 64 (.row us) _ _ [] a (by simp only [dp];omega) (by simp only [sz];omega) (Fz.refl a) (fun _ h=>by cases h) ⟨_,rfl,h⟩ ⟨_,rfl,h'⟩
section
variable {ns:List Int}{w:Str}{l:Nat}{us:List Tr}{vs:List PV}{i:Int}{st:Sto}
theorem zsJ (h:HL st l us vs) (hz:szs us<=59) (z:List (Option PV)):∃tot:Int,1<=tot/\tot<=60/\(zN (jd (mB (zg yh (zc 1) (mC (.str "put")))) (mB (we oLe jg (mC (.int 0)) (zc 3) (zl zS (ze (zc 2) zj)))))
  (zx 4 (zg yD (zc 4) (zg zq (zg zq (zc 2) (zc 3)) (mC (.int 1)))))
  zQ) (some (scr ns)::some (.str w)::some (.ref l)::some (.int i)::some (.int (1+(szs us:Nat)))::z) st=.ok (.nx (some (scr ns)::some (.str w)::some (.ref l)::some (.int i)::some (.int tot)::z)) st:=by
 have ln:=jK h
 by_cases hw:w = "put"
 ·by_cases hi:0<=i/\i<us.length
  ·obtain ⟨n,rfl⟩:=Int.eq_ofNat_of_zero_le hi.1
   have lt:n<us.length:=by omega
   obtain ⟨v,e,tv⟩:=zah h lt
   have hs:=ww (List.getElem_mem lt)
   refine ⟨1+(szs us:Nat)-(sz us[n]:Nat),by omega,by omega,yX (j6 (zT (zo (zk rfl) rfl (by rw [jo,decide_eq_true hw]))) (zT ?_)) (zU (zo (zk rfl) (zo (zo (zk rfl) (zk rfl) e) rfl (ix1 _ _ _)) (j7 _ _)))⟩
   simp [ln,lt]
  ·refine ⟨1+(szs us:Nat),by omega,by omega,yB (j6 (zT (zo (zk rfl) rfl (by rw [jo,decide_eq_true hw]))) (zT ?_))⟩
   by_cases q1:0<=i
   ·have q2:¬i<us.length:=fun z=>hi ⟨q1,z⟩
    simp [q1,q2,ln]
   ·simp [q1]
 ·exact ⟨1+(szs us:Nat),by omega,by omega,yB (zaE (zT (zo (zk rfl) rfl (by rw [jo,decide_eq_false hw]))))⟩
end
theorem zsK (ns:List Int) {w:Str}{args:List PV->PV->Int->List PV}{oc:List Tr->Tr->Int->Str ⊕ Tr}(W:RowW w args oc) (st:Sto):∃s',zfe [scr ns,.str w] st=.ok (.bl true) s':=by
 obtain ⟨us,hz,hl,h3⟩:=zjh ns
 have tl:=y0 us
 obtain ⟨l,vs,s1,e1,o1,H1⟩:=h3 st
 obtain ⟨i,hi⟩:=zsA (cl ns 3) us.length (by omega)
 obtain ⟨s2,e2,o2⟩:=y3 ns 3 (by omega) s1
 have ln:=jK (H1.mono o2)
 obtain ⟨s3,e3,o3⟩:=hi s2
 obtain ⟨d,e4⟩:=zbH (env:=[some (scr ns),some (.str w),some (.ref l),some (.int i),none,none,none,none,none,none,none,none,none,none]) (i:=2) (H1.mono (o2.trans o3)) (by omega) rfl
 have o4:Old s3 (s3++[d]):=zZ _ _
 generalize s3++[d]=s4 at e4 o4
 have H4:=H1.mono (o2.trans (o3.trans o4))
 obtain ⟨tot,t1,t60,A⟩:=zsJ (ns:=ns) (w:=w) (i:=i) H4 hz [none,none,none,none,none,none,none,none,none]
 obtain ⟨t,ht60,hE⟩:=zji ns tot t1 t60
 obtain ⟨x,s5,e5,o5,tx⟩:=hE s4
 have H5:=H4.mono o5
 have e6:=zaM (env:=[some (scr ns),some (.str w),some (.ref l),some (.int i),some (.int tot),some (.tup [x,.int (sz t:Nat)]),none,none,none,none,none,none,none,none]) (i:=2) H5 (by omega) rfl
 have t6:=yu s5 (.lst vs)
 have o6:Old s5 (s5++[.lst vs]):=zZ _ _
 generalize s5++[.lst vs]=s6 at e6 o6 t6
 have H6:=H5.mono o6
 obtain ⟨s7,e7,o7,H7⟩:=zaO H6 1
 have H8:HL (s7++[.lst [.tup [.int 7,.int 1]]]) s7.length [.num 7] [.int 7]:=zdj (n:=1) (show TR s7 (.num 7) (.int 7) from rfl) rfl
 have o8:=zZ s7 [.lst [.tup [.int 7,.int 1]]]
 obtain ⟨s9,e9,o9,H9⟩:=zaN (H7.mono o8) H8 (by simp;omega)
 obtain ⟨k,hnew⟩:=W.new
 have e10:=hnew s9
 have jy:=yu s9 (OpO w k)
 have o10:Old s9 (s9++[OpO w k]):=zZ _ _
 generalize s9++[OpO w k]=s10 at e10 o10 jy
 generalize s9.length=o at e10 jy
 have o610:Old s6 s10:=o7.trans (o8.trans (o9.trans o10))
 have H10:=H6.mono o610
 have tx10:=tx.mono (o6.trans o610).dk
 obtain ⟨dd,s11,e11,o11,od⟩:=W.due s10 l us vs t x i H10 tx10 (by omega) (by omega)
 obtain ⟨f,s12,e12,o12,of⟩:=W.ask s11 o k us vs t x i (o11 _ _ jy) (H10.mono o11).tr (tx10.mono o11.dk) (by omega) (by omega)
 have us':szs (us.drop 1++[.num 7])<=60:=by
  have:=zbK us 1
  rw [jx]
  simp only [szs,sz]
  omega
 have tr12:TRs s12 (us.drop 1++[.num 7]) (vs.drop 1++[.int 7]):=((H10.mono (o11.trans o12)).tr.drop 1).append ⟨_,_,rfl,rfl,rfl⟩
 obtain ⟨g,s13,e13,o13,og⟩:=W.ask s12 o k _ _ t x i ((o11.trans o12) _ _ jy) tr12 (tx10.mono (o11.trans o12).dk) (by omega) (by omega)
 have o1113:=o11.trans (o12.trans o13)
 obtain ⟨dg,s14,e14,o14,odg⟩:=W.due s13 _ _ _ t x i (H9.mono (o10.trans o1113)) (tx10.mono o1113.dk) us' (by omega)
 have al1:=zbL (og.mono o14) odg (W.fit _ t i us')
 obtain ⟨f2,s15,e15,o15,of2⟩:=W.ask s14 o k us vs t x i ((o1113.trans o14) _ _ jy) (H10.mono (o1113.trans o14)).tr (tx10.mono (o1113.trans o14).dk) (by omega) (by omega)
 obtain ⟨l2,vs2,s16,e16,o16,H16⟩:=h3 s15
 have o1016:Old s10 s16:=o1113.trans (o14.trans (o15.trans o16))
 have e17:=fun (env:zd)=>zcv (fe:=zg zq (zc 0) (mC (.int 0))) (env:=env) (f:=fst) H16.at_ (fun x hx=>by
  obtain ⟨v,n,rfl⟩:=zbG hx
  simp [yO,fst]) (prs us vs2).length 0 (lim+1) [] (by omega) (Nat.zero_le _) (by rw [jJ H16.tr.len];show _<1000001;omega)
 simp only [List.drop_zero,zde H16.tr.len,List.nil_append] at e17
 have wP:=yu s16 (.lst vs2)
 have o17:Old s16 (s16++[.lst vs2]):=zZ _ _
 generalize s16++[.lst vs2]=s17 at e17 o17 wP
 have al2:=zbL (of.mono (o13.trans (o14.trans (o15.trans (o16.trans o17))))) (od.mono (o12.trans (o13.trans (o14.trans (o15.trans (o16.trans o17)))))) (W.fit us t i (by omega))
 have al3:=zbL (of2.mono (o16.trans o17)) (od.mono (o12.trans (o13.trans (o14.trans (o15.trans (o16.trans o17)))))) (W.fit us t i (by omega))
 have al4:=zsI (H10.mono (o1016.trans o17)).tr (H16.mono o17).tr (by omega)
 have hc:∀st,y4 (.tup vs) (some 1) none st=.ok (.tup (vs.drop 1)) st:=fun st=>by rw [zcl,show cutP vs (some 1) none=vs.drop 1 from zfw vs 1]
 have hv:=H10.tr.len
 have ha:∀st,zP (.tup (vs.drop 1)) (.tup [.int 7]) st=.ok (.tup (vs.drop 1++[.int 7])) st:=fun st=>by rw [zgX,if_pos (by simp [lim];omega)]
 refine ⟨s17,yv rfl (zA (zU (zC (ya (zk rfl)) e1)) (zA (zU (zC (zD (zC (zD (zk rfl) rfl) e2) (zC (ya (zk rfl)) ln)) e3)) (zA (zU (zo rfl e4 (jb _ _))) (zA A (zA (zU (zC (zD (zk rfl) (zk rfl)) e5)) (zA (zU (zC (ya e6) (X:=.ok (.tup vs) s6) ?_)) (zA (zU (zo (jk (zk rfl) (jm rfl) jn e7) (wq (ya (yl (zD rfl rfl) (by simp))) (by simp)) e9)) (zA (zU (zC (ya (zk rfl)) e10)) (zA (zU (zC (yz (zk rfl) (yz (zk rfl) (zD (zk rfl) (zk rfl)))) e11)) (zA (zU (zC (zD (zk rfl) (zC (yz (zk rfl) (yz (zk rfl) (zD (zk rfl) (zk rfl)))) (W.val _ _ _ _ _))) e12)) (zA (zU (zC (zD (zk rfl) (zC (yz (zk rfl) (yz (zo (jk (zk rfl) (jm rfl) jn (hc _)) (yl (ya rfl) (by simp)) (ha _)) (zD (zk rfl) (zk rfl)))) (W.val _ _ _ _ _))) e13)) (zA (yB (zcG (b:=true) (zT (zC (zD (zk rfl) (zC (yz (zk rfl) (yz (zk rfl) (zD (zk rfl) (zk rfl)))) e14)) al1)))) (zA (zU (zC (zD (zk rfl) (zC (yz (zk rfl) (yz (zk rfl) (zD (zk rfl) (zk rfl)))) (W.val _ _ _ _ _))) e15)) (zA (zU (zC (xs:=[.ref s16.length]) (s1:=s17) (X:=.ok (.tup vs2) s17) (ya ?_) ?_)) (ym (zcH (zC (zD (zk rfl) (zk rfl)) al2) (zcH (zC (zD (zk rfl) (zk rfl)) al3) (zC (zD (zk rfl) (zk rfl)) al4))))))))))))))))))⟩
 ·rw [w8,yj t6]
 ·rw [zbc,zcm,zC (ya (zk rfl)) e16,zJ]
  show (ye s16 l2 _).bind _=_
  rw [yj H16.at_]
  exact e17 _
 ·rw [w8,yj wP]
def fl {α:Type}(z:Str):List Str->List α->List α
 | k::ks,t::ts=>if k=z then fl z ks ts else t::fl z ks ts
 | _,_=>[]
def flK (z:Str) (ks:List Str):List Str:=fl z ks ks
theorem zai {α:Type}{z k:Str}{t:α}:∀{ks:List Str}{ts:List α},ks.length=ts.length->fl z (ks++[k]) (ts++[t])=fl z ks ts++if k=z then [] else [t]
 | [],[],_=>by simp [fl]
 | a::ks,b::ts,h=>by
  have ih:=zai (z:=z) (k:=k) (t:=t) (ks:=ks) (ts:=ts) (by simpa using h)
  simp only [List.cons_append,fl,ih]
  split<;>simp
 | [],_::_,h=>by simp at h
 | _::_,[],h=>by simp at h
theorem zdk {α:Type}{z:Str}:∀{ks:List Str}{ts:List α},ks.length=ts.length->(flK z ks).length=(fl z ks ts).length
 | [],[],_=>rfl
 | a::ks,b::ts,h=>by
  have ih:=zdk (z:=z) (ks:=ks) (ts:=ts) (by simpa using h)
  unfold flK at ih ⊢
  simp only [fl]
  split<;>simp [ih]
 | [],_::_,h=>by simp at h
 | _::_,[],h=>by simp at h
theorem zjp {st:Sto}{z:Str}:∀{ks:List Str}{ts:List Tr}{xs:List PV},TRs st ts xs->TRs st (fl z ks ts) (fl z ks xs)
 | [],ts,xs,h=>by cases ts<;>cases xs<;>simp [fl,TRs]
 | k::ks,[],xs,h=>by cases h;simp [fl,TRs]
 | k::ks,t::ts,xs,h=>by
  obtain ⟨x,r,rfl,h1,h2⟩:=h
  have ih:=zjp (z:=z) (ks:=ks) h2
  simp only [fl]
  split
  ·exact ih
  ·exact ⟨_,_,rfl,h1,ih⟩
theorem wR {z k:Str}:∀{ks:List Str},k∈flK z ks->k∈ks/\k≠z
 | [],h=>by simp [flK,fl] at h
 | a::ks,h=>by
  unfold flK at h
  simp only [fl] at h
  split at h
  ·obtain ⟨h1,h2⟩:=wR (ks:=ks) h
   exact ⟨List.mem_cons_of_mem _ h1,h2⟩
  ·rename_i ha
   rcases List.mem_cons.mp h with rfl|h
   ·exact ⟨List.mem_cons_self ..,ha⟩
   ·obtain ⟨h1,h2⟩:=wR (ks:=ks) h
    exact ⟨List.mem_cons_of_mem _ h1,h2⟩
theorem zjq {z:Str}:∀{ks:List Str},ks.Nodup->(flK z ks).Nodup
 | [],_=>by simp [flK,fl]
 | a::ks,h=>by
  rw [List.nodup_cons] at h
  have ih:=zjq (z:=z) h.2
  have hm:=fun k=>wR (z:=z) (k:=k) (ks:=ks)
  unfold flK at ih hm ⊢
  simp only [fl]
  split
  ·exact ih
  ·rw [List.nodup_cons]
   exact ⟨fun q=>h.1 (hm a q).1,ih⟩
theorem zjr {z k:Str}(h:k≠z):∀{ks:List Str}{ts:List Tr},ks.length=ts.length->((flK z ks).zip (fl z ks ts)).lookup k=(ks.zip ts).lookup k
 | [],[],_=>rfl
 | a::ks,b::ts,hl=>by
  have ih:=zjr h (ks:=ks) (ts:=ts) (by simpa using hl)
  unfold flK at ih ⊢
  simp only [fl]
  split
  ·rename_i ha
   subst ha
   rw [ih,List.zip_cons_cons,List.lookup_cons]
   have:(k==a)=false:=by simp [h]
   rw [this]
  ·simp only [List.zip_cons_cons,List.lookup_cons,ih]
 | [],_::_,h=>by simp at h
 | _::_,[],h=>by simp at h
theorem zdl {α:Type}{z:Str}:∀{ks:List Str}{ts:List α},z∉ks->(ks.zip ts).lookup z=none
 | [],_,_=>by simp
 | _::_,[],_=>by simp
 | a::ks,b::ts,h=>by
  rw [List.zip_cons_cons,List.lookup_cons]
  have:(z==a)=false:=by
   simp only [beq_eq_false_iff_ne]
   intro e;subst e;exact h (List.mem_cons_self ..)
  rw [this]
  exact zdl fun q=>h (List.mem_cons_of_mem _ q)
theorem zjs {z k:Str}{t:Tr}(h:k≠z):∀{ks:List Str}{ts:List Tr},(ks.zip (repl z t ks ts)).lookup k=(ks.zip ts).lookup k
 | [],_=>by simp
 | _::_,[]=>by simp [repl]
 | a::ks,b::ts=>by
  simp only [repl,List.zip_cons_cons,List.lookup_cons,zjs h]
  by_cases ha:a=z
  ·have:(k==a)=false:=by simp [ha,h]
   rw [this]
  ·rw [if_neg ha]
theorem zjt {z:Str}{t:Tr}:∀{ks:List Str}{ts:List Tr},ks.length=ts.length->z∈ks->(ks.zip (repl z t ks ts)).lookup z=some t
 | [],_,_,h=>by cases h
 | _::_,[],h,_=>by simp at h
 | a::ks,b::ts,hl,h=>by
  simp only [repl,List.zip_cons_cons,List.lookup_cons]
  by_cases ha:a=z
  ·subst ha;simp
  ·have:(z==a)=false:=by simp [Ne.symm ha]
   rw [this]
   exact zjt (by simpa using hl) ((List.mem_cons.mp h).resolve_left (Ne.symm ha))
theorem zbN {α:Type}{z:Str}:∀{ks:List Str}{ts:List α},ks.length=ts.length->z∉ks->fl z ks ts=ts
 | [],[],_,_=>rfl
 | a::ks,b::ts,hl,h=>by
  simp only [fl]
  rw [if_neg (fun e=>h (by rw [e];exact List.mem_cons_self ..)),zbN (by simpa using hl) (fun q=>h (List.mem_cons_of_mem _ q))]
 | [],_::_,h,_=>by simp at h
 | _::_,[],h,_=>by simp at h
theorem zju {z:Str}{t:Tr}:∀{ks:List Str}{ts:List Tr},z∉ks->repl z t ks ts=ts
 | [],_,_=>by simp [repl]
 | _::_,[],_=>by simp [repl]
 | a::ks,b::ts,h=>by
  simp only [repl]
  rw [if_neg (fun e=>h (by rw [e];exact List.mem_cons_self ..)),zju (fun q=>h (List.mem_cons_of_mem _ q))]
theorem zjv {z:Str}{t:Tr}:∀{ks:List Str}{ts:List Tr},ks.length=ts.length->ks.Nodup->z∈ks->szs (repl z t ks ts)=szs (fl z ks ts)+sz t
 | [],_,_,_,h=>by cases h
 | _::_,[],h,_,_=>by simp at h
 | a::ks,b::ts,hl,nd,h=>by
  rw [List.nodup_cons] at nd
  have hl':ks.length=ts.length:=by simpa using hl
  simp only [repl,fl]
  by_cases ha:a=z
  ·subst ha
   rw [if_pos rfl,if_pos rfl,zju nd.1,zbN hl' nd.1]
   simp only [szs];omega
  ·rw [if_neg ha,if_neg ha]
   have:=zjv (t:=t) hl' nd.2 ((List.mem_cons.mp h).resolve_left (Ne.symm ha))
   simp only [szs];omega
section
variable {z:Str}{t:Tr}{ks:List Str}{ts:List Tr}
theorem zjw (hl:ks.length=ts.length) (nd:ks.Nodup):szs (putT z t ks ts)=szs (fl z ks ts++[t]):=by
 rw [jx]
 simp only [szs]
 unfold putT
 by_cases h:z∈ks
 ·rw [if_pos (by simpa using h),zjv hl nd h];omega
 ·rw [if_neg (by simpa using h),zbN hl h,jx]
  simp only [szs]
theorem zsL (nd:ks.Nodup):(putK z ks).length=(flK z ks++[z]).length:=by
 unfold putK
 by_cases h:z∈ks
 ·rw [if_pos (by simpa using h)]
  have:∀{ks:List Str},ks.Nodup->z∈ks->ks.length=(flK z ks).length+1:=by
   intro ks
   induction ks with
   | nil=>intro _ h;cases h
   | cons a ks ih =>
    intro nd h
    rw [List.nodup_cons] at nd
    unfold flK
    simp only [fl]
    by_cases ha:a=z
    ·subst ha
     rw [if_pos rfl,zbN rfl nd.1];simp
    ·rw [if_neg ha]
     have:=ih nd.2 ((List.mem_cons.mp h).resolve_left (Ne.symm ha))
     unfold flK at this
     simp only [List.length_cons];omega
  simp [this nd h]
 ·rw [if_neg (by simpa using h)]
  unfold flK
  rw [zbN rfl h]
theorem zsM (hl:ks.length=ts.length) (nd:ks.Nodup) (k:Str) (u:Tr) (h:((flK z ks++[z]).zip (fl z ks ts++[t])).lookup k=some u):((putK z ks).zip (putT z t ks ts)).lookup k=some u:=by
 rw [List.zip_append (zdk hl),List.lookup_append] at h
 unfold putK putT
 by_cases hk:k=z
 ·subst hk
  rw [zdl (fun q=>(wR q).2 rfl)] at h
  simp [List.lookup_cons] at h
  subst h
  by_cases hm:k∈ks
  ·rw [if_pos (by simpa using hm),if_pos (by simpa using hm)]
   exact zjt hl hm
  ·rw [if_neg (by simpa using hm),if_neg (by simpa using hm),List.zip_append hl,List.lookup_append,zdl hm]
   simp [List.lookup_cons]
 ·rw [zjr hk hl] at h
  have hz:(k==z)=false:=by simp [hk]
  have h2:(ks.zip ts).lookup k=some u:=by
   cases hq:(ks.zip ts).lookup k with
   | none=>rw [hq] at h;simp [List.lookup_cons,hz] at h
   | some q=>rw [hq] at h;simpa using h
  by_cases hm:z∈ks
  ·rw [if_pos (by simpa using hm),if_pos (by simpa using hm),zjs hk]
   exact h2
  ·rw [if_neg (by simpa using hm),if_neg (by simpa using hm),List.zip_append hl,List.lookup_append,h2]
   rfl
end
theorem zsN {a:Sto}{z:Str}{t:Tr}{ks:List Str}{ts:List Tr}{f d:PV}(hl:ks.length=ts.length) (nd:ks.Nodup) (hf:OcV a (chk (.rec_ (putK z ks) (putT z t ks ts))) f) (hd:OcV a (chk (.rec_ (flK z ks++[z]) (fl z ks ts++[t]))) d):yL 64 [f,d] a=.ok (.bl true) a:=by
 have e:=zjw (z:=z) (t:=t) hl nd
 have e2:sz (.rec_ (putK z ks) (putT z t ks ts))=sz (.rec_ (flK z ks++[z]) (fl z ks ts++[t])):=by simp only [sz,e]
 by_cases h:sz (.rec_ (putK z ks) (putT z t ks ts))<=60
 ·rw [zaP h] at hf
  rw [zaP (by omega)] at hd
  exact zsg hf hd (by omega) (zsL nd) (zsM hl nd)
 ·unfold chk at hf hd
  rw [if_neg h] at hf
  rw [if_neg (by omega)] at hd
  exact zbL hf hd (by show (("large" : String):Str).length<=1000;decide)
theorem zjx:∀zs:List Str,plains (zs.map PV.str)=true
 | []=>rfl
 | z::zs=>by simp [plains,Mi.plain,zjx zs]
theorem zjy:∀zs:List Str,deps (zs.map PV.str)=0
 | []=>rfl
 | z::zs=>by simp [deps,dep,zjy zs]
theorem zsO {st:Sto}{n:Nat}{zs:List Str}(h:st[n]?=some (.lst (zs.map PV.str))) (z:Str):yx true (.str z) (.ref n) st=.ok (.bl (!decide (z∈zs))) st:=by
 rw [zoJ h,if_pos ⟨rfl,zjx zs,by rw [zjy];omega⟩]
 congr 2
 simp only [Bool.true_bne,List.any_map,Function.comp_def,eqP]
 congr 1
 rw [Bool.eq_iff_iff,List.any_eq_true,decide_eq_true_eq]
 constructor
 ·rintro ⟨x,hx,e⟩
  rw [beq_iff_eq] at e
  exact e▸hx
 ·intro h
  exact ⟨z,h,by simp⟩
theorem zjz:∀zs:List Str,strsOf (zs.map PV.str)=some zs
 | []=>rfl
 | z::zs=>by simp [strsOf,zjz zs]
theorem zjA {α:Type}{z:Str}:∀{ks:List Str}{ts:List α},ks.length=ts.length->z∈ks->(ks.zip ts).lookup z=ts[ks.idxOf z]?
 | [],_,_,h=>by cases h
 | _::_,[],h,_=>by simp at h
 | a::ks,b::ts,hl,h=>by
  rw [List.zip_cons_cons,List.lookup_cons]
  by_cases ha:z=a
  ·subst ha;simp
  ·have h1:(z==a)=false:=by simp [ha]
   have h2:(a==z)=false:=by simp [Ne.symm ha]
   rw [h1,List.idxOf_cons,h2]
   simp only [cond_false,List.getElem?_cons_succ]
   exact zjA (by simpa using hl) ((List.mem_cons.mp h).resolve_left ha)
structure DueA (st:Sto) (kr l:Nat) (zs:List Str) (us:List Tr) (vs:List PV) (t:Tr) (x:PV) (z:Str):Prop where
 hk:st[kr]?=some (.lst (zs.map PV.str))
 h:HL st l us vs
 len:zs.length=us.length
 nd:zs.Nodup
 sh:∀k∈zs,k.length<=1000
 shz:z.length<=1000
 tx:TR st t x
 hz:szs us<=60
 ht:sz t<=60
theorem zsP {ks:List Str}{us:List Tr}{z:Str}:good (fdOc ks us z):=by
 unfold fdOc
 split
 ·exact zag _
 ·show (("field" : String):Str).length<=1000;decide
section
variable {st:Sto}{kr l:Nat}{zs:List Str}{us:List Tr}{vs:List PV}{t:Tr}{x:PV}{z:Str}
theorem zsQ (D:DueA st kr l zs us vs t x z):∃d s',zaK [.str "field", .ref kr,.ref l,.tup [x,.int (sz t:Nat)],.str z] st=.ok d s'/\Old st s'/\OcV s' (fdOc zs us z) d:=by
 have hn:=zsO D.hk z
 by_cases hm:z∈zs
 ·have hi:zs.idxOf z<us.length:=by rw [<-D.len];exact List.idxOf_lt_length_of_mem hm
  obtain ⟨v,e,tv⟩:=zah D.h hi
  have hs:=ww (List.getElem_mem hi)
  have hz:=D.hz
  have lim:=D.len
  have tl:=y0 us
  have ix:zcD (zc 1) (zc 4) [some (.str "field"),some (.ref kr),some (.ref l),some (.tup [x,.int (sz t:Nat)]),some (.str z),none,none,none] st=.ok (.int (zs.idxOf z:Nat)) st:=by
   rw [zpD,zk (v:=.ref kr) rfl,zJ,zg2,yj D.hk,zJ,zk (v:=.str z) rfl,zJ]
   show (ye st kr _)=_
   rw [yj D.hk]
   simp only [zjz]
   rw [if_pos ⟨hm,by omega⟩]
  refine ⟨.tup [.str "told", v],st,yv rfl (yP (yeq rfl rfl (zA (yB (zT (zo (zk rfl) (zk rfl) (by rw [hn,decide_eq_true hm];rfl)))) (ym (yl (zD rfl (zo (zo (zk rfl) ix e) rfl (jU _ _ _))) (by simp)))))),Old.refl _,?_⟩
  unfold fdOc
  rw [zjA D.len hm,List.getElem?_eq_getElem hi]
  simp only
  rw [zaP (by omega)]
  exact ⟨v,rfl,tv⟩
 ·refine ⟨_,st,yv rfl (yP (yeq rfl rfl (yP (yX (zT (b:=true) (zo (zk rfl) (zk rfl) (by rw [hn,decide_eq_false hm];rfl))) (ym (yl (zD rfl rfl) (by simp))))))),Old.refl _,?_⟩
  unfold fdOc
  rw [zdl hm]
  rfl
abbrev bdS:zd->Mo Fl:=(zN (mB (zg yV (zg zq (zc 1) (zc 7)) (zc 4)))
  (zp (wo (zc 6) (zg zq (zc 1) (zc 7)) (zg zq (zg zq (zc 2) (zc 7)) (mC (.int 0))))
  (zx 5 (zg zP (zc 5) (zg zq (zg zq (zc 2) (zc 7)) (mC (.int 1))))))
  zQ)
theorem zfz {fo fi fv:zd->Mo PV}{e:zd}{st s1 s2 s3 s4:Sto}{x o k:PV}(h1:fv e st=.ok x s1) (h2:fo e s1=.ok o s2) (h3:fi e s2=.ok k s3) (h4:j3 k x o s3=.ok () s4):wo fo fi fv e st=.ok (.nx e) s4:=by
 rw [zr2,h1,zJ,h2,zJ,h3,zJ,h4,zJ]
theorem ix_str {st:Sto}{n i:Nat}{zs:List Str}(h:st[n]?=some (.lst (zs.map PV.str))) (hi:i<zs.length):zq (.ref n) (.int (i:Int)) st=.ok (.str zs[i]) st:=by
 rw [zbb,yj h,atI_get (k:=i) (x:=.str zs[i]) (by rw [List.getElem?_map,List.getElem?_eq_getElem hi];rfl),w5]
theorem zsR (D:DueA st kr l zs us vs t x z):∃d s',zaK [.str "set", .ref kr,.ref l,.tup [x,.int (sz t:Nat)],.str z] st=.ok d s'/\Old st s'/\OcV s' (chk (.rec_ (flK z zs++[z]) (fl z zs us++[t]))) d:=by
 have tl:=y0 us
 have hz:=D.hz
 have hlen:=D.len
 have hv:=D.h.tr.len
 have e0:∀i,i<=zs.length->(zs.take i).length=(us.take i).length:=fun i hi=>by simp;omega
 have e0v:∀i,i<=zs.length->(zs.take i).length=(vs.take i).length:=fun i hi=>by simp;omega
 obtain ⟨env',st',F,z7,rfl,hr,o⟩:=zbB (g:=gN 7) (body:=bdS) (fun i e s=>∃z7,e=[some (.str "set"),some (.ref kr),some (.ref l),some (.tup [x,.int (sz t:Nat)]),some (.str z),some (.int (1+(sz t:Nat)+(szs (fl z (zs.take i) (us.take i)):Nat))),some (.ref st.length),z7]/\s[st.length]?=some (.dic (flK z (zs.take i)) (fl z (zs.take i) (vs.take i)))/\Old st s) zs.length (fun i e s hi ⟨z7,he,h1,o⟩=>by
  subst he
  have hD:=D.h.mono o
  have hk:=o _ _ D.hk
  have lt:i<us.length:=by omega
  have ltv:i<vs.length:=by omega
  obtain ⟨v,ev,tv⟩:=zah hD lt
  have ek:=ix_str hk hi
  have tk:zs.take (i+1)=zs.take i++[zs[i]]:=List.take_succ_eq_append_getElem hi
  have tu:us.take (i+1)=us.take i++[us[i]]:=List.take_succ_eq_append_getElem lt
  have tw:vs.take (i+1)=vs.take i++[vs[i]]:=List.take_succ_eq_append_getElem ltv
  have hvi:v=vs[i]:=by
   have g:=zfs (List.getElem?_eq_getElem lt) (List.getElem?_eq_getElem ltv)
   rw [zbb,yj hD.at_,atI_get g,w5] at ev
   cases ev;rfl
  by_cases hzi:zs[i]=z
  ·refine ⟨_,_,s,rfl,yB (zT (zo (zo (zk rfl) (zk rfl) ek) (zk rfl) (by rw [zea,decide_eq_true hzi];rfl))),some (.int (i:Int)),?_,?_,o⟩
   ·rw [tk,tu,zai (e0 i (by omega)),if_pos hzi,List.append_nil]
    rfl
   ·unfold flK at h1 ⊢
    rw [tk,tw,zai (e0v i (by omega)),zai rfl,if_pos hzi,if_pos hzi,List.append_nil,List.append_nil]
    exact h1
  ·have nc:(flK z (zs.take i)).contains zs[i]=false:=by
    rw [Bool.eq_false_iff]
    intro h
    have hm:zs[i]∈zs.take i:=(wR (by simpa using h)).1
    obtain ⟨j,hj,e⟩:=List.getElem_of_mem hm
    have hj':j<i:=by simp at hj;omega
    rw [List.getElem_take] at e
    exact (List.pairwise_iff_getElem.mp D.nd j i (by omega) (by omega) hj') e
   have ll:(flK z (zs.take i)).length<=1000:=by
    have h2:(flK z (zs.take i)).length<=(zs.take i).length:=by
     have:∀ks:List Str,(flK z ks).length<=ks.length:=by
      intro ks
      induction ks with
      | nil=>simp [flK,fl]
      | cons a ks ih =>
       unfold flK at ih ⊢
       simp only [fl]
       split<;>simp<;>omega
     exact this _
    simp at h2
    omega
   have dp:=zdd h1 ll zs[i] v
   have ed:yq zs[i] v (flK z (zs.take i)) (fl z (zs.take i) (vs.take i))=(flK z (zs.take (i+1)),fl z (zs.take (i+1)) (vs.take (i+1))):=by
    unfold yq
    rw [nc]
    unfold flK
    rw [tk,tw,zai (e0v i (by omega)),zai rfl,if_neg hzi,if_neg hzi,hvi]
    simp
   rw [ed] at dp
   have hlt:=zbD h1
   have o':Old st (s.set st.length (.dic (flK z (zs.take (i+1))) (fl z (zs.take (i+1)) (vs.take (i+1))))):=o.set (Nat.le_refl _) _
   have hD':=D.h.mono o'
   obtain ⟨v2,ev2,_⟩:=zah hD' lt
   refine ⟨_,_,_,rfl,yX (zT (zo (zo (zk rfl) (zk rfl) ek) (zk rfl) (by rw [zea,decide_eq_false hzi];rfl))) (zA (zfz (zo (zo (zk rfl) (zk rfl) ev) rfl (jU _ _ _)) (zk rfl) (zo (zk rfl) (zk rfl) ek) dp) (zU (zo (zk rfl) (zo (zo (zk rfl) (zk rfl) ev2) rfl (ix1 _ _ _)) (jb _ _)))),some (.int (i:Int)),?_,by rw [List.getElem?_set_self hlt],o'⟩
   rw [tk,tu,zai (e0 i (by omega)),if_neg hzi,jx]
   have q:(1+((sz t:Nat):Int)+((szs (fl z (zs.take i) (us.take i))+szs [us[i]]:Nat):Int))=1+((sz t:Nat):Int)+((szs (fl z (zs.take i) (us.take i)):Nat):Int)+((sz us[i]:Nat):Int):=by
    simp only [szs];omega
   rw [q]
   rfl) zs.length 0 [some (.str "set"),some (.ref kr),some (.ref l),some (.tup [x,.int (sz t:Nat)]),some (.str z),some (.int (1+(sz t:Nat))),some (.ref st.length),none] (st++[.dic [] []]) (by omega) ⟨none,by simp [fl,szs],by simp [flK,fl],zZ _ _⟩
 rw [List.take_of_length_le (by omega),List.take_of_length_le (by omega)] at hr
 have hlt:=zbD hr
 have R:=zbC zs.length (st++[.dic [] []]) (by omega)
 have hk1:=zZ st [.dic [] []] _ _ D.hk
 have lnk:zS [.ref kr] (st++[.dic [] []])=.ok (.int zs.length) (st++[.dic [] []]):=by
  have:=zaD hk1
  rw [List.length_map] at this
  exact this
 have llK:(flK z zs).length<=1000:=by
  rw [zdk D.len]
  have:=zjw (z:=z) (t:=t) D.len D.nd
  have q:=zi3 (z:=z) (t:=t) (ks:=zs) (ts:=us)
  have ht:=D.ht
  have q2:sz t*(zs.length+1)<=60*61:=Nat.mul_le_mul ht (by omega)
  have h3:∀(ks:List Str) (ts:List Tr),(fl z ks ts).length<=ts.length:=by
   intro ks
   induction ks with
   | nil=>intro ts;simp [fl]
   | cons a ks ih =>
    intro ts
    cases ts with
    | nil=>simp [fl]
    | cons b ts =>
     have:=ih ts
     simp only [fl]
     split<;>simp<;>omega
  have:=h3 zs us
  omega
 have dp:=zdd hr llK z x
 have ed:yq z x (flK z zs) (fl z zs vs)=(flK z zs++[z],fl z zs vs++[x]):=by
  unfold yq
  have nc:(flK z zs).contains z=false:=by
   rw [Bool.eq_false_iff]
   intro h
   exact (wR (by simpa using h)).2 rfl
  rw [nc]
  simp
 rw [ed] at dp
 have o':Old st (st'.set st.length (.dic (flK z zs++[z]) (fl z zs vs++[x]))):=o.set (Nat.le_refl _) _
 have hs:(st'.set st.length (.dic (flK z zs++[z]) (fl z zs vs++[x])))[st.length]?=some (.dic (flK z zs++[z]) (fl z zs vs++[x])):=by rw [List.getElem?_set_self hlt]
 generalize st'.set st.length (.dic (flK z zs++[z]) (fl z zs vs++[x]))=s9 at dp o' hs
 have L:(jH (iRng1 (ze (zl zS (ze (zc 1) zj)) zj)) (gN 7) bdS) [some (.str "set"),some (.ref kr),some (.ref l),some (.tup [x,.int (sz t:Nat)]),some (.str z),some (.int (1+(sz t:Nat))),some (.ref st.length),none] (st++[.dic [] []])=.ok (.nx [some (.str "set"),some (.ref kr),some (.ref l),some (.tup [x,.int (sz t:Nat)]),some (.str z),some (.int (1+(sz t:Nat)+(szs (fl z (zs.take zs.length) (us.take zs.length)):Nat))),some (.ref st.length),z7]) st':=by
  rw [zcn,w6,ya (zC (ya (zk (v:=.ref kr) rfl)) lnk),zJ,R,zJ,za9]
  exact F
 rw [List.take_of_length_le (by omega),List.take_of_length_le (by omega)] at L
 have sze:sz (.rec_ (flK z zs++[z]) (fl z zs us++[t]))=1+szs (fl z zs us)+sz t:=by
  simp only [sz,jx,szs];omega
 unfold chk
 by_cases h60:sz (.rec_ (flK z zs++[z]) (fl z zs us++[t]))<=60
 ·rw [if_pos h60]
  refine ⟨_,s9,yv rfl (zA (neq rfl (by decide)) (zA (zU (zo rfl (zo (zk rfl) rfl (ix1 _ _ _)) (jb _ _))) (zA (zU rfl) (zA L (zA (zfz (zo (zk rfl) rfl (jU _ _ _)) (zk rfl) (zk rfl) dp) (zA (yB (zT (zo (zk rfl) rfl (by rw [zaF,decide_eq_false (by omega)])))) (ym (yl (zD rfl (zk rfl)) (by simp))))))))),o',.ref st.length,rfl,st.length,_,rfl,hs,?_,?_,?_,?_⟩
  ·rw [List.nodup_append]
   refine ⟨zjq D.nd,by simp,fun a ha b hb e=>?_⟩
   rw [List.mem_singleton.mp hb] at e
   exact (wR ha).2 e
  ·have q:=zdk (z:=z) (ts:=vs) (show zs.length=vs.length by omega)
   simp [q]
  ·exact (zjp (D.h.mono o').tr).append ⟨_,_,rfl,D.tx.mono o'.dk,rfl⟩
  ·intro k hk
   rcases List.mem_append.mp hk with q|q
   ·exact D.sh k (wR q).1
   ·rw [List.mem_singleton.mp q];exact D.shz
 ·rw [if_neg h60]
  exact ⟨_,s9,yv rfl (zA (neq rfl (by decide)) (zA (zU (zo rfl (zo (zk rfl) rfl (ix1 _ _ _)) (jb _ _))) (zA (zU rfl) (zA L (zA (zfz (zo (zk rfl) rfl (jU _ _ _)) (zk rfl) (zk rfl) dp) (yP (yX (zT (zo (zk rfl) rfl (by rw [zaF,decide_eq_true (by omega)]))) (ym (yl (zD rfl rfl) (by simp)))))))))),o',rfl⟩
end
structure RecW (w:Str) (args:PV->Str->PV->List PV) (of od:List Str->List Tr->Tr->Str->Str ⊕ Tr):Prop where
 new:∃k:Int,∀st,wK [.str w] st=.ok (.ref st.length) (st++[OpO w k])
 val:∀v z x st,y4 (.tup [v,.str z,x]) none (some (3-(if (decide (w = "field"))=true then 1 else 0))) st=.ok (.tup (args v z x)) st
 rest:∀v z x st,y4 (.tup (args v z x)) (some 1) none st=.ok (.tup ((args v z x).drop 1)) st
 cat:∀v v' z x st,zP (.tup [v']) (.tup ((args v z x).drop 1)) st=.ok (.tup (args v' z x)) st
 ask:∀st o k v zs us t x z,st[o]?=some (OpO w k)->TR st (.rec_ zs us) v->z.length<=1000->TR st t x->szs us<=60->sz t<=60->∃f s',yC [.ref o,.tup (args v z x)] st=.ok f s'/\Old st s'/\OcV s' (of zs us t z) f
 due:∀st kr l zs us vs t x z,DueA st kr l zs us vs t x z->∃d s',zaK [.str w,.ref kr,.ref l,.tup [x,.int (sz t:Nat)],.str z] st=.ok d s'/\Old st s'/\OcV s' (od zs us t z) d
 alk:∀a zs us t z f d,zs.length=us.length->zs.Nodup->OcV a (of zs us t z) f->OcV a (od zs us t z) d->yL 64 [f,d] a=.ok (.bl true) a
 told:∀zs us t z,w = "set" -> ∀u,of zs us t z=.inr u->sz u<=60/\∃ks ts,u=.rec_ ks ts
theorem zsS:RecW "field" (fun v z _=>[v,.str z]) (fun zs us _ z=>fdOc zs us z) (fun zs us _ z=>fdOc zs us z) where
 new:=⟨_,zfn.new⟩
 val v z x st:=rfl
 rest v z x st:=rfl
 cat v v' z x st:=rfl
 ask st o k v zs us t x z ho hv hz hx hs ht:=zsd ho hv hz (by omega)
 due st kr l zs us vs t x z D:=zsQ D
 alk a zs us t z f d hl nd hf hd:=zbL hf hd zsP
 told zs us t z h:=absurd h (by decide)
theorem zsT:RecW "set" (fun v z x=>[v,.str z,x]) (fun zs us t z=>chk (.rec_ (putK z zs) (putT z t zs us))) (fun zs us t z=>chk (.rec_ (flK z zs++[z]) (fl z zs us++[t]))) where
 new:=⟨_,ziY.new⟩
 val v z x st:=rfl
 rest v z x st:=rfl
 cat v v' z x st:=rfl
 ask st o k v zs us t x z ho hv hz hx hs ht:=zse ho hv hz hx hs (by omega)
 due st kr l zs us vs t x z D:=zsR D
 alk a zs us t z f d hl nd hf hd:=zsN hl nd hf hd
 told zs us t z h u hu:=by
  unfold chk at hu
  split at hu
  ·rename_i h60
   cases hu
   exact ⟨h60,_,_,rfl⟩
  ·cases hu
section
variable {st:Sto}{kr l:Nat}{zs:List Str}{us:List Tr}{vs:List PV}{z:Str}{env:zd}
theorem zfA (hk:st[kr]?=some (.lst (zs.map PV.str))) (h:HL st l us vs) (len:zs.length=us.length) (h2:env[2]?=some (some (.ref l))) (h3:env[3]?=some (some (.ref kr))) (h4:env[4]?=some (some (.str z))) :
  ∀(n i:Nat) (ys:List PV),i+n=us.length->compLI (mB (zg yV (zg zq (zc 4) (zc 0)) (zc 5))) (zg zq (zg zq (zc 3) (zc 0)) (mC (.int 1))) env ((List.range' i n).map fun k:Nat=>PV.int k) ys st=.ok (.ref st.length) (st++[.lst (ys++((fl z (zs.drop i) (us.drop i)).map fun t=>PV.int (sz t:Nat)))])
 | 0,i,ys,hi=>by
  have:us.drop i=[]:=List.drop_of_length_le (by omega)
  rw [this]
  have:fl z (zs.drop i) ([]:List Tr)=[]:=by cases zs.drop i<;>rfl
  rw [this]
  simp [compLI]
 | n+1,i,ys,hi=>by
  have hz:i<zs.length:=by omega
  have hu:i<us.length:=by omega
  rw [List.range'_succ,List.map_cons]
  have ek:=ix_str hk hz
  obtain ⟨v,ev,_⟩:=zah h hu
  have T:(mB (zg yV (zg zq (zc 4) (zc 0)) (zc 5))) (some (.int (i:Int))::env) st=.ok (!decide (zs[i]=z)) st :=
   zT (zo (zo (zk (by simpa using h3)) (zk rfl) ek) (zk (by simpa using h4)) (zea _ _))
  have E:(zg zq (zg zq (zc 3) (zc 0)) (mC (.int 1))) (some (.int (i:Int))::env) st=.ok (.int (sz us[i]:Nat)) st :=
   zo (zo (zk (by simpa using h2)) (zk rfl) ev) rfl (ix1 _ _ _)
  simp only [compLI]
  rw [T,zau,zJ,List.drop_eq_getElem_cons hz,List.drop_eq_getElem_cons hu]
  simp only [fl]
  by_cases hzi:zs[i]=z
  ·rw [decide_eq_true hzi,if_neg (by simp),if_pos hzi]
   exact zfA hk h len h2 h3 h4 n (i+1) ys (by omega)
  ·rw [decide_eq_false hzi,if_pos (by simp),if_neg hzi,E,zau,zJ]
   have ih:=zfA hk h len h2 h3 h4 n (i+1) (ys++[.int ((sz us[i]:Nat):Int)]) (by omega)
   rw [List.append_assoc] at ih
   exact ih
theorem zsU (hk:st[kr]?=some (.lst (zs.map PV.str))) (h:HL st l us vs) (len:zs.length=us.length) (hl:us.length<=1000) (h2:env[2]?=some (some (.ref l))) (h3:env[3]?=some (some (.ref kr))) (h4:env[4]?=some (some (.str z))) :
  ∃d,zl jI (ze (zbh (iRng1 (ze (zl zS (ze (zc 2) zj)) zj)) (mB (zg yV (zg zq (zc 4) (zc 0)) (zc 5))) (zg zq (zg zq (zc 3) (zc 0)) (mC (.int 1)))) zj) env st=.ok (.int (szs (fl z zs us):Nat)) (st++[d]):=by
 have c:=zfA hk h len h2 h3 h4 us.length 0 [] (by omega)
 rw [List.drop_zero,List.drop_zero,List.nil_append] at c
 refine ⟨.lst ((fl z zs us).map fun t=>PV.int (sz t:Nat)),zC (ya (x:=.ref st.length) (s1:=st++[.lst ((fl z zs us).map fun t=>PV.int (sz t:Nat))]) ?_) ?_⟩
 ·rw [zpz,w6,ya (zC (ya (zk h2)) (jK h)),zJ,zbC us.length st hl,zJ]
  show (if _ then _ else _)=_
  rw [if_pos (by simp [lim];omega)]
  exact c
 ·have im:=zft ((fl z zs us).map fun t=>(sz t:Int))
  have ss:=zfu (fl z zs us)
  rw [List.map_map] at im
  simp only [zhq,zhp,zg0,zJ]
  have im':intsP ((fl z zs us).map fun t=>PV.int (sz t:Nat))=some ((fl z zs us).map fun t=>(sz t:Int)):=im
  rw [im']
  simp only [ss]
end
theorem zjB {z:Str}:∀(ks:List Str) (ts:List Tr),szs (fl z ks ts)<=szs ts
 | [],ts=>by simp [fl,szs]
 | _::_,[]=>by simp [fl,szs]
 | k::ks,t::ts=>by
  have:=zjB (z:=z) ks ts
  simp only [fl]
  split<;>simp only [szs]<;>omega
theorem zsV (c:Int) (m j:Nat) (h:j<m):(kys c m)[j]?=some (kyF c j):=by
 unfold kys
 rw [List.getElem?_map,List.getElem?_range h];rfl
theorem zjC {st:Sto}{n:Nat}{zs:List Str}(h:st[n]?=some (.lst (zs.map PV.str))):∃s1,y4 (.ref n) (some 1) none st=.ok (.ref st.length) s1/\Old st s1/\s1[st.length]?=some (.lst ((zs.drop 1).map PV.str)):=by
 refine ⟨st++[.lst ((zs.drop 1).map PV.str)],?_,zZ _ _,yu _ _⟩
 rw [zbd,yj h,show cutP (zs.map PV.str) (some 1) none=(zs.map PV.str).drop 1 from zfw _ 1,<-List.map_drop]
theorem zjD {st s1:Sto}{l:Nat}{ts:List Tr}{vs:List PV}{env:zd}{fa:zd->Mo PV}(hf:fa env st=.ok (.ref l) s1) (h:HL s1 l ts vs) (hl:ts.length<=1000):yr (yF fa) (zg zq (zc 0) (mC (.int 0))) env st=.ok (.ref s1.length) (s1++[.lst vs]):=by
 have c:=zaM (env:=[some (.ref l)]) (i:=0) h hl rfl
 have e17:=zcv (fe:=zg zq (zc 0) (mC (.int 0))) (env:=env) (f:=fst) h.at_ (fun x hx=>by
  obtain ⟨v,n,rfl⟩:=zbG hx
  simp [yO,fst]) (prs ts vs).length 0 (lim+1) [] (by omega) (Nat.zero_le _) (by rw [jJ h.tr.len];show _<1000001;omega)
 rw [List.drop_zero,zde h.tr.len,List.nil_append] at e17
 rw [zbc,zcm,hf,zJ]
 show (ye s1 l _).bind _=_
 rw [yj h.at_]
 exact e17
theorem zfB {st:Sto}{r m j:Nat}{c:Int}(h:st[r]?=some (.lst ((kys c m).map PV.str))) (hj:j<m):zq (.ref r) (.int (j:Int)) st=.ok (.str (kyF c j)) st:=by
 have q:=zsV c m j hj
 rw [List.getElem?_eq_getElem (by rw [zdg];exact hj)] at q
 rw [ix_str h (i:=j) (by rw [zdg];exact hj),Option.some.inj q]
section
variable {ns:List Int}{w:Str}{l kr:Nat}{us:List Tr}{vs:List PV}{st:Sto}{c:Int}{z:Str}
abbrev zsW:zd->Mo Fl:=(zN (jd (mB (zg yh (zg zR (zg yf (zl yt (ze (zc 0) (ze (mC (.int 3)) zj))) (mC (.int 9))) (mC (.int 2))) (mC (.int 1)))) (mB (zg wV (zl zS (ze (zc 2) zj)) (mC (.int 0)))))
  (zx 4 (zg zq (zc 3) (zg zR (zg yf (zl yt (ze (zc 0) (ze (mC (.int 3)) zj))) (mC (.int 18))) (zl zS (ze (zc 2) zj)))))
  zQ)
theorem zsX (h:HL st l us vs) (hk:st[kr]?=some (.lst ((kys c us.length).map PV.str))) (z:Str) (hz:∃j,j<9/\z=kyF c j) (hu:us.length<=6) (r:List (Option PV)) :
  ∃z' s',(∃j,j<9/\z'=kyF c j)/\Old st s'/\zsW (some (scr ns)::some (.str w)::some (.ref l)::some (.ref kr)::some (.str z)::r) st=.ok (.nx (some (scr ns)::some (.str w)::some (.ref l)::some (.ref kr)::some (.str z')::r)) s':=by
 obtain ⟨s1,e1,o1⟩:=y3 ns 3 (by omega) st
 have ln1:=jK (h.mono o1)
 by_cases h1:yc (z0 (cl ns 3) 9) 2=1
 ·by_cases h0:us.length=0
  ·exact ⟨z,s1,hz,o1,yB (j6 (zT (zo (zo (zo (zC (zD (zk rfl) rfl) e1) rfl (yZ _ _ (by decide) (by decide))) rfl (yY _ _ (by decide))) rfl (by rw [zd9,decide_eq_true h1]))) (zT (zo (zC (ya (zk rfl)) ln1) rfl (by rw [zaF,decide_eq_false (by omega)]))))⟩
  ·obtain ⟨s2,e2,o2⟩:=y3 ns 3 (by omega) s1
   obtain ⟨j,hj,ej⟩:=modNat (z0 (cl ns 3) 18) us.length (by omega)
   have ln2:=jK (h.mono (o1.trans o2))
   have hk2:=(o1.trans o2) _ _ hk
   have g:=zfB hk2 hj
   exact ⟨kyF c j,s2,⟨j,by omega,rfl⟩,o1.trans o2,yX (j6 (zT (zo (zo (zo (zC (zD (zk rfl) rfl) e1) rfl (yZ _ _ (by decide) (by decide))) rfl (yY _ _ (by decide))) rfl (by rw [zd9,decide_eq_true h1]))) (zT (zo (zC (ya (zk rfl)) ln1) rfl (by rw [zaF,decide_eq_true (by omega)])))) (zU (zo (zk rfl) (zo (zo (zC (zD (zk rfl) rfl) e2) rfl (yZ _ _ (by decide) (by decide))) (zC (ya (zk rfl)) ln2) (jT _ _ j (by omega) ej s2)) g))⟩
 ·exact ⟨z,s1,hz,o1,yB (zaE (zT (zo (zo (zo (zC (zD (zk rfl) rfl) e1) rfl (yZ _ _ (by decide) (by decide))) rfl (yY _ _ (by decide))) rfl (by rw [zd9,decide_eq_false h1]))))⟩
end
abbrev zsY:zd->Mo Fl:=(zN (jd (mB (zg yh (zc 1) (mC (.str "set")))) (mB (zg yh (zg zq (zc 10) (mC (.int 0))) (mC (.str "told")))))
  (yR (zl yC (ze (zc 9) (ze (yb (ze (zg zq (zc 10) (mC (.int 1))) (ze (zg zq (zl jS (ze (zl yt (ze (zc 0) (ze (mC (.int 4)) zj))) (ze (mC (.int 10)) zj))) (mC (.int 9))) (ze (mC (.int 1)) zj)))) zj))))
  zQ)
theorem zsZ {ns:List Int} {args:PV->Str->PV->List PV} {of od:List Str->List Tr->Tr->Str->Str ⊕ Tr} {w:Str} (W:RecW w args of od) (hw:w = "set" -> ∀v z x,args v z x=[v,.str z,x]) {st:Sto} {o:Nat} {k:Int} {zs:List Str} {us:List Tr} {t:Tr} {z:Str} {f:PV} (ho:st[o]?=some (OpO w k)) (hf:OcV st (of zs us t z) f) (e:zd) (e0:e[0]?=some (some (scr ns))) (e1:e[1]?=some (some (.str w))) (e9:e[9]?=some (some (.ref o))) (e10:e[10]?=some (some f)):∃s',Old st s'/\zsY e st=.ok (.nx e) s':=by
 by_cases hs:w = "set"
 ·cases hoc:of zs us t z with
  | inl y =>
   rw [hoc] at hf
   cases hf
   exact ⟨st,Old.refl _,yB (j6 (zT (zo (zk e1) rfl (by rw [jo,decide_eq_true hs]))) (zT (zo (zo (zk e10) rfl (jU _ _ _)) rfl (by rw [jo];rfl))))⟩
  | inr u =>
   obtain ⟨h60,ks,ts,rfl⟩:=W.told _ _ _ _ hs _ hoc
   rw [hoc] at hf
   obtain ⟨v,rfl,tv⟩:=hf
   obtain ⟨s1,c1,o1⟩:=y3 ns 4 (by omega) st
   obtain ⟨r,s2,c2,o2,hr⟩:=zdh (cl ns 4) 10 (by omega) s1
   have hsh:=(zbJ (cl ns 4)).2.1 9
   simp only [sz] at h60
   obtain ⟨g,s3,c3,o3,_⟩:=W.ask s2 o k v ks ts (.num 1) (.int 1) (kyF (cl ns 4) 9) ((o1.trans o2) _ _ ho) (tv.mono (o1.trans o2).dk) hsh rfl (by omega) (by simp [sz])
   rw [hw hs] at c3
   exact ⟨s3,o1.trans (o2.trans o3),yX (j6 (zT (zo (zk e1) rfl (by rw [jo,decide_eq_true hs]))) (zT (zo (zo (zk e10) rfl (jU _ _ _)) rfl (by rw [jo];rfl)))) (zd8 (zC (zD (zk e9) (yl (yz (zo (zk e10) rfl (ix1 _ _ _)) (zD (zo (zC (zD (zC (zD (zk e0) rfl) c1) rfl) c2) rfl (zfB hr (j:=9) (by omega))) rfl)) (by simp))) c3))⟩
 ·exact ⟨st,Old.refl _,yB (zaE (zT (zo (zk e1) rfl (by rw [jo,decide_eq_false hs]))))⟩
theorem zs0 (ns:List Int) {w:Str} {args:PV->Str->PV->List PV} {of od:List Str->List Tr->Tr->Str->Str ⊕ Tr} (W:RecW w args of od) (hw:w = "set" -> ∀v z x,args v z x=[v,.str z,x]) (st:Sto):∃s',zff [scr ns,.str w] st=.ok (.bl true) s':=by
 obtain ⟨us,hz,hl,h3⟩:=zjh ns
 have tl:=y0 us
 obtain ⟨c,hc⟩:∃c,c=cl ns 4:=⟨_,rfl⟩
 obtain ⟨zs,hzs⟩:∃zs,zs=kys c us.length:=⟨_,rfl⟩
 have zlen:zs.length=us.length:=by rw [hzs,zdg]
 have znd:zs.Nodup:=by rw [hzs];exact zja _ _ (by omega)
 have zsh:∀k∈zs,k.length<=1000:=by rw [hzs];exact zjb _ _
 obtain ⟨l,vs,s1,e1,o1,H1⟩:=h3 st
 obtain ⟨s2,e2,o2⟩:=y3 ns 4 (by omega) s1
 have ln2:=jK (H1.mono o2)
 rw [<-hc] at e2
 obtain ⟨kr,s3,e3,o3,K3⟩:=zdh c us.length (by omega) s2
 obtain ⟨s4,e4,o4⟩:=y3 ns 4 (by omega) s3
 rw [<-hc] at e4
 obtain ⟨r9,s5,e5,o5,K5⟩:=zdh c 9 (by omega) s4
 obtain ⟨s6,e6,o6⟩:=y3 ns 3 (by omega) s5
 obtain ⟨j,hj,ej⟩:=modNat (cl ns 3) 9 (by omega)
 have ix9:=zfB (o6 _ _ K5) hj
 have H6:=H1.mono (o2.trans (o3.trans (o4.trans (o5.trans o6))))
 have K6:=(o4.trans (o5.trans o6)) _ _ K3
 obtain ⟨z,s7,⟨jz,hjz,ez⟩,o7,A7⟩:=zsX (ns:=ns) (w:=w) H6 K6 (kyF c j) ⟨j,hj,rfl⟩ hl [none,none,none,none,none,none,none,none,none]
 have zshort:z.length<=1000:=by rw [ez];exact (zbJ c).2.1 jz
 rw [<-hzs] at K6
 have H7:=H6.mono o7
 have K7:=o7 _ _ K6
 obtain ⟨d,e8⟩:=zsU (z:=z) (env:=[some (scr ns),some (.str w),some (.ref l),some (.ref kr),some (.str z),none,none,none,none,none,none,none,none,none]) K7 H7 zlen (by omega) rfl rfl rfl
 have o8:Old s7 (s7++[d]):=zZ _ _
 generalize s7++[d]=s8 at e8 o8
 have fle:=zjB (z:=z) zs us
 obtain ⟨t,ht60,hE⟩:=zji ns (1+(szs (fl z zs us):Nat)) (by omega) (by omega)
 obtain ⟨x,s9,e9,o9,tx⟩:=hE s8
 have H9:=H7.mono (o8.trans o9)
 have K9:=(o8.trans o9) _ _ K7
 have e10:=zaM (env:=[some (scr ns),some (.str w),some (.ref l),some (.ref kr),some (.str z),some (.tup [x,.int (sz t:Nat)]),none,none,none,none,none,none,none,none]) (i:=2) H9 (by omega) rfl
 have jy:=yu s9 (.lst vs)
 have o10:Old s9 (s9++[.lst vs]):=zZ _ _
 generalize s9++[.lst vs]=s10 at e10 o10 jy
 generalize s9.length=r10 at e10 jy
 obtain ⟨v,s11,e11,o11,tv⟩:=zdf (o10 _ _ K9) jy (H9.mono o10).tr znd zsh zlen (by omega)
 have H11:=H9.mono (o10.trans o11)
 have K11:=(o10.trans o11) _ _ K9
 have tx11:=tx.mono (o10.trans o11).dk
 have D:∀s,Old s11 s->DueA s kr l zs us vs t x z:=fun s o=>⟨o _ _ K11,H11.mono o,zlen,znd,zsh,zshort,tx11.mono o.dk,by omega,ht60⟩
 obtain ⟨dd,s12,e12,o12,od1⟩:=W.due s11 kr l zs us vs t x z (D s11 (Old.refl _))
 obtain ⟨k,hnew⟩:=W.new
 have e13:=hnew s12
 have wO:=yu s12 (OpO w k)
 have o13:Old s12 (s12++[OpO w k]):=zZ _ _
 generalize s12++[OpO w k]=s13 at e13 o13 wO
 generalize s12.length=o at e13 wO
 have o1113:=o12.trans o13
 obtain ⟨f,s14,e14,o14,of1⟩:=W.ask s13 o k v zs us t x z wO (tv.mono o1113.dk) zshort (tx11.mono o1113.dk) (by omega) ht60
 have o1114:=o1113.trans o14
 obtain ⟨s15,e15,o15,K15⟩:=zjC (o1114 _ _ K11)
 obtain ⟨s16,e16,o16,H16⟩:=zaO (H11.mono (o1114.trans o15)) 1
 have e17:=zjD (env:=[some (scr ns),some (.str w),some (.ref l),some (.ref kr),some (.str z),some (.tup [x,.int (sz t:Nat)]),some v,some (.tup (args v z x)),some dd,some (.ref o),some f,none,none,none]) (fa:=yo (zc 2) (pSome (mC (.int 1))) pNone) (jk (zk rfl) (jm rfl) jn e16) H16 (by simp;omega)
 have wP:=yu s16 (.lst (vs.drop 1))
 have o17:Old s16 (s16++[.lst (vs.drop 1)]):=zZ _ _
 generalize s16++[.lst (vs.drop 1)]=s17 at e17 o17 wP
 generalize s16.length=r17 at e17 wP
 have hd1:=zbK us 1
 have znd1:(zs.drop 1).Nodup:=List.Nodup.sublist (List.drop_sublist 1 zs) znd
 have zsh1:∀k∈zs.drop 1,k.length<=1000:=fun k hk=>zsh k (List.mem_of_mem_drop hk)
 obtain ⟨v',s18,e18,o18,tv'⟩:=zdf ((o16.trans o17) _ _ K15) wP (H16.mono o17).tr znd1 zsh1 (by simp;omega) (by simp;omega)
 have o1118:=o1114.trans (o15.trans (o16.trans (o17.trans o18)))
 have o1318:Old s13 s18:=o14.trans (o15.trans (o16.trans (o17.trans o18)))
 obtain ⟨g,s19,e19,o19,og⟩:=W.ask s18 o k v' (zs.drop 1) (us.drop 1) t x z (o1318 _ _ wO) tv' zshort (tx11.mono o1118.dk) (by omega) ht60
 have o1119:=o1118.trans o19
 obtain ⟨s20,e20,o20,K20⟩:=zjC (o1119 _ _ K11)
 obtain ⟨s21,e21,o21,H21⟩:=zaO (H11.mono (o1119.trans o20)) 1
 have o1121:=o1119.trans (o20.trans o21)
 obtain ⟨dg,s22,e22,o22,odg⟩:=W.due s21 s19.length s20.length (zs.drop 1) (us.drop 1) (vs.drop 1) t x z ⟨o21 _ _ K20,H21,by simp;omega,znd1,zsh1,zshort,tx11.mono o1121.dk,by omega,ht60⟩
 have al1:=W.alk s22 _ _ t z g dg (by simp;omega) znd1 (og.mono (o20.trans (o21.trans o22))) odg
 have o1322:Old s13 s22:=o1318.trans (o19.trans (o20.trans (o21.trans o22)))
 have o1422:Old s14 s22:=o15.trans (o16.trans (o17.trans (o18.trans (o19.trans (o20.trans (o21.trans o22))))))
 obtain ⟨s23,o23,A23⟩:=zsZ (ns:=ns) W hw (o1322 _ _ wO) (of1.mono o1422) [some (scr ns),some (.str w),some (.ref l),some (.ref kr),some (.str z),some (.tup [x,.int (sz t:Nat)]),some v,some (.tup (args v z x)),some dd,some (.ref o),some f,some g,none,none] rfl rfl rfl rfl
 have o1123:Old s11 s23:=o1121.trans (o22.trans o23)
 obtain ⟨f2,s24,e24,o24,of2⟩:=W.ask s23 o k v zs us t x z ((o1322.trans o23) _ _ wO) (tv.mono o1123.dk) zshort (tx11.mono o1123.dk) (by omega) ht60
 obtain ⟨l2,vs2,s25,e25,o25,H25⟩:=h3 s24
 have e26:=zjD (env:=[some (scr ns),some (.str w),some (.ref l),some (.ref kr),some (.str z),some (.tup [x,.int (sz t:Nat)]),some v,some (.tup (args v z x)),some dd,some (.ref o),some f,some g,some f2,none]) (fa:=zl wJ (ze (zc 0) zj)) (zC (ya (zk rfl)) e25) H25 (by omega)
 have t26:=yu s25 (.lst vs2)
 have o26:Old s25 (s25++[.lst vs2]):=zZ _ _
 generalize s25++[.lst vs2]=s26 at e26 o26 t26
 generalize s25.length=r26 at e26 t26
 have o1126:Old s11 s26:=o1123.trans (o24.trans (o25.trans o26))
 obtain ⟨v2,s27,e27,o27,tv2⟩:=zdf (o1126 _ _ K11) t26 (H25.mono o26).tr znd zsh zlen (by omega)
 have oF:Old s14 s27:=o1422.trans (o23.trans (o24.trans (o25.trans (o26.trans o27))))
 have al2:=W.alk s27 _ _ t z f dd zlen znd (of1.mono oF) (od1.mono (o13.trans (o14.trans oF)))
 have al3:=W.alk s27 _ _ t z f2 dd zlen znd (of2.mono (o25.trans (o26.trans o27))) (od1.mono (o13.trans (o14.trans oF)))
 have al4:yL 64 [v,v2] s27=.ok (.bl true) s27:=by
  have h2:=dps_szs us
  exact zaL 64 (.rec_ zs us) _ _ [] s27 (by simp only [dp];omega) (by simp only [sz];omega) (Fz.refl _) (fun _ h=>by cases h) (tv.mono (o1126.trans o27).dk) tv2
 exact ⟨s27,yv rfl (zA (zU (zC (ya (zk rfl)) e1)) (zA (zU (zC (zD (zC (zD (zk rfl) rfl) e2) (zC (ya (zk rfl)) ln2)) e3)) (zA (zU (zo (zC (zD (zC (zD (zk rfl) rfl) e4) rfl) e5) (zo (zC (zD (zk rfl) rfl) e6) rfl (jT _ 9 j (by omega) ej s6)) ix9)) (zA A7 (zA (zU (zC (zD (zk rfl) (zo rfl e8 (jb _ _))) e9)) (zA (zU (zC (zD (zk rfl) e10) e11)) (zA (zU (jk (yl (yz (zk rfl) (zD (zk rfl) (zo (zk rfl) rfl (jU _ _ _)))) (by simp)) jn (jm (zo rfl (zC (ya (zo (zk rfl) rfl (jo _ _))) (zog ..)) (j7 _ _))) (W.val v z x _))) (zA (zU (zC (yz (zk rfl) (yz (zk rfl) (yz (zk rfl) (zD (zk rfl) (zk rfl))))) e12)) (zA (zU (zC (ya (zk rfl)) e13)) (zA (zU (zC (zD (zk rfl) (zk rfl)) e14)) (zA (zU (zC (zD (zk rfl) (zo (yl (ya (zC (zD (jk (zk rfl) (jm rfl) jn e15) e17) e18)) (by simp)) (jk (zk rfl) (jm rfl) jn (W.rest v z x _)) (W.cat v v' z x _))) e19)) (zA (yB (zcG (b:=true) (zT (zC (zD (zk rfl) (zC (yz (zk rfl) (yz (jk (zk rfl) (jm rfl) jn e20) (yz (jk (zk rfl) (jm rfl) jn e21) (zD (zk rfl) (zk rfl))))) e22)) al1)))) (zA A23 (zA (zU (zC (zD (zk rfl) (zk rfl)) e24)) (zA (zU (zC (zD (zk rfl) e26) e27)) (ym (zcH (zC (zD (zk rfl) (zk rfl)) al2) (zcH (zC (zD (zk rfl) (zk rfl)) al3) (zC (zD (zk rfl) (zk rfl)) al4)))))))))))))))))))⟩
theorem zs1 (ns:List Int):∃st,zbz [.frl (ns.map .int)] []=.ok (.bl true) st:=by
 obtain ⟨s1,e1,o1⟩:=y3 ns 0 (by omega) []
 obtain ⟨j,hj,ej⟩:=modNat (cl ns 0) 10 (by omega)
 obtain ⟨L,hL⟩:∃L:List Str,L=(["front", "head", "rest", "many", "item", "put", "put", "front", "field", "set"]:List Str):=⟨_,rfl⟩
 have K:∀(w:Str) (X:PV×Sto),L[j]?=some w->ziG [some (scr ns),some (.int (j:Int)),some (.str w)] (s1++[.lst (L.map PV.str)])=.ok (.rt X.1) X.2->zbz [scr ns] []=.ok X.1 X.2:=fun w X hw hX=>by
  refine yv rfl (zA (zU (zo (zC (zD (zk rfl) rfl) e1) rfl (jT _ 10 j (by omega) ej s1))) (zA (zU (zo (wq (zoG _) (by decide)) (zk rfl) ?_)) hX))
  rw [<-hL,zbb,yj (yu _ _),atI_get (by rw [List.getElem?_map,hw];rfl),w5]
 have rows:∀(w:Str) {args:List PV->PV->Int->List PV} {oc:List Tr->Tr->Int->Str ⊕ Tr},j<8->L[j]?=some w->RowW w args oc->∃st,zbz [scr ns] []=.ok (.bl true) st:=fun w args oc h8 hw W=>by
  obtain ⟨s',e⟩:=zsK ns W (s1++[.lst (L.map PV.str)])
  exact ⟨s',K w (_,s') hw (yP (yX (zT (b:=true) (zo (zk rfl) rfl (by rw [zcI,decide_eq_true (by omega)]))) (ym (zC (zD (zk rfl) (zk rfl)) e))))⟩
 have recs:∀(w:Str) {args:PV->Str->PV->List PV} {of od:List Str->List Tr->Tr->Str->Str ⊕ Tr},¬j<8->L[j]?=some w->RecW w args of od->(w = "set" -> ∀v z x,args v z x=[v,.str z,x])->∃st,zbz [scr ns] []=.ok (.bl true) st:=fun w args of od h8 hw W hs=>by
  obtain ⟨s',e⟩:=zs0 ns W hs (s1++[.lst (L.map PV.str)])
  exact ⟨s',K w (_,s') hw (zA (yB (zT (b:=false) (zo (zk rfl) rfl (by rw [zcI,decide_eq_false (by omega)])))) (ym (zC (zD (zk rfl) (zk rfl)) e)))⟩
 subst hL
 match j,hj,@rows,@recs with
 | 0,_,rows,recs=>exact rows _ (by decide) rfl zjn
 | 1,_,rows,recs=>exact rows _ (by decide) rfl zsF
 | 2,_,rows,recs=>exact rows _ (by decide) rfl zsG
 | 3,_,rows,recs=>exact rows _ (by decide) rfl zsC
 | 4,_,rows,recs=>exact rows _ (by decide) rfl zsH
 | 5,_,rows,recs=>exact rows _ (by decide) rfl zjo
 | 6,_,rows,recs=>exact rows _ (by decide) rfl zjo
 | 7,_,rows,recs=>exact rows _ (by decide) rfl zjn
 | 8,_,rows,recs=>exact recs _ (by decide) rfl zsS (fun h=>absurd h (by decide))
 | 9,_,rows,recs=>exact recs _ (by decide) rfl zsT (fun _ _ _ _=>rfl)
end FK14
open PySem PySem.W PyProof.Rows
set_option maxHeartbeats 0
namespace PySem.W.Fast
def tw5422459024162873376:=()
def tw4543357335744763008:=()
def tw3763064767782465696:=()
def tw1937588757997542592:=()
def tw6090367890817826016:=()
def tw11145361131737779456:=()
def tw11580330514469120320:=()
def tw3979812842892386656:=()
def tw18343924297542965632:=()
def tw7156950394831539616:=()
def tw1031957679374639520:=()
def tw7449875054043605440:=()
def tw12893780005389805120:=()
def tw10274909012663377600:=()
def tw1844370016969825984:=()
def tw4903613260370815680:=()
def tw5165233262021056224:=()
def tw17030034787315318528:=()
def tw8453278198843344704:=()
def tw11425114182643207008:=()
def tw15443810872348336225:=()
def tw2059070008920900737:=()
def tw7148934985206993025:=()
def tw6101320959039674657:=()
def tw7450078728642109825:=()
def tw5363099244638618081:=()
def tw15009497898603434561:=()
def tw8230444157320288929:=()
def tw14594129718489937665:=()
def tw6374413764064010017:=()
def tw13131462262126634785:=()
def tw74663948371277633:=()
def tw10099695638841385889:=()
def tw10768446424828314561:=()
def tw5885766200903748545:=()
def tw14224772883799350241:=()
def tw16886350617538965506:=()
def tw3163217807179857922:=()
def tw3755915419497628706:=()
def tw4155370403949194338:=()
def tw5017884899072020610:=()
def tw14664442570611243266:=()
def tw17609847453510679042:=()
def tw7891871970215977698:=()
def tw5920597244747024162:=()
def tw9449106256036401986:=()
def tw8281039398285180770:=()
def tw1857879809359058850:=()
def tw14349830206145515779:=()
def tw8835452333821780259:=()
def tw11833997865787860387:=()
def tw5432874834905171395:=()
def tw15308806405571087811:=()
def tw3750028083350574531:=()
def tw12723709163734258179:=()
def tw3794317355570679459:=()
def tw11830476356166562531:=()
def tw10301200563340957411:=()
def tw9274933556345298723:=()
def tw9770887571987260259:=()
def tw11640217937080530819:=()
def tw11865053331515865987:=()
def tw7009740581462092868:=()
def tw890660297901460548:=()
def tw18188969029471768740:=()
def tw1944263907650676004:=()
def tw15651031862379361636:=()
def tw1432058875082836356:=()
def tw16460977569284743556:=()
def tw12278179424242486916:=()
def tw13711312134945991332:=()
def tw68637367299847876:=()
def tw9037024423309567684:=()
def tw2473860055375291140:=()
def tw10416862441068760165:=()
def tw2964491474191921285:=()
def tw12170436461423303845:=()
def tw1711716937562295493:=()
def tw9749006905721904325:=()
def tw9306920259015581061:=()
def tw3542173008339136933:=()
def tw5029665332173436357:=()
def tw10940319405948478949:=()
def tw7072719223745375717:=()
def tw7957985699441254085:=()
def tw7983007090494275301:=()
def tw588394099400301445:=()
def tw13050159067113572293:=()
def tw17061141170447380518:=()
def tw1896567366858444966:=()
def tw5218377233734759750:=()
def tw14816297726982580582:=()
def tw2223482398833415558:=()
def tw6862730295532410278:=()
def tw1589775094827678118:=()
def tw4945455619775401414:=()
def tw10755459767760302534:=()
def tw6476914457254133222:=()
def tw9890745274697342470:=()
def tw793386678933960262:=()
def tw13520642288541536966:=()
def tw11047492762340823750:=()
def tw17355523458351426278:=()
def tw4010461026702366566:=()
def tw5755440277297719174:=()
def tw13954613356136847302:=()
def tw2486203689027660871:=()
def tw14218720794276908135:=()
def tw12244908846169985351:=()
def tw14331986546932970855:=()
def tw8631119922075221703:=()
def tw16243691220564914023:=()
def tw17523357860535001959:=()
def tw8623702553552382919:=()
def tw18396002191304646664:=()
def tw12824225608724752424:=()
def tw16217775412105195560:=()
def tw558746005296412744:=()
def tw1132752003266019432:=()
def tw2810259913452938344:=()
def tw7148842861097315432:=()
def tw13166208584252299432:=()
def tw8495702330051731656:=()
def tw17745157685613742280:=()
def tw13997651772945361224:=()
def tw5419097350403292488:=()
def tw15347851337620323656:=()
def tw2497158778231768424:=()
def tw2625461754278809032:=()
def tw12419193261846059464:=()
def tw10958325981212500424:=()
def tw15858704347928230504:=()
def tw13435102599857380008:=()
def tw17636100177212503752:=()
def tw2791057311062819624:=()
def tw16885267941978153768:=()
def tw12077907180048599944:=()
def tw14645263427044794248:=()
def tw4936086006854156168:=()
def tw796050816773925864:=()
def tw12874141840109704233:=()
def tw12385669370956705865:=()
def tw4573085165934192841:=()
def tw11337939571669174537:=()
def tw11425248627073359113:=()
def tw12492198019759442377:=()
def tw1974420287372357129:=()
def tw6275630068390996585:=()
def tw1053313995919358601:=()
def tw4325926841318596265:=()
def tw17854623829406093001:=()
def tw4007469846208657097:=()
def tw11338288334836614889:=()
def tw5457915222827854633:=()
def tw4036461531281375081:=()
def tw15063816746116984713:=()
def tw10511018123266534345:=()
def tw4100007938799771754:=()
def tw9910475135884381290:=()
def tw11912099469482512586:=()
def tw16982734899456252298:=()
def tw2618685949271333354:=()
def tw4478654787941486154:=()
def tw14085569025281659562:=()
def tw104235418117889834:=()
def tw9733568294967660362:=()
def tw9304971058105865034:=()
def tw6948523838610923338:=()
def tw14344803227425698762:=()
def tw3280069390304979946:=()
def tw11854672462478225419:=()
def tw14756705942111597675:=()
def tw7579007895083926635:=()
def tw9485320362202397867:=()
def tw3105332416013755723:=()
def tw4039190097506466283:=()
def tw10889120481242820107:=()
def tw2097295425164946955:=()
def tw4496640854220107339:=()
def tw11392721782429675115:=()
def tw14479423038600503115:=()
def tw4090976627024491339:=()
def tw16425426045135424363:=()
def tw12662572187164664811:=()
def tw7974699964164385900:=()
def tw440782769964673260:=()
def tw16471387159689902444:=()
def tw2685113377615147372:=()
def tw8363115841319806668:=()
def tw3164860371053973356:=()
def tw4226848260258358124:=()
def tw5391572554334823308:=()
def tw12206921882397058988:=()
def tw11041927614218069037:=()
def tw10671786478918687917:=()
def tw3042307057773919469:=()
def tw2370766593442583821:=()
def tw16797315380603002157:=()
def tw13379470960043698477:=()
def tw15207807936149387565:=()
def tw7229622334968471949:=()
def tw4063573881387404685:=()
def tw7326280575537574285:=()
def tw16461020862680864173:=()
def tw14747563710385062381:=()
def tw17086903839395096045:=()
def tw14147686684331691533:=()
def tw10359059405588292173:=()
def tw4352668670278431373:=()
def tw15745447435639870349:=()
def tw1612442727989361613:=()
def tw15494438674416117774:=()
def tw2918202248286901454:=()
def tw15233841040833794350:=()
def tw17174843663265229166:=()
def tw2022711126442162606:=()
def tw6555143838719401422:=()
def tw4367557229581232622:=()
def tw664244091082734062:=()
def tw4162726254090068622:=()
def tw7736739695222416078:=()
def tw98068145813812014:=()
def tw10507443364458133294:=()
def tw9085145740428716910:=()
def tw1312446085913801646:=()
def tw8189578056743136238:=()
def tw17900084902259600399:=()
def tw3505861326113034351:=()
def tw3098963735914918031:=()
def tw8454741837468549263:=()
def tw13937647197628463343:=()
def tw15078775193499501839:=()
def tw12644464911596689743:=()
def tw17689317819290036623:=()
def tw8786036253874965903:=()
def tw12804198508965487023:=()
def tw14645385915613015631:=()
def tw6490091699469319951:=()
def tw2091484839091745615:=()
def tw10542286040425421647:=()
def tw8194776649183911759:=()
def tw3089962467943793519:=()
def tw9491931449441620879:=()
def tw1577010847474450319:=()
def tw9072106039034801168:=()
def tw18400874811627184240:=()
def tw3217158089760969968:=()
def tw10568925039722997136:=()
def tw1174662520086510992:=()
def tw1647475980172131728:=()
def tw6987496393814749648:=()
def tw9518707652791874032:=()
def tw6497083409103311440:=()
def tw14517492410455308912:=()
def tw14406561785035852464:=()
def tw12393423190094860080:=()
def tw5090833687433808752:=()
def tw1847674096497333104:=()
def tw14617196519517778832:=()
def tw17133233376583831472:=()
def tw8524310512081336240:=()
def tw4755322035185626064:=()
def tw2332265283783468081:=()
def tw11212509683747803217:=()
def tw5775053703004775537:=()
def tw1586814386432065681:=()
def tw4079848406252760273:=()
def tw18236455360591461585:=()
def tw4522465980720557361:=()
def tw10365631065426583857:=()
def tw12345417779103459665:=()
def tw15181789389910223249:=()
def tw4682253471321590193:=()
def tw13005954146370661841:=()
def tw2729418844554048977:=()
def tw7843091463279191601:=()
def tw3706857856364341905:=()
def tw5220255134087640721:=()
def tw14465915897235975889:=()
def tw15883186764753521585:=()
def tw6230876638106146769:=()
def tw725167644113893329:=()
def tw18072588307805510706:=()
def tw6994615742954226898:=()
def tw13373161644567389554:=()
def tw10938539020755662226:=()
def tw18024478144130456210:=()
def tw4062197796661472914:=()
def tw303780793035643634:=()
def tw8846255094883945394:=()
def tw14712850086400744402:=()
def tw13515416901310548978:=()
def tw6482193909863024755:=()
def tw16127422392203786355:=()
def tw15684019346836118803:=()
def tw11617310392261798163:=()
def tw18122738669389878579:=()
def tw17628367871454634643:=()
def tw9833806813208670003:=()
def tw1046776669731703635:=()
def tw1482537961589120947:=()
def tw14297555905818320851:=()
def tw6866134895078950899:=()
def tw14325237694715702356:=()
def tw16348357270970813556:=()
def tw1329825861112079508:=()
def tw8608575186652088756:=()
def tw17097221767594397236:=()
def tw15750936597440050772:=()
def tw5595023905871058548:=()
def tw8126179348126028532:=()
def tw464142990463128340:=()
def tw14087077044363196276:=()
def tw3168826794931204117:=()
def tw1984112895102349397:=()
def tw3119835848713025653:=()
def tw14844483314538570869:=()
def tw11586190912332078325:=()
def tw7359215475661287829:=()
def tw2192592922858377685:=()
def tw9885527301502707221:=()
def tw4155099513290616341:=()
def tw3842907970548989525:=()
def tw2139001761264422549:=()
def tw16844131366654406389:=()
def tw11845590207754610613:=()
def tw15498735793009607702:=()
def tw6002720326304715830:=()
def tw8323788935242343510:=()
def tw10379301036583039158:=()
def tw13729187797224944822:=()
def tw4126711968591976790:=()
def tw13353623244268563862:=()
def tw1188462880945110454:=()
def tw9822631622851560918:=()
def tw2253672120007611862:=()
def tw491917063019019766:=()
def tw15562923744641834518:=()
def tw17774530577512671830:=()
def tw17755900715435532950:=()
def tw1460922303519112854:=()
def tw2200864910392805142:=()
def tw6311198349885532982:=()
def tw12429786022357692246:=()
def tw7916025181599738774:=()
def tw7690263982000922518:=()
def tw18266746422620228566:=()
def tw13748577461770261591:=()
def tw6872063562458217751:=()
def tw7954014960889456919:=()
def tw5002000030608850199:=()
def tw3744700516938124599:=()
def tw14035094420071547223:=()
def tw18254063102935869911:=()
def tw17324846447732041207:=()
def tw9319984705923165719:=()
def tw16846627375198012055:=()
def tw340606899720885943:=()
def tw12934517471257370359:=()
def tw13813892191204711287:=()
def tw2310013915579584439:=()
def tw13589487388921946039:=()
def tw14966273054233675735:=()
def tw3462595488291191767:=()
def tw1175351250900008984:=()
def tw18393713428286595192:=()
def tw3012462994635878520:=()
def tw3200375104385201336:=()
def tw11882495857799807192:=()
def tw10766494856093624600:=()
def tw1260851757661849912:=()
def tw4220084461746356600:=()
def tw14116290809655240120:=()
def tw2281645744949877208:=()
def tw7782281806036060728:=()
def tw2169383868564578008:=()
def tw1411290552253026264:=()
def tw3511694617336004568:=()
def tw4534350275389467673:=()
def tw13157757656163652761:=()
def tw16608098765697861785:=()
def tw4811485881436149945:=()
def tw15928843872150331577:=()
def tw14195861143303166233:=()
def tw16810676349521182009:=()
def tw2648503310515553593:=()
def tw13284575536446135865:=()
def tw12502115837268226649:=()
def tw2366771041768892121:=()
def tw3841277518016346905:=()
def tw10336640447109019449:=()
def tw4528429290172839801:=()
def tw13464014425104947129:=()
def tw8308912113245058009:=()
def tw3439567745537036346:=()
def tw1450122753739707482:=()
def tw3774508814048831674:=()
def tw778255679271584954:=()
def tw7645405417117229306:=()
def tw13662782185602816346:=()
def tw4525992607811976570:=()
def tw12048911583005658490:=()
def tw815151707465999834:=()
def tw10240357735205696986:=()
def tw1649326413888131642:=()
def tw13666684493385676378:=()
def tw7210567731604423290:=()
def tw15440303728742991482:=()
def tw14524986872889366138:=()
def tw5374830236731897498:=()
def tw8141332160352876218:=()
def tw10872352773072155354:=()
def tw2451913211297765146:=()
def tw773304510420239354:=()
def tw1993860560073276443:=()
def tw17869942935493975131:=()
def tw8858116691924049019:=()
def tw1540761926435623131:=()
def tw18241824539721584923:=()
def tw2725870326581326171:=()
def tw10838779689171019163:=()
def tw16690752584973055483:=()
def tw3894448669117795867:=()
def tw12665394836699327099:=()
def tw3098147654240066235:=()
def tw11843757711878123227:=()
def tw1359769726700932859:=()
def tw17563380569588356859:=()
def tw11487866178655612795:=()
def tw14626913935583864731:=()
def tw11789503555512922011:=()
def tw15688247228519531451:=()
def tw8894553544174352379:=()
def tw6040837443394748444:=()
def tw5616628329872801852:=()
def tw5094233783756918876:=()
def tw8062602049690841180:=()
def tw10239629368724356220:=()
def tw7277628095361987772:=()
def tw3306597359199590812:=()
def tw12258269884315889052:=()
def tw14522752057006698076:=()
def tw6380909778941145692:=()
def tw18064529117680106076:=()
def tw6132727442864311932:=()
def tw9758594922861867644:=()
def tw14538685768688458428:=()
def tw14340997948366530332:=()
def tw14541979913516516156:=()
def tw5463811282917731132:=()
def tw4288888718723746652:=()
def tw1131936765491155868:=()
def tw2490890500789930972:=()
def tw2918804995271233500:=()
def tw7674836438987480028:=()
def tw4487500502896002109:=()
def tw12290435555538479229:=()
def tw5864434426585707677:=()
def tw7542596787205924029:=()
def tw17124305161995863261:=()
def tw1698996889396696349:=()
def tw14557500333765429597:=()
def tw14462824749356214621:=()
def tw18224084925095736669:=()
def tw1629932311045580157:=()
def tw16455056675564482973:=()
def tw18048046326338755005:=()
def tw8285750339144727005:=()
def tw3917619104225017341:=()
def tw2062032596816129533:=()
def tw11496577341053358717:=()
def tw5153202991106814653:=()
def tw11254945135472552669:=()
def tw14710433284802269:=()
def tw17583373998401766237:=()
def tw68523917658410973:=()
def tw11652563187888100349:=()
def tw894609685281855485:=()
def tw15877243629957314622:=()
def tw11264004120108430462:=()
def tw9039671421636205790:=()
def tw2346339830717291902:=()
def tw1563881845005759006:=()
def tw2560073534162569822:=()
def tw17400771678382279294:=()
def tw9347195769723488926:=()
def tw2767642804699358910:=()
def tw13502058043044913086:=()
def tw4196626138541659102:=()
def tw49721690618537950:=()
def tw3103347526331971647:=()
def tw18137715408302642303:=()
def tw15654132365470475455:=()
def tw16918139668057049343:=()
def tw13181787721490038015:=()
def tw11004091521110442527:=()
def tw4635120314319742495:=()
def tw4199058660335682175:=()
def tw12769660984311136895:=()
def tw49001696787101311:=()
def tw13836647651325856511:=()
def tw5281405454208150303:=()
def tw10765222448683262847:=()
def tw10341904971170490239:=()
def tw1664258668247586086:=()
def tw5139051127327001884:=()
end PySem.W.Fast
open_top hdT for PySem.Challenge.rw_foreknown_k14_rows_and_records
theorem PySem.Challenge.cw_foreknown_k14_rows_and_records_holds : PySem.Challenge.rw_foreknown_k14_rows_and_records.Holds :=
 hdT (by
 k_fill
 refine Mi.walkM (l:=PySem.Challenge.rw_foreknown_k14_rows_and_records) (k:=68) (x := "_law_script") rfl rfl ⟨rfl,by decide,by decide⟩ (fun w h Y=>PySem.W.kIn_of Y) ?F
 case F =>
  intro w mg fa h KX G hmg
  have f__law_cell:Mi.FnF (L2.KOf KX) mg "_law_cell" FK14.zeb ["_law_script", "_law_k"]:=by
   dsimp only [L2.KOf]
   refine' Mi.yk KX G ?a ?l ?c ?k ?b
   case a|l|c|k=>k_is
   (case b=>exact fun _ _ _ _ _ _ us hl=>match us,hl with|[_,_],_=>rfl)
  have f__law_letters:Mi.FnF (L2.KOf KX) mg "_law_letters" FK14.zec ["_law_cell_here", "_law_many"]:=by
   dsimp only [L2.KOf]
   refine' Mi.yk KX G ?a ?l ?c ?k ?b
   case a|l|c|k=>k_is
   (case b=>exact fun _ _ _ _ _ _ us hl=>match us,hl with|[_,_],_=>rfl)
  have f__law_leaf:Mi.FnF (L2.KOf KX) mg "_law_leaf" FK14.zed ["_law_cell_here"]:=by
   dsimp only [L2.KOf]
   refine' Mi.yk KX G ?a ?l ?c ?k ?b
   case a|l|c|k=>k_is
   (case b=>exact fun _ _ _ _ _ _ us hl=>match us,hl with|[_],_=>rfl)
  have f__law_record:Mi.FnF (L2.KOf KX) mg "_law_record" FK14.zee ["_law_keys_here", "_law_things"]:=by
   dsimp only [L2.KOf]
   refine' Mi.yk KX G ?a ?l ?c ?k ?b
   case a|l|c|k=>k_is
   (case b=>exact fun _ _ _ _ _ _ us hl=>match us,hl with|[_,_],_=>rfl)
  have f__law_keys:Mi.FnF (L2.KOf KX) mg "_law_keys" FK14.zef ["_law_cell_here", "_law_many"]:=by
   dsimp only [L2.KOf]
   refine' Mi.yk KX G ?a ?l ?c ?k ?b
   case a|l|c|k=>k_is
   (case b=>exact fun _ _ _ _ _ _ us hl=>match us,hl with|[_,_],_=>rfl)
  have f__law_built:Mi.FnF (L2.KOf KX) mg "_law_built" FK14.zbi ["_law_script", "_law_at", "_law_size_here"]:=by
   dsimp only [L2.KOf]
   refine' Mi.yk KX G ?a ?l ?c ?k ?b
   case a|l|c|k=>k_is
   (case b=>exact fun _ _ _ _ _ _ us hl=>match us,hl with|[_,_,_],_=>rfl)
  have f__law_held:Mi.FnF (L2.KOf KX) mg "_law_held" FK14.zbj ["_law_script"]:=by
   dsimp only [L2.KOf]
   refine' Mi.yk KX G ?a ?l ?c ?k ?b
   case a|l|c|k=>k_is
   (case b=>exact fun _ _ _ _ _ _ us hl=>match us,hl with|[_],_=>rfl)
  have f__law_place:Mi.FnF (L2.KOf KX) mg "_law_place" FK14.zeg ["_law_cell_here", "_law_many"]:=by
   dsimp only [L2.KOf]
   refine' Mi.yk KX G ?a ?l ?c ?k ?b
   case a|l|c|k=>k_is
   (case b=>exact fun _ _ _ _ _ _ us hl=>match us,hl with|[_,_],_=>rfl)
  have f__law_other:Mi.FnF (L2.KOf KX) mg "_law_other" FK14.zbk ["_law_script"]:=by
   dsimp only [L2.KOf]
   refine' Mi.yk KX G ?a ?l ?c ?k ?b
   case a|l|c|k=>k_is
   (case b=>exact fun _ _ _ _ _ _ us hl=>match us,hl with|[_],_=>rfl)
  have f__law_small:Mi.FnF (L2.KOf KX) mg "_law_small" FK14.zeh ["_law_script"]:=by
   dsimp only [L2.KOf]
   refine' Mi.yk KX G ?a ?l ?c ?k ?b
   case a|l|c|k=>k_is
   (case b=>exact fun _ _ _ _ _ _ us hl=>match us,hl with|[_],_=>rfl)
  have f__law_edge:Mi.FnF (L2.KOf KX) mg "_law_edge" FK14.zcJ ["_law_script", "_law_total"]:=by
   dsimp only [L2.KOf]
   refine' Mi.yk KX G ?a ?l ?c ?k ?b
   case a|l|c|k=>k_is
   (case b=>exact fun _ _ _ _ _ _ us hl=>match us,hl with|[_,_],_=>rfl)
  have n_Op:Mi.NwF (L2.KOf KX) mg "Op" "Op.__init__" FK14.zei ["self", "word"]:=by
   dsimp only [L2.KOf]
   refine' Mi.zon KX G ?aC ?mk ?kc ?a ?i ?l ?c ?k ?b
   case aC|mk|kc|a|i|l|c|k=>k_is
   (case b=>exact fun _ _ _ _ _ _ us hl=>match us,hl with|[_,_],_=>rfl)
  have f_op_of:Mi.FnF (L2.KOf KX) mg "op_of" FK14.zej ["word"]:=by
   dsimp only [L2.KOf]
   refine' Mi.yk KX G ?a ?l ?c ?k ?b
   case a|l|c|k=>k_is
   (case b=>exact fun _ _ _ _ _ _ us hl=>match us,hl with|[_],_=>rfl)
  have f__law_size:Mi.FnF (L2.KOf KX) mg "_law_size" FK14.zbl ["_law_held_here"]:=by
   dsimp only [L2.KOf]
   refine' Mi.yk KX G ?a ?l ?c ?k ?b
   case a|l|c|k=>k_is
   (case b=>exact fun _ _ _ _ _ _ us hl=>match us,hl with|[_],_=>rfl)
  have f__law_row_due:Mi.FnF (L2.KOf KX) mg "_law_row_due" FK14.zek ["_law_word", "_law_held_here", "_law_value", "_law_at"]:=by
   dsimp only [L2.KOf]
   refine' Mi.yk KX G ?a ?l ?c ?k ?b
   case a|l|c|k=>k_is
   (case b=>exact fun _ _ _ _ _ _ us hl=>match us,hl with|[_,_,_,_],_=>rfl)
  have f_kind_of:Mi.FnF (L2.KOf KX) mg "kind_of" FK14.zel ["value"]:=by
   dsimp only [L2.KOf]
   refine' Mi.yk KX G ?a ?l ?c ?k ?b
   case a|l|c|k=>k_is
   (case b=>exact fun _ _ _ _ _ _ us hl=>match us,hl with|[_],_=>rfl)
  have f_check_kinds:Mi.FnF (L2.KOf KX) mg "check_kinds" FK14.zem ["kinds", "values"]:=by
   dsimp only [L2.KOf]
   refine' Mi.yk KX G ?a ?l ?c ?k ?b
   case a|l|c|k=>k_is
   (case b=>exact fun _ _ _ _ _ _ us hl=>match us,hl with|[_,_],_=>rfl)
  have f_tell_front:Mi.FnF (L2.KOf KX) mg "tell_front" FK14.zen ["values"]:=by
   dsimp only [L2.KOf]
   refine' Mi.yk KX G ?a ?l ?c ?k ?b
   case a|l|c|k=>k_is
   (case b=>exact fun _ _ _ _ _ _ us hl=>match us,hl with|[_],_=>rfl)
  have f_filled:Mi.FnF (L2.KOf KX) mg "filled" FK14.zeo ["row"]:=by
   dsimp only [L2.KOf]
   refine' Mi.yk KX G ?a ?l ?c ?k ?b
   case a|l|c|k=>k_is
   (case b=>exact fun _ _ _ _ _ _ us hl=>match us,hl with|[_],_=>rfl)
  have f_tell_head:Mi.FnF (L2.KOf KX) mg "tell_head" FK14.zep ["values"]:=by
   dsimp only [L2.KOf]
   refine' Mi.yk KX G ?a ?l ?c ?k ?b
   case a|l|c|k=>k_is
   (case b=>exact fun _ _ _ _ _ _ us hl=>match us,hl with|[_],_=>rfl)
  have f_tell_rest:Mi.FnF (L2.KOf KX) mg "tell_rest" FK14.zeq ["values"]:=by
   dsimp only [L2.KOf]
   refine' Mi.yk KX G ?a ?l ?c ?k ?b
   case a|l|c|k=>k_is
   (case b=>exact fun _ _ _ _ _ _ us hl=>match us,hl with|[_],_=>rfl)
  have f_tell_many:Mi.FnF (L2.KOf KX) mg "tell_many" FK14.zer ["values"]:=by
   dsimp only [L2.KOf]
   refine' Mi.yk KX G ?a ?l ?c ?k ?b
   case a|l|c|k=>k_is
   (case b=>exact fun _ _ _ _ _ _ us hl=>match us,hl with|[_],_=>rfl)
  have f_place_in:Mi.FnF (L2.KOf KX) mg "place_in" FK14.zes ["row", "number"]:=by
   dsimp only [L2.KOf]
   refine' Mi.yk KX G ?a ?l ?c ?k ?b
   case a|l|c|k=>k_is
   (case b=>exact fun _ _ _ _ _ _ us hl=>match us,hl with|[_,_],_=>rfl)
  have f_tell_item:Mi.FnF (L2.KOf KX) mg "tell_item" FK14.zet ["values"]:=by
   dsimp only [L2.KOf]
   refine' Mi.yk KX G ?a ?l ?c ?k ?b
   case a|l|c|k=>k_is
   (case b=>exact fun _ _ _ _ _ _ us hl=>match us,hl with|[_],_=>rfl)
  have f_tell_put:Mi.FnF (L2.KOf KX) mg "tell_put" FK14.zeu ["values"]:=by
   dsimp only [L2.KOf]
   refine' Mi.yk KX G ?a ?l ?c ?k ?b
   case a|l|c|k=>k_is
   (case b=>exact fun _ _ _ _ _ _ us hl=>match us,hl with|[_],_=>rfl)
  have f_tell_field:Mi.FnF (L2.KOf KX) mg "tell_field" FK14.zev ["values"]:=by
   dsimp only [L2.KOf]
   refine' Mi.yk KX G ?a ?l ?c ?k ?b
   case a|l|c|k=>k_is
   (case b=>exact fun _ _ _ _ _ _ us hl=>match us,hl with|[_],_=>rfl)
  have f_tell_set:Mi.FnF (L2.KOf KX) mg "tell_set" FK14.zew ["values"]:=by
   dsimp only [L2.KOf]
   refine' Mi.yk KX G ?a ?l ?c ?k ?b
   case a|l|c|k=>k_is
   (case b=>exact fun _ _ _ _ _ _ us hl=>match us,hl with|[_],_=>rfl)
  have f_things_within:Mi.FnF (L2.KOf KX) mg "things_within" FK14.zex ["thing"]:=by
   dsimp only [L2.KOf]
   refine' Mi.yk KX G ?a ?l ?c ?k ?b
   case a|l|c|k=>k_is
   (case b=>exact fun _ _ _ _ _ _ us hl=>match us,hl with|[_],_=>rfl)
  have f_all_within:Mi.FnF (L2.KOf KX) mg "all_within" FK14.zey ["thing"]:=by
   dsimp only [L2.KOf]
   refine' Mi.yk KX G ?a ?l ?c ?k ?b
   case a|l|c|k=>k_is
   (case b=>exact fun _ _ _ _ _ _ us hl=>match us,hl with|[_],_=>rfl)
  have f_parts:Mi.FnF (L2.KOf KX) mg "parts" FK14.zez ["value"]:=by
   dsimp only [L2.KOf]
   refine' Mi.yk KX G ?a ?l ?c ?k ?b
   case a|l|c|k=>k_is
   (case b=>exact fun _ _ _ _ _ _ us hl=>match us,hl with|[_],_=>rfl)
  have m_Op_answer:Mi.MtF (L2.KOf KX) mg "Op" "answer" "Op.answer" FK14.zeA ["self", "values"]:=by
   dsimp only [L2.KOf]
   refine' Mi.zom KX G ?aC ?pg ?hd ?po ?sa ?a ?i ?l ?c ?k ?b
   case aC|pg|hd|po|sa|a|i|l|c|k=>k_is
   (case b=>exact fun _ _ _ _ _ _ us hl=>match us,hl with|[_,_],_=>rfl)
  have f__law_asked:Mi.FnF (L2.KOf KX) mg "_law_asked" FK14.zeB ["_law_op", "_law_values"]:=by
   dsimp only [L2.KOf]
   refine' Mi.yk KX G ?a ?l ?c ?k ?b
   case a|l|c|k=>k_is
   (case b=>exact fun _ _ _ _ _ _ us hl=>match us,hl with|[_,_],_=>rfl)
  have f__law_row_values:Mi.FnF (L2.KOf KX) mg "_law_row_values" FK14.zeC ["_law_word", "_law_row", "_law_value", "_law_at"]:=by
   dsimp only [L2.KOf]
   refine' Mi.yk KX G ?a ?l ?c ?k ?b
   case a|l|c|k=>k_is
   (case b=>exact fun _ _ _ _ _ _ us hl=>match us,hl with|[_,_,_,_],_=>rfl)
  have f__law_alike:Mi.FnF (L2.KOf KX) mg "_law_alike" FK14.zeD ["_law_found", "_law_due"]:=by
   dsimp only [L2.KOf]
   refine' Mi.yk KX G ?a ?l ?c ?k ?b
   case a|l|c|k=>k_is
   (case b=>exact fun _ _ _ _ _ _ us hl=>match us,hl with|[_,_],_=>rfl)
  have f__law_of_rows:Mi.FnF (L2.KOf KX) mg "_law_of_rows" FK14.zaG ["_law_script", "_law_word"]:=by
   dsimp only [L2.KOf]
   refine' Mi.yk KX G ?a ?l ?c ?k ?b
   case a|l|c|k=>k_is
   (case b=>exact fun _ _ _ _ _ _ us hl=>match us,hl with|[_,_],_=>rfl)
  have f__law_field_due:Mi.FnF (L2.KOf KX) mg "_law_field_due" FK14.zeE ["_law_word", "_law_keys_here", "_law_held_here", "_law_value", "_law_key"]:=by
   dsimp only [L2.KOf]
   refine' Mi.yk KX G ?a ?l ?c ?k ?b
   case a|l|c|k=>k_is
   (case b=>exact fun _ _ _ _ _ _ us hl=>match us,hl with|[_,_,_,_,_],_=>rfl)
  have f__law_of_records:Mi.FnF (L2.KOf KX) mg "_law_of_records" FK14.w9 ["_law_script", "_law_word"]:=by
   dsimp only [L2.KOf]
   refine' Mi.yk KX G ?a ?l ?c ?k ?b
   case a|l|c|k=>k_is
   (case b=>exact fun _ _ _ _ _ _ us hl=>match us,hl with|[_,_],_=>rfl)
  have f_law:Mi.FnF (L2.KOf KX) mg "law" FK14.zcK ["_law_script"]:=by
   dsimp only [L2.KOf]
   refine' Mi.yk KX G ?a ?l ?c ?k ?b
   case a|l|c|k=>k_is
   (case b=>exact fun _ _ _ _ _ _ us hl=>match us,hl with|[_],_=>rfl)
  have x_Fault:Mi.XnF (L2.KOf KX) mg "Fault" "word" "Fault.__init__" FK14.zeF:=by
   dsimp only [L2.KOf]
   refine' Mi.zg4 KX G ?aC ?hC ?hB ?hN ?he ?hi ?fn ?kp ?sa ?hcl ?hl ?no ?hd ?l ?c ?k ?b
   case aC|hC=>k_is
   (case hB=>k_exc)
   (case hN=>k_is)
   (case he=>first|rfl|with_unfolding_all rfl|simp)
   (case hi=>k_is)
   (case fn=>k_is)
   (case kp=>k_is)
   (case sa=>k_is)
   (case hcl=>k_is)
   (case hl=>rfl)
   (case no=>k_is)
   (case hd=>k_is)
   (case l=>k_is)
   (case c=>k_is)
   (case k=>k_is)
   (case b=>exact fun _ _ _ _ _ _ us hl=>match us,hl with|[_,_],_=>rfl)
  have x_NoOp:Mi.XnF (L2.KOf KX) mg "NoOp" "word" "NoOp.__init__" FK14.zeG:=by
   dsimp only [L2.KOf]
   refine' Mi.zg4 KX G ?aC ?hC ?hB ?hN ?he ?hi ?fn ?kp ?sa ?hcl ?hl ?no ?hd ?l ?c ?k ?b
   case aC|hC=>k_is
   (case hB=>k_exc)
   (case hN=>k_is)
   (case he=>first|rfl|with_unfolding_all rfl|simp)
   (case hi=>k_is)
   (case fn=>k_is)
   (case kp=>k_is)
   (case sa=>k_is)
   (case hcl=>k_is)
   (case hl=>rfl)
   (case no=>k_is)
   (case hd=>k_is)
   (case l=>k_is)
   (case c=>k_is)
   (case k=>k_is)
   (case b=>exact fun _ _ _ _ _ _ us hl=>match us,hl with|[_,_],_=>rfl)
  have b_bool:mg "bool" = none:=by
   refine' Mi.jF KX G ?a
   (case a=>k_is)
  have b_dict:mg "dict" = none:=by
   refine' Mi.jF KX G ?a
   (case a=>k_is)
  have b_int:mg "int" = none:=by
   refine' Mi.jF KX G ?a
   (case a=>k_is)
  have b_isinstance:mg "isinstance" = none:=by
   refine' Mi.jF KX G ?a
   (case a=>k_is)
  have b_len:mg "len" = none:=by
   refine' Mi.jF KX G ?a
   (case a=>k_is)
  have b_list:mg "list" = none:=by
   refine' Mi.jF KX G ?a
   (case a=>k_is)
  have b_max:mg "max" = none:=by
   refine' Mi.jF KX G ?a
   (case a=>k_is)
  have b_min:mg "min" = none:=by
   refine' Mi.jF KX G ?a
   (case a=>k_is)
  have b_range:mg "range" = none:=by
   refine' Mi.jF KX G ?a
   (case a=>k_is)
  have b_str:mg "str" = none:=by
   refine' Mi.jF KX G ?a
   (case a=>k_is)
  have b_sum:mg "sum" = none:=by
   refine' Mi.jF KX G ?a
   (case a=>k_is)
  have b_tuple:mg "tuple" = none:=by
   refine' Mi.jF KX G ?a
   (case a=>k_is)
  have b_zip:mg "zip" = none:=by
   refine' Mi.jF KX G ?a
   (case a=>k_is)
  have c_MOST_PARTS:∃t,mg "MOST_PARTS" = some (.int 60 t):=by
   refine' Mi.zos KX G ?a
   (case a=>k_is)
  have d_many:Mi.FldF (L2.KOf KX) mg "many" FK14.insOf FK14.excOf:=by
   refine ⟨fun c hc=>?_,fun c hc=>?_⟩
   ·simp [FK14.insOf,or_assoc] at hc
    rcases hc with rfl
    ·dsimp only [L2.KOf]
     refine' Mi.zg5 KX G ?aC ?pg ?hd ?po ?sa ?na
     case aC|pg|hd|po|sa|na=>k_is
   ·simp [FK14.excOf,or_assoc] at hc
    rcases hc with rfl|rfl
    ·dsimp only [L2.KOf]
     refine' Mi.zcp KX G ?aC ?ga ?hk ?hB ?hd ?no
     case aC|ga|hk|hB|hd|no=>k_is
    ·dsimp only [L2.KOf]
     refine' Mi.zcp KX G ?aC ?ga ?hk ?hB ?hd ?no
     case aC|ga|hk|hB|hd|no=>k_is
  have d_word:Mi.FldF (L2.KOf KX) mg "word" FK14.insOf FK14.excOf:=by
   refine ⟨fun c hc=>?_,fun c hc=>?_⟩
   ·simp [FK14.insOf,or_assoc] at hc
    rcases hc with rfl
    ·dsimp only [L2.KOf]
     refine' Mi.zg5 KX G ?aC ?pg ?hd ?po ?sa ?na
     case aC|pg|hd|po|sa|na=>k_is
   ·simp [FK14.excOf,or_assoc] at hc
    rcases hc with rfl|rfl
    ·dsimp only [L2.KOf]
     refine' Mi.zcp KX G ?aC ?ga ?hk ?hB ?hd ?no
     case aC|ga|hk|hB|hd|no=>k_is
    ·dsimp only [L2.KOf]
     refine' Mi.zcp KX G ?aC ?ga ?hk ?hB ?hd ?no
     case aC|ga|hk|hB|hd|no=>k_is
  have is:Mi.IsF (L2.KOf KX) mg FK14.isT:=by
   exact Mi.zoK rfl rfl rfl
  have kd_OPS:∀X:L2.Cx,X.K=(L2.KOf KX)->X.mg=mg->X.w=w->Mi.KdF X "OPS" FK14.j8 FK14.j9 FK14.zeH:=by
   dsimp only [L2.KOf]
   refine' Mi.zoq KX G ?aO ?lO ?hk ?no ?hi
   case aO|lO=>k_is
   case hk =>
    repeat (refine ⟨⟨_,_,rfl,rfl⟩,?_⟩)
    exact trivial
   (case no=>first|rfl|decide)
   case hi =>
    simp only [FK14.j8,FK14.j9,List.zip_cons_cons,List.zip_nil_left]
    refine Mi.all_cons ?_ ?_
    ·refine' Mi.zdU KX G ?e ?l1 ?l2 ?a
     case e|l1|l2|a=>k_is
    refine Mi.all_cons ?_ ?_
    ·refine' Mi.zdV KX G ?e ?l1 ?l2 ?a
     case e|l1|l2|a=>k_is
    refine Mi.all_cons ?_ ?_
    ·refine' Mi.zdV KX G ?e ?l1 ?l2 ?a
     case e|l1|l2|a=>k_is
    refine Mi.all_cons ?_ ?_
    ·refine' Mi.zdV KX G ?e ?l1 ?l2 ?a
     case e|l1|l2|a=>k_is
    refine Mi.all_cons ?_ ?_
    ·refine' Mi.zdU KX G ?e ?l1 ?l2 ?a
     case e|l1|l2|a=>k_is
    refine Mi.all_cons ?_ ?_
    ·refine' Mi.zhK KX G ?e ?l1 ?l2 ?a
     case e|l1|l2|a=>k_is
    refine Mi.all_cons ?_ ?_
    ·refine' Mi.zdU KX G ?e ?l1 ?l2 ?a
     case e|l1|l2|a=>k_is
    refine Mi.all_cons ?_ ?_
    ·refine' Mi.zhK KX G ?e ?l1 ?l2 ?a
     case e|l1|l2|a=>k_is
    exact Mi.zop
  have T:FK14.Txt w (L2.KOf KX) mg:=⟨f__law_cell,f__law_letters,f__law_leaf,f__law_record,f__law_keys,f__law_built,f__law_held,f__law_place,f__law_other,f__law_small,f__law_edge,n_Op,f_op_of,f__law_size,f__law_row_due,f_kind_of,f_check_kinds,f_tell_front,f_filled,f_tell_head,f_tell_rest,f_tell_many,f_place_in,f_tell_item,f_tell_put,f_tell_field,f_tell_set,f_things_within,f_all_within,f_parts,m_Op_answer,f__law_asked,f__law_row_values,f__law_alike,f__law_of_rows,f__law_field_due,f__law_of_records,f_law,x_Fault,x_NoOp,b_bool,b_dict,b_int,b_isinstance,b_len,b_list,b_max,b_min,b_range,b_str,b_sum,b_tuple,b_zip,c_MOST_PARTS,d_many,d_word,is,kd_OPS⟩
  exact Mi.zor T.f_law hmg (fun _ _ _ _ _ _ _=>rfl) (fun f fd F base=>FK14.zrF T F) (fun ns _=>FK14.zs1 ns))
