import PyProof.Rows.All
import Wide.All
import OpenK.AllK
import Wide.FinOn
import Lean
import PyProof.EqAt
import PyProof.EqKinds
import PyProof.TupleCall
import PySem.Challenge.RW_foreknown_k21_values_both_ways
set_option Elab.async false
set_option linter.all false
set_option maxRecDepth 100000
namespace L2
open PySem PySem.Spec PyProof.Rows
abbrev Key:=Sum Int Str
def keyIs:Key->Value->Bool
 | .inl k,v=>Value.isInt k v
 | .inr x,v=>Value.isStrOf x v
def keyH (w:World):Key->Int
 | .inl k=>hashInt k
 | .inr x=>hashStr w x
theorem jb:∀{k:Key}{v:Value},keyIs k v=true->(∃i t,k=Sum.inl i/\v=Value.int i t)\/(∃x t,k=Sum.inr x/\v=Value.str x t)
 | .inl i,v,h=>by
  obtain ⟨t,e⟩:=Value.isInt_shape (k:=i) (v:=v) h
  exact .inl ⟨i,t,rfl,e⟩
 | .inr x,v,h=>by
  obtain ⟨t,e⟩:=Value.isStrOf_shape (x:=x) (v:=v) h
  exact .inr ⟨x,t,rfl,e⟩
theorem zhE (i:Int) (t:Tok):keyIs (.inl i) (.int i t)=true:=by simp [keyIs,Value.isInt]
theorem zhF (x:Str) (t:Tok):keyIs (.inr x) (.str x t)=true:=by simp [keyIs,Value.isStrOf]
theorem zhG (a b:Int):decide ((Sum.inl a:Key)=Sum.inl b)=(a==b):=by
 by_cases e:a=b
 ·subst e;simp
 ·have h:¬(Sum.inl a:Key)=Sum.inl b:=fun q=>e (Sum.inl.inj q)
  rw [decide_eq_false h]
  exact (beq_eq_false_iff_ne.mpr e).symm
theorem zhH (a b:Str):decide ((Sum.inr a:Key)=Sum.inr b)=decide (a=b):=by
 by_cases e:a=b
 ·subst e;simp
 ·have h:¬(Sum.inr a:Key)=Sum.inr b:=fun q=>e (Sum.inr.inj q)
  rw [decide_eq_false h,decide_eq_false e]
theorem zhI (a:Int) (b:Str):decide ((Sum.inl a:Key)=Sum.inr b)=false:=decide_eq_false (fun q=>nomatch q)
theorem zhJ (a:Str) (b:Int):decide ((Sum.inr a:Key)=Sum.inl b)=false:=decide_eq_false (fun q=>nomatch q)
def mixKind (prog:Program) (w:World):PySem.KeyKind prog w Key where
 is:=keyIs
 hash:=keyH w
 inj:=fun v a b ha hb=>by
  rcases jb ha with ⟨i,t,rfl,rfl⟩|⟨x,t,rfl,rfl⟩
  ·rcases jb hb with ⟨j,u,rfl,e⟩|⟨y,u,rfl,e⟩
   ·injection e with e1 _;rw [e1]
   ·exact nomatch e
  ·rcases jb hb with ⟨j,u,rfl,e⟩|⟨y,u,rfl,e⟩
   ·exact nomatch e
   ·injection e with e1 _;rw [e1]
 byValue:=fun k v h=>by
  rcases jb h with ⟨i,t,rfl,rfl⟩|⟨x,t,rfl,rfl⟩<;>rfl
 pyHash:=fun hv h=>by
  rcases jb hv with ⟨i,t,rfl,rfl⟩|⟨x,t,rfl,rfl⟩
  ·exact wpAny_pyHash_int h
  ·exact wpAny_pyHash_str h
 eqBool:=fun hu hv h=>by
  rcases jb hu with ⟨i,t,rfl,rfl⟩|⟨x,t,rfl,rfl⟩
  ·rcases jb hv with ⟨j,u,rfl,rfl⟩|⟨y,u,rfl,rfl⟩
   ·rw [zhG] at h;exact wpAny_eqBool_int h
   ·rw [zhI] at h;exact SeqAt.EqAt.int_str i t y u _ _ _ _ h
  ·rcases jb hv with ⟨j,u,rfl,rfl⟩|⟨y,u,rfl,rfl⟩
   ·rw [zhJ] at h;exact SeqAt.EqAt.str_int x t j u _ _ _ _ h
   ·rw [zhH] at h;exact wpAny_eqBool_str h
 «strs» := fun k x t v h=>by
  rcases jb h with ⟨i,u,rfl,e⟩|⟨y,u,rfl,e⟩
  ·exact nomatch e
  ·injection e with e1 _
   subst e1
   cases v<;>rfl
theorem zhK (prog:Program) (w:World) (i:Int) (t:Tok):(mixKind prog w).is (.inl i) (.int i t)=true:=zhE i t
theorem zhL (prog:Program) (w:World) (x:Str) (t:Tok):(mixKind prog w).is (.inr x) (.str x t)=true:=zhF x t
inductive V where
 | non|bl (b:Bool)|int (i:Int)|str (x:Str)|byt (b:Array UInt8)|flt (b:UInt64)|ref (a:Addr)|ty (n:String)
 deriving DecidableEq
def RelV:V->Value->Prop
 | .non,u=>u=Value.none
 | .bl b,u=>u=Value.bool b
 | .int i,u=>∃t,u=Value.int i t
 | .str x,u=>∃t,u=Value.str x t
 | .byt b,u=>∃t,u=Value.bytes b t
 | .flt b,u=>∃t,u=Value.float b t
 | .ref a,u=>u=Value.ref a
 | .ty n,u=>u=Value.type n
abbrev Vals:List V->List Value->Prop:=Paired RelV
theorem Vals.length {xs:List V}{us:List Value}(r:Vals xs us):xs.length=us.length:=Paired.length r
theorem Vals.get:∀{xs:List V}{us:List Value}{i:Nat}{x:V},Vals xs us->xs[i]?=some x->∃u,us[i]?=some u/\RelV x u
 | _,_,_,_,.nil,e=>by simp at e
 | _,_,0,_,.cons r _,e=>by simp at e;subst e;exact ⟨_,rfl,r⟩
 | _,_,i+1,x,.cons _ t,e=>by
  obtain ⟨u,h1,h2⟩:=Vals.get (i:=i) (x:=x) t (by simpa using e)
  exact ⟨u,by simpa using h1,h2⟩
theorem Vals.set {x:V}{u:Value}(r:RelV x u):∀{xs:List V}{us:List Value}(i:Nat),Vals xs us->Vals (xs.set i x) (us.set i u)
 | _,_,_,.nil=>.nil
 | _,_,0,.cons _ t=>.cons r t
 | _,_,i+1,.cons q t=>.cons q (Vals.set r i t)
theorem Vals.append:∀{xs ys:List V}{us ws:List Value},Vals xs us->Vals ys ws->Vals (xs++ys) (us++ws)
 | _,_,_,_,.nil,s=>s
 | _,_,_,_,.cons r t,s=>.cons r (Vals.append t s)
theorem Vals.take:∀{xs:List V}{us:List Value}(n:Nat),Vals xs us->Vals (xs.take n) (us.take n)
 | _,_,0,_=>.nil
 | _,_,_+1,.nil=>.nil
 | _,_,n+1,.cons r t=>.cons r (Vals.take n t)
theorem Vals.drop:∀{xs:List V}{us:List Value}(n:Nat),Vals xs us->Vals (xs.drop n) (us.drop n)
 | _,_,0,r=>r
 | _,_,_+1,.nil=>.nil
 | _,_,n+1,.cons _ t=>Vals.drop n t
def RelO:Option V->Option Value->Prop
 | some v,some u=>RelV v u
 | none,none=>True
 | _,_=>False
def KV {κ:Type}:List (κ×V)->List (κ×Value)->Prop:=Paired fun (p:κ×V) (q:κ×Value)=>p.1=q.1/\RelV p.2 q.2
def kV:Key->V
 | .inl i=>.int i
 | .inr x=>.str x
inductive HO where
 | lst (xs:List V)
 | tup (xs:List V)
 | dK (kvs:List (Key×V))|dT (kvs:List (List Key×V))
 | set (S:Int->Bool) (n:Nat)
 | ins (C dx:Addr) (fs:List (Str×V))
 | own (x:Addr)
 | xd (fs:List (Str×V))
 | met (f x:Addr)
 | rng (lo hi:Int)
 | frz (o:Obj) (u:HO)
 | tbl (ps:Array Value)
 | ext (φ:Heap->Prop)
abbrev Hp:=Addr->Option HO
def upd (H:Hp) (a:Addr) (o:HO):Hp:=fun b=>if b=a then some o else H b
theorem yn {H:Hp}{a:Addr}{o:HO}:upd H a o a=some o:=by unfold upd;rw [if_pos rfl]
theorem zD {H:Hp}{a b:Addr}{o:HO}(h:b≠a):upd H a o b=H b:=by unfold upd;rw [if_neg h]
theorem zhM {H:Hp}{a b:Addr}{o u:HO}(h:H a=some o) (h':H b=some u) (d:o≠u):a≠b:=by
 intro e;subst e;rw [h] at h';exact d (Option.some.inj h')
theorem jo {H:Hp}{a b:Addr}{o:HO}(h:H a=some o) (h':H b=none):a≠b:=by
 intro e;subst e;rw [h] at h';cases h'
section
variable (P:Program) (w:World)
def ObjOk (H:Hp) (h:Heap) (a:Addr):HO->Prop
 | .lst xs=>xs.length<=sizeLine/\∃(its:List Value) (n:Nat),Vals xs its/\h.get? a=some { cls:=.type "list", data:=.seq its.toArray n }
 | .tup xs=>xs.length<=sizeLine/\∃its:List Value,Vals xs its/\IsTup h a its.toArray
 | .dK kvs=>kvs.length<=sizeLine/\(a==sysModules)=false/\∃vs,KV kvs vs/\h.DictOf (mixKind P w) a vs
 | .dT kvs=>kvs.length<=sizeLine/\(a==sysModules)=false/\∃xs:List (List Key×Addr×Value),
   Paired (fun (p:List Key×V) (q:List Key×Addr×Value)=>p.1=q.1/\H q.2.1=some (.tup (p.1.map kV))/\RelV p.2 q.2.2) kvs xs /\
   ∃o es ep,h.get? a=some o/\o.ExactDict/\o.data=.dict es ep/\es.toList=xs.map (entryOfKey (tupleKind (mixKind P w)))/\(xs.map (·.1)).Nodup
 | .set S n=>h.SetOf (intKind P w) a S n
 | .ins C dx fs=>H dx=some (.own a)/\fs.length<=1000/\dx≠a/\h.get? a=some (PySem.W.instObj C dx) /\
   ∃mA,h.Ns1 dx mA/\(∀f,RelO (fs.lookup f) (mA f))/\PySem.Within mA (fs.map (·.1))
 | .own _=>∃o,h.get? a=some o
 | .xd fs=>∃mA,h.Ns1 a mA/\∀f,RelO (fs.lookup f) (mA f)
 | .rng lo hi=>∃t u v,h.get? a=some { cls:=.type "range", data:=.fields #[.int lo t,.int hi u,.int 1 v] }
 | .frz o u=>h.get? a=some o/\ObjOk H h a u
 | .tbl ps=>h.get? a=some { cls:=.none,data:=.fields ps }
 | .met f x=>h.get? a=some (PySem.W.methodObj (.ref f) (.ref x))
 | .ext φ=>φ h/\(∃o,h.get? a=some o)/\∀h1 h2:Heap,φ h1->(∀o,h1.get? a=some o->h2.get? a=some o)->φ h2
def HOk (H:Hp) (h:Heap):Prop:=∀a o,H a=some o->ObjOk P w H h a o
end
section
variable {P:Program}{w:World}{H H':Hp}{h h':Heap}{a:Addr}{o:HO}
theorem ObjOk.lt (x:ObjOk P w H h a o):a<h.objs.size:=by
 cases o with
 | lst xs=>obtain ⟨_,_,_,_,e⟩:=x;exact Heap.lt_size e
 | tup xs=>obtain ⟨_,_,_,p⟩:=x;exact p.lt
 | dK kvs=>obtain ⟨_,_,_,_,o,_,_,e,_⟩:=x;exact Heap.lt_size e
 | dT kvs=>obtain ⟨_,_,_,_,o,_,_,e,_⟩:=x;exact Heap.lt_size e
 | set S n=>obtain ⟨o,_,_,_,e,_⟩:=x;exact Heap.lt_size e
 | ins C dx fs=>obtain ⟨_,_,_,e,_⟩:=x;exact Heap.lt_size e
 | own y=>obtain ⟨_,e⟩:=x;exact Heap.lt_size e
 | xd fs=>obtain ⟨_,⟨_,_,_,e,_⟩,_⟩:=x;exact Heap.lt_size e
 | rng lo hi=>obtain ⟨_,_,_,e⟩:=x;exact Heap.lt_size e
 | frz ob u=>obtain ⟨e,_⟩:=x;exact Heap.lt_size e
 | tbl ps=>exact Heap.lt_size (show h.get? a=some _ from x)
 | met f y=>exact Heap.lt_size (show h.get? a=some _ from x)
 | ext φ=>obtain ⟨_,⟨_,e⟩,_⟩:=x;exact Heap.lt_size e
theorem Paired.mapP {α β:Type}{F G:α->β->Prop}:∀{aB:List α}{aA:List β},Paired F aB aA->(∀a b,F a b->G a b)->Paired G aB aA
 | _,_,.nil,_=>.nil
 | _,_,.cons r t,f=>.cons (f _ _ r) (Paired.mapP t f)
theorem ObjOk.stay (x:ObjOk P w H h a o) (k:∀b u,(b=a\/H b=some (.own a))->h.get? b=some u->h'.get? b=some u)
  (ho:∀b,H b=some (.own a)->H' b=some (.own a)) (ht:∀b xs,H b=some (.tup xs)->H' b=some (.tup xs)):ObjOk P w H' h' a o:=by
 induction o with
 | lst xs=>obtain ⟨z,its,n,r,e⟩:=x;exact ⟨z,its,n,r,k _ _ (.inl rfl) e⟩
 | tup xs=>obtain ⟨z,its,r,ob,e,c⟩:=x;exact ⟨z,its,r,ob,k _ _ (.inl rfl) e,c⟩
 | dK kvs=>obtain ⟨z,y,vs,r,ob,es,ep,e,c⟩:=x;exact ⟨z,y,vs,r,ob,es,ep,k _ _ (.inl rfl) e,c⟩
 | dT kvs =>
  obtain ⟨z,y,xs,r,ob,es,ep,e,c⟩:=x
  exact ⟨z,y,xs,Paired.mapP r fun p q z=>⟨z.1,ht _ _ z.2.1,z.2.2⟩,ob,es,ep,k _ _ (.inl rfl) e,c⟩
 | set S n=>obtain ⟨ob,es,ep,t,e,c⟩:=x;exact ⟨ob,es,ep,t,k _ _ (.inl rfl) e,c⟩
 | ins C dx fs =>
  obtain ⟨d,z,ne,e,mA,⟨od,es,ep,e2,c⟩,r⟩:=x
  exact ⟨ho _ d,z,ne,k _ _ (.inl rfl) e,mA,⟨od,es,ep,k _ _ (.inr d) e2,c⟩,r⟩
 | own y=>obtain ⟨ob,e⟩:=x;exact ⟨ob,k _ _ (.inl rfl) e⟩
 | xd fs=>obtain ⟨mA,⟨od,es,ep,e,c⟩,r⟩:=x;exact ⟨mA,⟨od,es,ep,k _ _ (.inl rfl) e,c⟩,r⟩
 | rng lo hi=>obtain ⟨t,u,v,e⟩:=x;exact ⟨t,u,v,k _ _ (.inl rfl) e⟩
 | frz ob u ih=>obtain ⟨e,q⟩:=x;exact ⟨k _ _ (.inl rfl) e,ih q⟩
 | tbl ps =>
  have e:h.get? a=some { cls:=.none,data:=.fields ps }:=x
  show h'.get? a=some { cls:=.none,data:=.fields ps }
  exact k a _ (.inl rfl) e
 | met f y =>
  have e:h.get? a=some (PySem.W.methodObj (.ref f) (.ref y)):=x
  show h'.get? a=some (PySem.W.methodObj (.ref f) (.ref y))
  exact k a _ (.inl rfl) e
 | ext φ=>obtain ⟨p,⟨o,e⟩,st⟩:=x;exact ⟨st _ _ p fun o q=>k _ _ (.inl rfl) q,⟨o,k _ _ (.inl rfl) e⟩,st⟩
theorem HOk.lt (x:HOk P w H h) (e:H a=some o):a<h.objs.size:=(x a o e).lt
theorem HOk.fresh (x:HOk P w H h) (e:h.objs.size<=a):H a=none:=by
 cases q:H a with
 | none=>rfl
 | some u=>exact absurd (Nat.lt_of_lt_of_le (x.lt q) e) (Nat.lt_irrefl _)
theorem HOk.kept (x:HOk P w H h) (k:∀b u,h.get? b=some u->h'.get? b=some u):HOk P w H h':=fun a o e =>
 (x a o e).stay (fun b u _ q=>k b u q) (fun _ q=>q) fun _ _ q=>q
theorem HOk.laid (x:HOk P w H h) (k:∀b u,h.get? b=some u->h'.get? b=some u) (hp:h.objs.size<=a) (new:ObjOk P w (upd H a o) h' a o):HOk P w (upd H a o) h':=fun b u e=>by
 have hn:=x.fresh hp
 by_cases hb:b=a
 ·subst hb;rw [yn] at e;cases e;exact new
 ·rw [zD hb] at e
  exact (x b u e).stay (fun c v _ q=>k c v q) (fun c q=>by rw [zD (jo q hn)];exact q) fun c xs q=>by rw [zD (jo q hn)];exact q
end
def Rd (H:Hp) (a:Addr) (u:HO):Prop:=H a=some u\/∃o,H a=some (.frz o u)
theorem Rd.ok {P:Program}{w:World}{H:Hp}{h:Heap}{a:Addr}{u:HO}(r:Rd H a u) (x:HOk P w H h):ObjOk P w H h a u:=by
 rcases r with r|⟨o,r⟩
 ·exact x a u r
 ·obtain ⟨_,q⟩:=x a _ r
  exact q
def Mut:Option HO->Prop
 | some (.lst _)=>True
 | some (.dK _)=>True
 | some (.dT _)=>True
 | some (.set _ _)=>True
 | some (.ins _ _ _)=>True
 | some (.ext _)=>True
 | _=>False
section
variable {P:Program}{w:World}{H:Hp}{h h':Heap}{x e:Addr}{o':HO}
theorem HOk.write (ok:HOk P w H h) (mu:Mut (H x)) (he:e=x\/H e=some (.own x)) (k:∀b u,b≠e->h.get? b=some u->h'.get? b=some u) (heo:∃u,h'.get? e=some u)
  (new:ObjOk P w (upd H x o') h' x o'):HOk P w (upd H x o') h':=fun b u q=>by
 have nown:∀c y,H c=some (.own y)->c≠x:=fun c y r z=>by subst z;rw [r] at mu;exact mu
 have ntup:∀c xs,H c=some (.tup xs)->c≠x:=fun c xs r z=>by subst z;rw [r] at mu;exact mu
 by_cases hb:b=x
 ·subst hb;rw [yn] at q;cases q;exact new
 ·rw [zD hb] at q
  by_cases hbe:b=e
  ·have q':H b=some (.own x):=by
    rcases he with z|z
    ·exact absurd (hbe.trans z) hb
    ·rw [hbe];exact z
   rw [q] at q';cases q'
   obtain ⟨v,hv⟩:=heo
   exact ⟨v,by rw [hbe];exact hv⟩
  ·refine (ok b u q).stay (fun c v hc r=>k c v ?_ r) (fun c r=>by rw [zD (nown c b r)];exact r) fun c xs r=>by rw [zD (ntup c xs r)];exact r
   rcases hc with rfl|hc
   ·exact hbe
   ·rintro rfl
    rcases he with z|z
    ·exact nown c b hc z
    ·rw [hc] at z;cases z;exact hb rfl
end
structure Un (fs ex:List Addr) (H H':Hp) (h h':Heap):Prop where
 keep:∀b o,h.get? b=some o->H b=none->b∉fs->b∉ex->h'.get? b=some o
 slot:∀b o,h.get? b=some o->H b=none->b∈fs->b∉ex->∃sl,h'.get? b=some { o with slots:=sl }
 free:∀b o,h.get? b=some o->H b=none->b∉ex->H' b=none
 there:∀b o,h.get? b=some o->b∉ex->∃o',h'.get? b=some o'
 tups:∀b xs,H b=some (.tup xs)->H' b=some (.tup xs)
 frzs:∀b o u,H b=some (.frz o u)->H' b=some (.frz o u)
 tbls:∀b ps,H b=some (.tbl ps)->∃more,H' b=some (.tbl (ps++more))
section
variable {fs fs' ex ex':List Addr}{H H1 H2:Hp}{h h1 h2 h':Heap}{a x e:Addr}{o:HO}
theorem Un.any (u:Un fs ex H H1 h h1) {b:Addr}{ob:Obj}(q:h.get? b=some ob) (n:H b=none) (hx:b∉ex):∃sl,h1.get? b=some { ob with slots:=sl }:=by
 by_cases hb:b∈fs
 ·exact u.slot b ob q n hb hx
 ·exact ⟨ob.slots,u.keep b ob q n hb hx⟩
theorem Un.kept (k:∀b u,h.get? b=some u->h'.get? b=some u):Un fs ex H H h h' :=
 ⟨fun b ob q _ _ _=>k b ob q,fun b ob q _ _ _=>⟨ob.slots,k b ob q⟩,fun _ _ _ n _=>n,fun b ob q _=>⟨ob,k b ob q⟩,fun _ _ q=>q,fun _ _ _ q=>q,fun _ ps q=>⟨#[],by rw [q];simp⟩⟩
theorem Un.refl:Un fs ex H H h h:=Un.kept fun _ _ q=>q
theorem Un.laid (k:∀b u,h.get? b=some u->h'.get? b=some u) (hp:h.objs.size<=a) (hn:H a=none):Un fs ex H (upd H a o) h h' where
 keep:=fun b u q _ _ _=>k b u q
 slot:=fun b u q _ _ _=>⟨u.slots,k b u q⟩
 free:=fun b u q n _=>by rw [zD (Nat.ne_of_lt (Nat.lt_of_lt_of_le (Heap.lt_size q) hp))];exact n
 there:=fun b u q _=>⟨u,k b u q⟩
 tups:=fun b xs q=>by rw [zD (jo q hn)];exact q
 frzs:=fun b u xs q=>by rw [zD (jo q hn)];exact q
 tbls:=fun b ps q=>⟨#[],by rw [zD (jo q hn),q];simp⟩
theorem Un.write (mu:Mut (H x)) (he:e=x\/H e=some (.own x)) (k:∀b u,b≠e->h.get? b=some u->h'.get? b=some u) (heo:∃u,h'.get? e=some u):Un fs ex H (upd H x o) h h':=by
 have hx:∀b,H b=none->b≠x:=fun b n z=>by subst z;rw [n] at mu;exact mu
 have hb:∀b,H b=none->b≠e:=fun b n z=>by
  subst z
  rcases he with r|r
  ·exact hx b n r
  ·rw [n] at r;cases r
 have hm:∀b u,H b=some u->¬Mut (some u)->b≠x:=fun b u q nm z=>by subst z;rw [q] at mu;exact nm mu
 refine ⟨fun b u q n _ _=>k b u (hb b n) q,fun b u q n _ _=>⟨u.slots,k b u (hb b n) q⟩,fun b u q n _=>by rw [zD (hx b n)];exact n,fun b u q _=>?_,
  fun b xs q=>by rw [zD (hm b _ q fun z=>z)];exact q,fun b u xs q=>by rw [zD (hm b _ q fun z=>z)];exact q,fun b ps q=>⟨#[],by rw [zD (hm b _ q fun z=>z),q];simp⟩⟩
 by_cases hbe:b=e
 ·subst hbe;exact heo
 ·exact ⟨u,k b u hbe q⟩
theorem Un.mono (u:Un fs ex H H1 h h1) (hs:∀b∈fs,b∈fs') (hx:∀b∈ex,b∈ex'):Un fs' ex' H H1 h h1 :=
 ⟨fun b ob q n hb he=>u.keep b ob q n (fun z=>hb (hs b z)) fun z=>he (hx b z),fun _ _ q n _ he=>u.any q n fun z=>he (hx _ z),fun b ob q n he=>u.free b ob q n fun z=>he (hx b z),fun b ob q he=>u.there b ob q fun z=>he (hx b z),u.tups,u.frzs,u.tbls⟩
end
def trk (h:Heap) (H:Hp):List Addr:=(List.range h.objs.size).filter fun a=>(H a).isSome
def hidT (h:Heap) (H:Hp):Heap:=PySem.W.hideAll h (trk h H)
theorem zhN (h:Heap) (H:Hp):(hidT h H).objs.size=h.objs.size:=PySem.W.hideAll_size _ _
theorem zhO {h:Heap}{H:Hp}{b:Addr}{o:Obj}(e:h.get? b=some o) (n:H b=none):(hidT h H).get? b=some o :=
 PySem.W.hideAll_get _ e fun hm=>by
  have q:(H b).isSome=true:=(List.mem_filter.mp hm).2
  rw [n] at q;simp at q
theorem zhP {h:Heap}{H:Hp}{b:Addr}{o:Obj}(e:(hidT h H).get? b=some o):h.get? b=some o/\H b=none:=by
 have e':h.get? b=some o:=PySem.W.of_hideAll (trk h H) e
 refine ⟨e',?_⟩
 cases q:H b with
 | none=>rfl
 | some x =>
  have hm:b∈trk h H:=List.mem_filter.mpr ⟨List.mem_range.mpr (Heap.lt_size e'),by simp [q]⟩
  have z:(hidT h H).get? b=none:=PySem.W.hideAll_none (trk h H) hm
  rw [z] at e;cases e
def allNews (g h:Heap) (L:Addr):List (Addr×Obj):=(List.range h.objs.size).filterMap fun a=>if a=L\/(g.get? a).isSome=true then none else (h.get? a).map fun o=>(a,o)
def rest (g h:Heap) (L d:Addr):List (Addr×Obj):=(allNews g h L).filter fun p=>decide (p.1≠d)
structure Mod (K:PySem.W.Frag) (mg:Str->Option Value) (base:Heap):Prop where
 kin:K.In base
 glob:base.Ns mainGlobals mg
 blt:∃mb,base.Ns builtinsNs mb/\∀x:Str,x ≠ "__name__" -> mb x=bootBuiltins x
 nolimit:base.NoLimit
structure Cx where
 prog:Program
 w:World
 K:PySem.W.Frag
 mg:Str->Option Value
 base:Heap
 A:Around
 N:List Str
 s₀:Shared
 H₀:Hp
 env:Env
 outer:List Env
 stack:List Env
 ex:List Addr
 fn:Str->Bool
 calm:Bool
 pn:List (Addr×Obj)
 xe:Value->Shared->Prop
def frs (l:List Env):List Addr:=l.filterMap (·.frame)
abbrev Cx.fs (X:Cx):List Addr:=frs X.outer
def Vis (sc:Scope) (x:Str):Prop:=sc.names.lookup x=some .local\/sc.names.lookup x=some .cell\/sc.names.lookup x=some .free
def Loc (sc:Scope) (x:Str):Prop:=sc.names.lookup x=some .local\/sc.names.lookup x=some .cell
def Look (env:Env) (h:Heap) (m:Str->Option Value) (x:Str) (u:Value):Prop :=
 (env.kindOf x=some .local/\m x=some u)\/((env.kindOf x=some .cell\/env.kindOf x=some .free)/\∃c,env.cells.lookup x=some c/\h.IsCell c (some u))
structure Cx.Ok (X:Cx):Prop where
 mod:Mod X.K X.mg X.base
 kind:X.env.scope.kind=.function
 glob:X.env.globals=mainGlobals
 blt:X.env.builtins=builtinsNs
 above:X.s₀.heap.objs.size<=X.env.locals
 inj:∀x y c,X.env.cells.lookup x=some c->X.env.cells.lookup y=some c->x=y
 has:∀x,(X.env.kindOf x=some .cell\/X.env.kindOf x=some .free)->∃c,X.env.cells.lookup x=some c
 cab:∀x c,X.fn x=true->X.env.cells.lookup x=some c->X.s₀.heap.objs.size<=c
 hd:X.calm=true->X.A.handled=none
 frames:X.A.frames=some X.stack
 stk:X.stack=X.outer\/(X.stack=X.env::X.outer/\X.env.frame=some X.env.locals)
 exf:∀b∈X.ex,b≠X.env.locals/\∀x c,X.env.cells.lookup x=some c->c≠b
 bs:∀b o,X.base.get? b=some o->X.s₀.heap.get? b=some o/\X.H₀ b=none
 bsz:X.base.objs.size<=X.s₀.heap.objs.size
 noex:∀b o,X.base.get? b=some o->b∉X.ex
 exfs:∀b∈X.ex,b∉X.fs
 funs:X.s₀.heap.FunFrames X.base X.outer
 frf:∀b∈X.fs,X.H₀ b=none
structure Inv (X:Cx) (pins:List (Addr×Obj)) (U:List (Option V)) (H:Hp) (s:Shared):Prop where
 ok:X.Ok
 os:s.os=X.s₀.os
 bare:AllBare s.gens
 base:Un X.fs X.ex X.H₀ H X.s₀.heap s.heap
 loc:∃m,s.heap.Ns X.env.locals m/\∀(i:Nat) (x:Str) (v:V),X.N[i]?=some x->U[i]?=some (some v)->Vis X.env.scope x->∃u,RelV v u/\Look X.env s.heap m x u
 cell:∀x c,X.env.cells.lookup x=some c->∃v,s.heap.IsCell c v
 free:H X.env.locals=none
 freeC:∀x c,X.env.cells.lookup x=some c->H c=none
 pin:∀p∈X.pn++pins,s.heap.get? p.1=some p.2/\H p.1=none/\p.1≠X.env.locals/\p.1∉X.fs/\∀v,p.2.data ≠ .cell v
 hok:HOk X.prog X.w H s.heap
 len:U.length=X.N.length
section
variable {X:Cx}{pins:List (Addr×Obj)}{U:List (Option V)}{H H':Hp}{s:Shared}{h':Heap}
theorem Cx.Ok.nofr (ok:X.Ok) {b:Addr}{o:Obj}(e:X.base.get? b=some o):b∉X.fs:=fun hb=>by
 have:=(ok.funs.mem hb).1
 rw [e] at this;cases this
theorem Inv.bs (I:Inv X pins U H s):∀b o,X.base.get? b=some o->s.heap.get? b=some o/\H b=none:=fun b o e =>
 ⟨I.base.keep b o (I.ok.bs b o e).1 (I.ok.bs b o e).2 (I.ok.nofr e) (I.ok.noex b o e),I.base.free b o (I.ok.bs b o e).1 (I.ok.bs b o e).2 (I.ok.noex b o e)⟩
theorem Inv.bk (I:Inv X pins U H s):∀b o,X.base.get? b=some o->s.heap.get? b=some o:=fun b o e=>(I.bs b o e).1
theorem Inv.mod (I:Inv X pins U H s):Mod X.K X.mg X.base:=I.ok.mod
theorem Inv.kIn (I:Inv X pins U H s):X.K.In s.heap:=I.ok.mod.kin.keeps I.bk
theorem Inv.fr (I:Inv X pins U H s):∃m,Fr X.base X.env.locals s.heap m :=
 let ⟨m,hn,_⟩:=I.loc
 ⟨m,hn,I.bk,Nat.le_trans I.ok.bsz I.ok.above⟩
theorem Inv.lt (I:Inv X pins U H s):X.env.locals<s.heap.objs.size:=let ⟨_,hn,_⟩:=I.loc;hn.lt
theorem Inv.sz (I:Inv X pins U H s):X.s₀.heap.objs.size<=s.heap.objs.size:=Nat.le_trans I.ok.above (Nat.le_of_lt I.lt)
theorem Inv.nofs (I:Inv X pins U H s) {a:Addr}(h:s.heap.objs.size<=a):a∉X.fs:=fun hb=>by
 obtain ⟨_,o,ho,_⟩:=I.ok.funs.mem hb
 exact absurd (Nat.lt_of_lt_of_le (Heap.lt_size ho) (Nat.le_trans I.sz h)) (Nat.lt_irrefl _)
theorem Inv.cne (I:Inv X pins U H s):∀x c,X.env.cells.lookup x=some c->c≠X.env.locals:=fun x c e z=>by
 obtain ⟨v,o,ho,hd⟩:=I.cell x c e
 obtain ⟨m,⟨o',es,ep,ho',hd',_⟩,_⟩:=I.loc
 rw [z,ho'] at ho;cases ho;rw [hd'] at hd;cases hd
theorem Inv.funs (I:Inv X pins U H s):s.heap.FunFrames X.base X.outer:=by
 have all:∀(l:List Env),(∀b∈frs l,b∈X.fs)->X.s₀.heap.FunFrames X.base l->s.heap.FunFrames X.base l:=by
  intro l
  induction l with
  | nil=>intro _ _;trivial
  | cons env r ih =>
   intro hs hl
   obtain ⟨hk,⟨L,o,hf,hn,ho,hd⟩,hr⟩:=hl
   have hL:L∈X.fs:=hs L (by unfold frs;rw [List.filterMap_cons,hf];exact List.mem_cons_self)
   obtain ⟨sl,e⟩:=I.base.slot L o ho (I.ok.frf L hL) hL fun z=>I.ok.exfs L z hL
   exact ⟨hk,⟨L,_,hf,hn,e,hd⟩,ih (fun b hb=>hs b (by unfold frs;rw [List.filterMap_cons,hf];exact List.mem_cons_of_mem _ hb)) hr⟩
 exact all X.outer (fun _ hb=>hb) I.ok.funs
theorem Inv.stack (I:Inv X pins U H s):s.heap.FunFrames X.base X.stack:=by
 rcases I.ok.stk with e|⟨e,hf⟩
 ·rw [e];exact I.funs
 ·rw [e]
  obtain ⟨m,hn,_⟩:=I.loc
  refine .cons (by rw [I.ok.kind];decide) hf hn ?_ I.funs
  exact Heap.get?_none_of_le (Nat.le_trans I.ok.bsz I.ok.above)
theorem Inv.stkSub (I:Inv X pins U H s):∀b∈frs X.stack,b∈X.env.locals::X.fs:=fun b hb=>by
 rcases I.ok.stk with e|⟨e,hf⟩
 ·rw [e] at hb;exact List.mem_cons_of_mem _ hb
 ·rw [e] at hb
  unfold frs at hb
  rw [List.filterMap_cons,hf] at hb
  exact hb
theorem Inv.stkFree (I:Inv X pins U H s):∀b∈frs X.stack,H b=none:=fun b hb=>by
 rcases List.mem_cons.mp (I.stkSub b hb) with e|hb
 ·rw [e];exact I.free
 ·obtain ⟨_,o,ho,_⟩:=I.ok.funs.mem hb
  exact I.base.free b o ho (I.ok.frf b hb) fun z=>I.ok.exfs b z hb
theorem Inv.step {g':Array GenState}{t':Nat}{d':Drawn}{ch:List Addr}(I:Inv X pins U H s)
  (hch:∀b∈ch,(b∈X.ex\/X.s₀.heap.objs.size<=b)/\b≠X.env.locals/\(∀x c,X.env.cells.lookup x=some c->c≠b)/\∀p∈X.pn++pins,p.1≠b)
  (keep:∀b o,b≠X.env.locals->b∉X.fs->b∉ch->s.heap.get? b=some o->H b=none->h'.get? b=some o)
  (slot:∀b o,b≠X.env.locals->b∈X.fs->b∉ch->s.heap.get? b=some o->H b=none->∃sl,h'.get? b=some { o with slots:=sl }) (free:∀b o,b∉ch->s.heap.get? b=some o->H b=none->H' b=none)
  (there:∀b o,b∉ch->s.heap.get? b=some o->∃o',h'.get? b=some o')
  (tups:∀b xs,H b=some (.tup xs)->H' b=some (.tup xs)) (frzs:∀b o u,H b=some (.frz o u)->H' b=some (.frz o u)) (tbls:∀b ps,H b=some (.tbl ps)->∃more,H' b=some (.tbl (ps++more)))
  (ns:∀m,s.heap.Ns X.env.locals m->h'.Ns X.env.locals m) (hok:HOk X.prog X.w H' h') (hg:AllBare g') :
  Inv X pins U H' { s with heap:=h',gens:=g',drawn:=d',toks:=t' }:=by
 have neL:∀b o,X.s₀.heap.get? b=some o->b≠X.env.locals:=fun b o e=>Nat.ne_of_lt (Nat.lt_of_lt_of_le (Heap.lt_size e) I.ok.above)
 have neC:∀b o,X.s₀.heap.get? b=some o->b∉X.ex->b∉ch:=fun b o e hx hb=>by
  rcases (hch b hb).1 with z|z
  ·exact hx z
  ·exact absurd (Nat.lt_of_lt_of_le (Heap.lt_size e) z) (Nat.lt_irrefl _)
 have cellK:∀x c,X.env.cells.lookup x=some c->∀v,s.heap.IsCell c v->h'.IsCell c v:=fun x c e v ⟨o,ho,hd⟩=>by
  have nch:c∉ch:=fun z=>(hch c z).2.2.1 x c e rfl
  by_cases hc:c∈X.fs
  ·obtain ⟨sl,q⟩:=slot c o (I.cne x c e) hc nch ho (I.freeC x c e)
   exact ⟨_,q,hd⟩
  ·exact ⟨o,keep c o (I.cne x c e) hc nch ho (I.freeC x c e),hd⟩
 refine ⟨I.ok,I.os,hg,⟨fun b o e n hb hx=>?_,fun b o e n hb hx=>?_,fun b o e n hx=>?_,fun b o e hx=>?_,fun b xs e=>tups b xs (I.base.tups b xs e),fun b o xs e=>frzs b o xs (I.base.frzs b o xs e),fun b ps e=>?_⟩,?_,fun x c e=>?_,?_,fun x c e=>?_,fun p hp=>?_,hok,I.len⟩
 ·exact keep b o (neL b o e) hb (neC b o e hx) (I.base.keep b o e n hb hx) (I.base.free b o e n hx)
 ·obtain ⟨sl,e1⟩:=I.base.slot b o e n hb hx
  obtain ⟨sl',e2⟩:=slot b _ (neL b o e) hb (neC b o e hx) e1 (I.base.free b o e n hx)
  exact ⟨sl',e2⟩
 ·obtain ⟨o',e1⟩:=I.base.there b o e hx
  exact free b o' (neC b o e hx) e1 (I.base.free b o e n hx)
 ·obtain ⟨o',e1⟩:=I.base.there b o e hx
  exact there b o' (neC b o e hx) e1
 ·obtain ⟨m1,e1⟩:=I.base.tbls b ps e
  obtain ⟨m2,e2⟩:=tbls b _ e1
  exact ⟨m1++m2,by rw [e2,Array.append_assoc]⟩
 ·obtain ⟨m,hn,hl⟩:=I.loc
  refine ⟨m,ns m hn,fun i x v e1 e2 e3=>?_⟩
  obtain ⟨u,r,l⟩:=hl i x v e1 e2 e3
  refine ⟨u,r,?_⟩
  rcases l with l|⟨k,c,e,z⟩
  ·exact .inl l
  ·exact .inr ⟨k,c,e,cellK x c e _ z⟩
 ·obtain ⟨v,z⟩:=I.cell x c e
  exact ⟨v,cellK x c e v z⟩
 ·obtain ⟨m,⟨o,_,_,ho,_⟩,_⟩:=I.loc
  exact free _ o (fun z=>(hch _ z).2.1 rfl) ho I.free
 ·obtain ⟨v,o,ho,hd⟩:=I.cell x c e
  exact free c o (fun z=>(hch c z).2.2.1 x c e rfl) ho (I.freeC x c e)
 ·obtain ⟨e,n,ne,nf,d⟩:=I.pin p hp
  have nch:p.1∉ch:=fun z=>(hch p.1 z).2.2.2 p hp rfl
  exact ⟨keep p.1 p.2 ne nf nch e n,free p.1 p.2 nch e n,ne,nf,d⟩
theorem Inv.un {t':Nat}(I:Inv X pins U H s) (u:Un X.fs [] H H' s.heap h') (hok:HOk X.prog X.w H' h'):Inv X pins U H' { s with heap:=h',toks:=t' }:=by
 obtain ⟨m,⟨o,es,ep,ho,r⟩,_⟩:=id I.loc
 obtain ⟨sl,hL⟩:=u.any ho I.free (by simp)
 exact I.step (g':=s.gens) (d':=s.drawn) (ch:=[]) (fun _ z=>nomatch z) (fun b o _ hb _ e n=>u.keep b o e n hb (by simp)) (fun b o _ hb _ e n=>u.slot b o e n hb (by simp)) (fun b o _ e n=>u.free b o e n (by simp)) (fun b o _ e=>u.there b o e (by simp)) u.tups u.frzs u.tbls (fun m' hm=>by
  obtain ⟨o',es',ep',ho',r'⟩:=hm
  rw [ho] at ho';cases ho'
  exact ⟨_,es',ep',hL,r'⟩) hok I.bare
theorem Inv.call {g':Array GenState}{t':Nat}{d':Drawn}{ch:List Addr}(I:Inv X pins U H s) (u:Un (frs X.stack) ch H H' s.heap h') (hok:HOk X.prog X.w H' h') (hg:AllBare g')
  (hch:∀b∈ch,(b∈X.ex\/X.s₀.heap.objs.size<=b)/\b≠X.env.locals/\(∀x c,X.env.cells.lookup x=some c->c≠b)/\∀p∈X.pn++pins,p.1≠b) :
  Inv X pins U H' { s with heap:=h',gens:=g',drawn:=d',toks:=t' }:=by
 obtain ⟨m,⟨o,es,ep,ho,r⟩,_⟩:=id I.loc
 obtain ⟨sl,hL⟩:=u.any ho I.free fun z=>(hch _ z).2.1 rfl
 exact I.step (ch:=ch) hch (fun b o hL hb hc e n=>u.keep b o e n (fun z=>(List.mem_cons.mp (I.stkSub b z)).elim hL hb) hc) (fun b o _ _ hc e n=>u.any e n hc) (fun b o hc e n=>u.free b o e n hc) (fun b o hc e=>u.there b o e hc) u.tups u.frzs u.tbls (fun m' hm=>by
  obtain ⟨o',es',ep',ho',r'⟩:=hm
  rw [ho] at ho';cases ho'
  exact ⟨_,es',ep',hL,r'⟩) hok hg
theorem Inv.turned {t':Nat}{it:Addr}(I:Inv X pins U H s) (k:∀b o,b≠it->s.heap.get? b=some o->h'.get? b=some o) (hn:H it=none) (hL:it≠X.env.locals)
  (h1:it∈X.ex\/X.s₀.heap.objs.size<=it) (h2:∀x c,X.env.cells.lookup x=some c->c≠it) (h3:∀p∈X.pn++pins,p.1≠it):Inv X pins U H { s with heap:=h',toks:=t' }:=by
 have nit:∀b u,H b=some u->b≠it:=fun b u e z=>by rw [z,hn] at e;cases e
 refine I.step (g':=s.gens) (d':=s.drawn) (ch:=[it]) (fun b hb=>?_) (fun b o _ _ hc e _=>k b o (fun z=>hc (by simp [z])) e) (fun b o _ _ hc e _=>⟨o.slots,k b o (fun z=>hc (by simp [z])) e⟩) (fun _ _ _ _ n=>n)
  (fun b o hc e=>⟨o,k b o (fun z=>hc (by simp [z])) e⟩) (fun _ _ e=>e) (fun _ _ _ e=>e) (fun b ps e=>⟨#[],by rw [e];simp⟩) (fun m hm=>?_) (fun b u e=>?_) I.bare
 ·have e:b=it:=by simpa using hb
  subst e
  exact ⟨h1,hL,h2,h3⟩
 ·obtain ⟨o,es,ep,ho,r⟩:=hm
  exact ⟨o,es,ep,k _ o (Ne.symm hL) ho,r⟩
 ·refine (I.hok b u e).stay (fun c v hc q=>k c v ?_ q) (fun _ q=>q) fun _ _ q=>q
  rcases hc with z|z
  ·rw [z];exact nit b u e
  ·exact nit c _ z
theorem Inv.tok (I:Inv X pins U H s) (t:Nat):Inv X pins U H { s with toks:=t }:=I.un (h':=s.heap) (t':=t) Un.refl I.hok
theorem Inv.kept {t':Nat}(I:Inv X pins U H s) (k:∀b u,s.heap.get? b=some u->h'.get? b=some u):Inv X pins U H { s with heap:=h',toks:=t' }:=I.un (Un.kept k) (I.hok.kept k)
theorem Inv.laid {a:Addr}{o:HO}{t':Nat}(I:Inv X pins U H s) (k:∀b u,s.heap.get? b=some u->h'.get? b=some u) (hp:s.heap.objs.size<=a) (new:ObjOk X.prog X.w (upd H a o) h' a o) :
  Inv X pins U (upd H a o) { s with heap:=h',toks:=t' }:=I.un (Un.laid k hp (I.hok.fresh hp)) (I.hok.laid k hp new)
theorem Inv.write {x e:Addr}{o:HO}{t':Nat}(I:Inv X pins U H s) (mu:Mut (H x)) (he:e=x\/H e=some (.own x)) (k:∀b u,b≠e->s.heap.get? b=some u->h'.get? b=some u) (heo:∃u,h'.get? e=some u)
  (new:ObjOk X.prog X.w (upd H x o) h' x o):Inv X pins U (upd H x o) { s with heap:=h',toks:=t' }:=I.un (Un.write mu he k heo) (I.hok.write mu he k heo new)
theorem Inv.weak {ah:List (Option V)}(I:Inv X pins U H s) (hl:ah.length=U.length) (w:∀(i:Nat) v,ah[i]?=some (some v)->U[i]?=some (some v)):Inv X pins ah H s :=
 ⟨I.ok,I.os,I.bare,I.base,let ⟨m,hn,hl'⟩:=I.loc;⟨m,hn,fun i x v e1 e2 e3=>hl' i x v e1 (w i v e2) e3⟩,I.cell,I.free,I.freeC,I.pin,I.hok,hl.trans I.len⟩
theorem Inv.pins_of {pins':List (Addr×Obj)}(I:Inv X pins U H s) (h:∀p∈pins',s.heap.get? p.1=some p.2/\H p.1=none/\p.1≠X.env.locals/\p.1∉X.fs/\∀v,p.2.data ≠ .cell v):Inv X pins' U H s :=
 ⟨I.ok,I.os,I.bare,I.base,I.loc,I.cell,I.free,I.freeC,fun p hp=>(List.mem_append.mp hp).elim (fun z=>I.pin p (List.mem_append_left _ z)) (h p),I.hok,I.len⟩
theorem zef {N:List Str}(hN:N.Nodup) {i j:Nat}{x:Str}(a:N[i]?=some x) (b:N[j]?=some x):i=j:=by
 obtain ⟨h1,e1⟩:=List.getElem?_eq_some_iff.mp a
 obtain ⟨h2,e2⟩:=List.getElem?_eq_some_iff.mp b
 exact (List.getElem_inj hN).mp (e1.trans e2.symm)
theorem zhQ {M:Model}{A:Around}{E:Value->Shared->Prop}{i:Nat}{x:Str}{v:V}{u:Value}{Q:Unit->Shared->Prop}(I:Inv X pins U H s) (hN:X.N.Nodup) (hi:X.N[i]?=some x) (hx:Loc X.env.scope x) (r:RelV v u)
  (h:∀s',Inv X pins (U.set i (some v)) H s'->(∃a,Heap.SameBut a s.heap s'.heap/\(a=X.env.locals\/X.env.cells.lookup x=some a))->Q () s') (hf:X.fn x=true\/X.env.scope.names.lookup x=some .local:=by first|exact .inl rfl|exact .inr rfl|assumption):wpAny M A (storeName X.env x u) Q E s:=by
 obtain ⟨m,hn,hl⟩:=id I.loc
 have hcls:(X.env.scope.kind == .class||(X.env.scope.kind == .module&&X.env.locals != X.env.globals))=false:=by rw [I.ok.kind];rfl
 have aD:i<U.length:=by rw [I.len];exact (List.getElem?_eq_some_iff.mp hi).1
 have cne:=I.cne
 have tracked:∀{a:Addr} {h':Heap},(∃o,s.heap.get? a=some o/\H a=none)->Heap.SameBut a s.heap h'->HOk X.prog X.w H h':=fun {a h'} ha hs b ob e=>by
  obtain ⟨_,_,hfree⟩:=ha
  refine (I.hok b ob e).stay (fun c w' hc q=>(hs.2 c ?_).trans q) (fun _ q=>q) fun _ _ q=>q
  rintro rfl
  rcases hc with rfl|hc
  ·rw [hfree] at e;cases e
  ·rw [hfree] at hc;cases hc
 rcases hx with hk|hk
 ·refine wpAny_storeName_local hk hn (fun h' hn' hs=>?_) hcls
  obtain ⟨oL,_,_,hoL,_⟩:=id hn
  refine h _ ⟨I.ok,I.os,I.bare,⟨fun b o e n hb hx=>?_,fun b o e n hb hx=>?_,I.base.free,fun b o e hx=>?_,I.base.tups,I.base.frzs,I.base.tbls⟩,⟨_,hn',fun j y v' e1 e2 e3=>?_⟩,fun y c e=>?_,I.free,I.freeC,fun p hp=>?_,tracked ⟨oL,hoL,I.free⟩ hs,by simpa using I.len⟩ ⟨_,hs,.inl rfl⟩
  ·exact (hs.2 b (Nat.ne_of_lt (Nat.lt_of_lt_of_le (Heap.lt_size e) I.ok.above))).trans (I.base.keep b o e n hb hx)
  ·obtain ⟨sl,e1⟩:=I.base.slot b o e n hb hx
   exact ⟨sl,(hs.2 b (Nat.ne_of_lt (Nat.lt_of_lt_of_le (Heap.lt_size e) I.ok.above))).trans e1⟩
  ·obtain ⟨o',e1⟩:=I.base.there b o e hx
   exact ⟨o',(hs.2 b (Nat.ne_of_lt (Nat.lt_of_lt_of_le (Heap.lt_size e) I.ok.above))).trans e1⟩
  ·by_cases hj:j=i
   ·subst hj
    rw [hi] at e1;cases e1
    rw [List.getElem?_set_self aD] at e2
    cases e2
    exact ⟨u,r,.inl ⟨hk,by simp⟩⟩
   ·rw [List.getElem?_set_ne (Ne.symm hj)] at e2
    obtain ⟨u',r',q⟩:=hl j y v' e1 e2 e3
    refine ⟨u',r',?_⟩
    rcases q with ⟨k,e⟩|⟨k,c,e,z⟩
    ·refine .inl ⟨k,?_⟩
     have:y≠x:=fun e=>hj (zef hN e1 (e▸hi))
     simp [this,e]
    ·exact .inr ⟨k,c,e,z.sameBut hs (cne y c e)⟩
  ·obtain ⟨w',z⟩:=I.cell y c e
   exact ⟨w',z.sameBut hs (cne y c e)⟩
  ·obtain ⟨e,n,ne,nf,d⟩:=I.pin p hp
   exact ⟨(hs.2 p.1 ne).trans e,n,ne,nf,d⟩
 ·have hfn:X.fn x=true:=by
   rcases hf with z|z
   ·exact z
   ·rw [z] at hk;cases hk
  obtain ⟨c,hc⟩:=I.ok.has x (.inl hk)
  obtain ⟨w',z⟩:=I.cell x c hc
  refine wpAny_storeName_cell I.ok.kind hk hc z (fun h' hc' hs=>?_)
  obtain ⟨oc,hoc,hocd⟩:=id z
  refine h { s with heap:=h' } ⟨I.ok,I.os,I.bare,⟨fun b o e n hb hx=>?_,fun b o e n hb hx=>?_,I.base.free,fun b o e hx=>?_,I.base.tups,I.base.frzs,I.base.tbls⟩,⟨m,hn.sameBut hs (Ne.symm (cne x c hc)),fun j y v' e1 e2 e3=>?_⟩,fun y c' e=>?_,I.free,I.freeC,fun p hp=>?_,tracked ⟨oc,hoc,I.freeC x c hc⟩ hs,by simpa using I.len⟩ ⟨c,hs,.inr hc⟩
  ·exact (hs.2 b (Nat.ne_of_lt (Nat.lt_of_lt_of_le (Heap.lt_size e) (I.ok.cab x c hfn hc)))).trans (I.base.keep b o e n hb hx)
  ·obtain ⟨sl,e1⟩:=I.base.slot b o e n hb hx
   exact ⟨sl,(hs.2 b (Nat.ne_of_lt (Nat.lt_of_lt_of_le (Heap.lt_size e) (I.ok.cab x c hfn hc)))).trans e1⟩
  ·obtain ⟨o',e1⟩:=I.base.there b o e hx
   exact ⟨o',(hs.2 b (Nat.ne_of_lt (Nat.lt_of_lt_of_le (Heap.lt_size e) (I.ok.cab x c hfn hc)))).trans e1⟩
  ·by_cases hj:j=i
   ·subst hj
    rw [hi] at e1;cases e1
    rw [List.getElem?_set_self aD] at e2
    cases e2
    exact ⟨u,r,.inr ⟨.inl hk,c,hc,hc'⟩⟩
   ·rw [List.getElem?_set_ne (Ne.symm hj)] at e2
    obtain ⟨u',r',q⟩:=hl j y v' e1 e2 e3
    refine ⟨u',r',?_⟩
    rcases q with q|⟨k,c',e,z'⟩
    ·exact .inl q
    ·refine .inr ⟨k,c',e,z'.sameBut hs ?_⟩
     rintro rfl
     exact hj (zef hN e1 (I.ok.inj _ _ _ e hc▸hi))
  ·by_cases hcc:c'=c
   ·subst hcc;exact ⟨_,hc'⟩
   ·obtain ⟨w2,z2⟩:=I.cell y c' e
    exact ⟨w2,z2.sameBut hs hcc⟩
  ·obtain ⟨e,n,ne,nf,d⟩:=I.pin p hp
   refine ⟨(hs.2 p.1 ?_).trans e,n,ne,nf,d⟩
   intro q
   rw [q,hoc] at e
   have q':oc=p.2:=Option.some.inj e
   exact d w' (by rw [<-q'];exact hocd)
theorem zcs {M:Model}{A:Around}{E:Value->Shared->Prop}{i:Nat}{x:Str}{v:V}{u:Value}{Q:Unit->Shared->Prop}(I:Inv X pins U H s) (hN:X.N.Nodup) (hi:X.N[i]?=some x) (hx:Loc X.env.scope x) (r:RelV v u)
  (h:∀s',Inv X pins (U.set i (some v)) H s'->Q () s') (hf:X.fn x=true\/X.env.scope.names.lookup x=some .local:=by first|exact .inl rfl|exact .inr rfl|assumption):wpAny M A (storeName X.env x u) Q E s :=
 zhQ I hN hi hx r (fun s' I' _=>h s' I') hf
theorem Inv.call' {s':Shared}{ch:List Addr}(I:Inv X pins U H s) (ho:s'.os=s.os) (u:Un (frs X.stack) ch H H' s.heap s'.heap) (hok:HOk X.prog X.w H' s'.heap) (hg:AllBare s'.gens)
  (hch:∀b∈ch,(b∈X.ex\/X.s₀.heap.objs.size<=b)/\b≠X.env.locals/\(∀x c,X.env.cells.lookup x=some c->c≠b)/\∀p∈X.pn++pins,p.1≠b):Inv X pins U H' s':=by
 obtain ⟨h',g',d',t',o'⟩:=s'
 have e:o'=s.os:=ho
 subst e
 exact I.call (g':=g') (t':=t') (d':=d') u hok hg hch
end
abbrev XK:=Value->Option Addr->Hp->Prop
abbrev St:=List (Option V)
abbrev VK:=V->Hp->Prop
abbrev TE:=St->Hp->VK->Prop
abbrev TT:=St->Hp->(Bool->Hp->Prop)->Prop
abbrev TA:=St->Hp->(List V->Hp->Prop)->Prop
structure Ends where
 nx:St->Hp->Prop
 rt:VK
 bk:St->Hp->Prop:=fun _ _=>False
 ct:St->Hp->Prop:=fun _ _=>False
abbrev TS:=Ends->St->Hp->Prop
def EP (X:Cx) (pins:List (Addr×Obj)) (U:St) (Q:VK) (u:Value) (s':Shared):Prop:=∃v H',Inv X pins U H' s'/\RelV v u/\Q v H'
def TP (X:Cx) (pins:List (Addr×Obj)) (U:St) (Q:Bool->Hp->Prop) (b:Bool) (s':Shared):Prop:=∃H',Inv X pins U H' s'/\Q b H'
def AP (X:Cx) (pins:List (Addr×Obj)) (U:St) (Q:List V->Hp->Prop) (us:List Value) (s':Shared):Prop:=∃vs H',Inv X pins U H' s'/\Vals vs us/\Q vs H'
def SP (X:Cx) (pins:List (Addr×Obj)) (D:Ends) (f:Flow) (s':Shared):Prop :=
 match f with
 | .next=>∃ah H',Inv X pins ah H' s'/\D.nx ah H'
 | .brk=>∃ah H',Inv X pins ah H' s'/\D.bk ah H'
 | .cont=>∃ah H',Inv X pins ah H' s'/\D.ct ah H'
 | .ret u=>∃v ah H',Inv X pins ah H' s'/\RelV v u/\D.rt v H'
def PE (X:Cx) (e:Expr) (t:TE):Prop :=
 ∀(pins:List (Addr×Obj)) (s:Shared) (U:St) (H:Hp) (Q:VK),Inv X pins U H s->t U H Q->wpAny (model X.prog X.w) X.A (eval e X.env) (EP X pins U Q) X.xe s
def PT (X:Cx) (e:Expr) (t:TT):Prop :=
 ∀(pins:List (Addr×Obj)) (s:Shared) (U:St) (H:Hp) (Q:Bool->Hp->Prop),Inv X pins U H s->t U H Q->wpAny (model X.prog X.w) X.A (isTrue e X.env (eval e X.env)) (TP X pins U Q) X.xe s
def PW (X:Cx) (e:Expr) (t:TT):Prop :=
 ∀(whole:Sem Value) (pins:List (Addr×Obj)) (s:Shared) (U:St) (H:Hp) (Q:Bool->Hp->Prop),Inv X pins U H s->t U H Q->wpAny (model X.prog X.w) X.A (isTrue e X.env whole) (TP X pins U Q) X.xe s
theorem PW.pt {X:Cx}{e:Expr}{t:TT}(h:PW X e t):PT X e t:=h _
def PA (X:Cx) (es:List Expr) (t:TA):Prop :=
 ∀(pos:Pos) (pins:List (Addr×Obj)) (s:Shared) (U:St) (H:Hp) (Q:List V->Hp->Prop),Inv X pins U H s->t U H Q->wpAny (model X.prog X.w) X.A (spliced (backTo pos (starEach es X.env))) (AP X pins U Q) X.xe s
def PS (X:Cx) (st:Stmt) (t:TS):Prop :=
 ∀(pins:List (Addr×Obj)) (s:Shared) (U:St) (H:Hp) (D:Ends),Inv X pins U H s->t D U H->wpAny (model X.prog X.w) X.A (exec st X.env) (SP X pins D) X.xe s
def PSs (X:Cx) (st:List Stmt) (t:TS):Prop :=
 ∀(pins:List (Addr×Obj)) (s:Shared) (U:St) (H:Hp) (D:Ends),Inv X pins U H s->t D U H->wpAny (model X.prog X.w) X.A (execs st X.env) (SP X pins D) X.xe s
theorem thn {α:Type}{t:Sem α}{Q Q':α->Shared->Prop}{M:Model}{A:Around}{E:Value->Shared->Prop}{s:Shared}(h:wpAny M A t Q E s) (hQ:∀a s,Q a s->Q' a s):wpAny M A t Q' E s:=wpAny_mono h hQ fun _ _ x=>x
section
variable {X:Cx}
def zhR (i:Nat):TE:=fun U H Q=>∃v,U[i]?=some (some v)/\Q v H
def tC (v:V):TE:=fun _ H Q=>Q v H
theorem zhS {i:Nat} {x:Str} {pos:Pos} (hN:X.N[i]?=some x) (hv:Vis X.env.scope x) (hd:(x==("__debug__" : Str))=false:=by decide) (hcd:(x==("__classdict__" : Str))=false:=by decide):PE X (.Name x pos) (zhR i):=by
 intro pins s U H Q I h
 obtain ⟨v,e,h⟩:=h
 obtain ⟨m,hn,hl⟩:=I.loc
 obtain ⟨u,r,l⟩:=hl i x v hN e hv
 have fin:EP X pins U Q u s:=⟨v,H,I,r,h⟩
 rcases l with ⟨hk,hm⟩|⟨hk,c,hc,hcell⟩
 ·exact wpAny_Name (wpAny_loadName_local I.ok.kind hk hn hm fin) hd
 ·rcases hk with hk|hk
  ·exact wpAny_Name (wpAny_loadName_cell I.ok.kind hk hc hcell fin) hd
  ·exact wpAny_Name (wpAny_loadName_free I.ok.kind hk hc hcell fin hcd) hd
theorem zhT {i j pos}:PE X (.Constant (.int i) j pos) (tC (.int i)):=fun _ _ _ H _ I h=>wpAny_Constant_int ⟨.int i,H,I.tok _,⟨_,rfl⟩,h⟩
theorem zhU {b j pos}:PE X (.Constant (.bool b) j pos) (tC (.bl b)):=fun _ _ _ H _ I h=>Constant_bool ⟨.bl b,H,I,rfl,h⟩
theorem zhV {x j pos}:PE X (.Constant (.str x) j pos) (tC (.str x)):=fun _ _ _ H _ I h=>Calls.Constant_str ⟨.str x,H,I.tok _,⟨_,rfl⟩,h⟩
def Gl (X:Cx) (x:Str):Prop:=X.env.kindOf x=some .globalImplicit
theorem zct {E:Value->Shared->Prop}{pins:List (Addr×Obj)}{s:Shared}{U:St}{H:Hp}{x:Str}{u:Value}{pos:Pos}{Q:Value->Shared->Prop}(I:Inv X pins U H s) (hg:Gl X x) (hm:X.mg x=some u) (h:Q u s)
  (hd:(x==("__debug__" : Str))=false:=by decide):wpAny (model X.prog X.w) X.A (eval (.Name x pos) X.env) Q E s :=
 Calls.Name_function_global I.ok.kind hg (Calls.loadGlobal_global (by rw [I.ok.glob];exact I.mod.glob.keeps I.bk) hm h) hd
theorem wZ {E:Value->Shared->Prop}{pins:List (Addr×Obj)}{s:Shared}{U:St}{H:Hp}{x:Str}{u:Value}{pos:Pos}{Q:Value->Shared->Prop}(I:Inv X pins U H s) (hg:Gl X x) (hm:X.mg x=none) (hv:bootBuiltins x=some u) (h:Q u s)
  (hn:x ≠ "__name__" := by decide) (hd:(x==("__debug__" : Str))=false:=by decide):wpAny (model X.prog X.w) X.A (eval (.Name x pos) X.env) Q E s:=by
 obtain ⟨mb,h1,h2⟩:=I.mod.blt
 exact Calls.Name_function_global I.ok.kind hg (Calls.loadGlobal_builtin (by rw [I.ok.glob];exact I.mod.glob.keeps I.bk) hm (by rw [I.ok.blt];exact h1.keeps I.bk) ((h2 x hn).trans hv) h) hd
theorem zhW {x:Str} {v:V} {u:Value} {pos:Pos} (hg:Gl X x) (hm:X.mg x=some u) (r:RelV v u) (hd:(x==("__debug__" : Str))=false:=by decide):PE X (.Name x pos) (tC v) :=
 fun _ _ _ H _ I h=>zct I hg hm ⟨v,H,I,r,h⟩ hd
theorem zhX {x:Str} {v:V} {u:Value} {pos:Pos} (hg:Gl X x) (hm:X.mg x=none) (hv:bootBuiltins x=some u) (r:RelV v u) (hn:x ≠ "__name__" := by decide) (hd:(x==("__debug__" : Str))=false:=by decide):PE X (.Name x pos) (tC v) :=
 fun _ _ _ H _ I h=>wZ I hg hm hv ⟨v,H,I,r,h⟩ hn hd
variable {a b:Expr}{ta tb:TE}{pos:Pos}
def tB (t:TE):TT:=fun U H Q=>t U H fun x H1=>∃c,x=.bl c/\Q c H1
theorem zhY {e:Expr}{t:TE}(h:PE X e t) (he:∀whole,isTrue e X.env whole=(do let v <-whole;standAt e.pos;holding [v] (truthy v)):=by intro _;rfl):PT X e (tB t):=by
 intro pins s U H Q I hw
 refine isTrue_plain (thn (h pins s U H _ I hw) fun v s1 ⟨x,H1,I1,r1,q1⟩=>?_) (he _)
 obtain ⟨d,rfl,q⟩:=q1
 cases r1
 exact wpAny_truthy_bool ⟨H1,I1,q⟩
variable {tA tB':TT}{rest:List Expr}
def zhZ (t u:TT):TT:=fun U H Q=>t U H fun c H1=>if c=true then u U H1 Q else Q false H1
def tOr (t u:TT):TT:=fun U H Q=>t U H fun c H1=>if c=true then Q true H1 else u U H1 Q
def zh1 (t:TT):TT:=fun U H Q=>t U H fun c H1=>Q (!c) H1
theorem zh2 (ha:PT X a tA):PW X (.BoolOp .And [a] pos) tA:=by
 intro wh pins s U H Q I h
 refine isTrue_and (thn (ha pins s U H Q I h) fun c s1 e=>?_)
 cases c with
 | true=>exact isTrue_and_nil e
 | false=>exact e
theorem zh3 (ha:PT X a tA):PW X (.BoolOp .Or [a] pos) tA:=by
 intro wh pins s U H Q I h
 refine isTrue_or (thn (ha pins s U H Q I h) fun c s1 e=>?_)
 cases c with
 | false=>exact isTrue_or_nil e
 | true=>exact e
theorem zh4 (ha:PT X a tA) (hb:PW X (.BoolOp .And (b::rest) pos) tB'):PW X (.BoolOp .And (a::b::rest) pos) (zhZ tA tB'):=by
 intro wh pins s U H Q I h
 refine isTrue_and (thn (ha pins s U H _ I h) fun c s1 ⟨H1,I1,q1⟩=>?_)
 cases c with
 | true=>exact hb wh pins s1 U H1 Q I1 q1
 | false=>exact ⟨H1,I1,q1⟩
theorem zh5 (ha:PT X a tA) (hb:PW X (.BoolOp .Or (b::rest) pos) tB'):PW X (.BoolOp .Or (a::b::rest) pos) (tOr tA tB'):=by
 intro wh pins s U H Q I h
 refine isTrue_or (thn (ha pins s U H _ I h) fun c s1 ⟨H1,I1,q1⟩=>?_)
 cases c with
 | true=>exact ⟨H1,I1,q1⟩
 | false=>exact hb wh pins s1 U H1 Q I1 q1
theorem zh6 (ha:PT X a tA):PT X (.UnaryOp .Not a pos) (zh1 tA):=by
 intro pins s U H Q I h
 exact isTrue_not (ha pins s U H (fun c H1=>Q (!c) H1) I h)
def zh7 (ta tb:TE):TE:=fun U H Q=>ta U H fun x H1=>∃c,x=.bl c/\if c=true then tb U H1 Q else Q (.bl false) H1
def zh8 (ta:TE):TE:=fun U H Q=>ta U H fun x H1=>∃c,x=.bl c/\Q (.bl (!c)) H1
theorem zh9 {op}{t:TE}(h:PE X a t):PE X (.BoolOp op [a] pos) t:=fun pins s U H Q I hw=>BoolOp_one (h pins s U H Q I hw)
theorem zia (ha:PE X a ta) (hb:PE X (.BoolOp .And (b::rest) pos) tb):PE X (.BoolOp .And (a::b::rest) pos) (zh7 ta tb):=by
 intro pins s U H Q I h
 refine BoolOp_and (thn (ha pins s U H _ I h) fun v s1 ⟨x,H1,I1,r1,q1⟩=>?_)
 obtain ⟨c,rfl,q1⟩:=q1
 cases r1
 refine wpAny_truthy_bool ?_
 cases c with
 | true=>exact hb pins s1 U H1 Q I1 q1
 | false=>exact ⟨.bl false,H1,I1,rfl,q1⟩
theorem zib (ha:PE X a ta):PE X (.UnaryOp .Not a pos) (zh8 ta):=by
 intro pins s U H Q I h
 refine UnaryOp_ (thn (ha pins s U H _ I h) fun v s1 ⟨x,H1,I1,r1,q1⟩=>?_)
 obtain ⟨c,rfl,q1⟩:=q1
 cases r1
 exact not_of (wpAny_truthy_bool ⟨.bl (!c),H1,I1,rfl,q1⟩)
def tIf (t:TT) (ta tb:TE):TE:=fun U H Q=>t U H fun c H1=>if c=true then ta U H1 Q else tb U H1 Q
theorem zid {c:Expr}(hc:PT X c tA) (ha:PE X a ta) (hb:PE X b tb):PE X (.IfExp c a b pos) (tIf tA ta tb):=by
 intro pins s U H Q I h
 refine wpAny_IfExp (thn (hc pins s U H _ I h) fun d s1 ⟨H1,I1,q1⟩=>?_)
 cases d with
 | true=>exact ha pins s1 U H1 Q I1 q1
 | false=>exact hb pins s1 U H1 Q I1 q1
end
def SqL (K:PySem.W.Frag) (H:Hp) (a:Addr) (xs:List V):Prop :=
 Rd H a (.lst xs) \/
  ∃(o:Obj) (its:Array Value) (n:Nat),K.lookup a=some o/\o.cls=.type "list" /\ o.dict=none/\o.data=.seq its n/\its.size<=sizeLine/\Vals xs its.toList
def SqT (K:PySem.W.Frag) (H:Hp) (a:Addr) (xs:List V):Prop :=
 Rd H a (.tup xs) \/
  ∃(o:Obj) (its:Array Value) (n:Nat),K.lookup a=some o/\o.cls=.type "tuple" /\ o.data=.seq its n/\its.size<=sizeLine/\Vals xs its.toList
def absV:Value->Option V
 | .none=>some .non
 | .bool b=>some (.bl b)
 | .int i _=>some (.int i)
 | .str x _=>some (.str x)
 | .bytes b _=>some (.byt b)
 | .float b _=>some (.flt b)
 | .ref a=>some (.ref a)
 | .type n=>some (.ty n)
 | _=>none
theorem RelV.abs {x:V}{u:Value}(r:RelV x u):absV u=some x:=by
 cases x with
 | non=>cases r;rfl
 | bl _=>cases r;rfl
 | int _=>obtain ⟨t,rfl⟩:=r;rfl
 | str _=>obtain ⟨t,rfl⟩:=r;rfl
 | byt _=>obtain ⟨t,rfl⟩:=r;rfl
 | flt _=>obtain ⟨t,rfl⟩:=r;rfl
 | ref _=>cases r;rfl
 | ty _=>cases r;rfl
theorem RelV.inj {x y:V}{u:Value}(r:RelV x u) (q:RelV y u):x=y:=Option.some.inj (r.abs.symm.trans q.abs)
theorem Vals.inj:∀{xs ys:List V}{us:List Value},Vals xs us->Vals ys us->xs=ys
 | _,_,_,.nil,.nil=>rfl
 | _,_,_,.cons r t,.cons r' t'=>by rw [r.inj r',Vals.inj t t']
section
variable {X:Cx}{pins:List (Addr×Obj)}{U:St}{H:Hp}{s:Shared}{a:Addr}{xs ys:List V}
theorem SqL.of {K:PySem.W.Frag}(h:H a=some (.lst xs)):SqL K H a xs:=.inl (.inl h)
theorem SqT.of {K:PySem.W.Frag}(h:H a=some (.tup xs)):SqT K H a xs:=.inl (.inl h)
theorem Inv.list (I:Inv X pins U H s) (h:SqL X.K H a xs):∃its:List Value,Vals xs its/\PlainL s.heap a its.toArray/\xs.length<=sizeLine:=by
 rcases h with h|⟨o,its,n,hk,hc,hd,hs,hz,r⟩
 ·obtain ⟨z,its,n,r,e⟩:=h.ok I.hok
  exact ⟨its,r,⟨_,n,e,rfl,rfl,rfl⟩,z⟩
 ·refine ⟨its.toList,r,⟨o,n,I.kIn a o hk,hc,hd,by simpa using hs⟩,?_⟩
  have e:=r.length
  simp only [Array.length_toList] at e
  omega
theorem Inv.tuple (I:Inv X pins U H s) (h:SqT X.K H a xs):∃its:List Value,Vals xs its/\IsTup s.heap a its.toArray/\xs.length<=sizeLine:=by
 rcases h with h|⟨o,its,n,hk,hc,hs,hz,r⟩
 ·obtain ⟨z,its,r,p⟩:=h.ok I.hok
  exact ⟨its,r,p,z⟩
 ·refine ⟨its.toList,r,⟨o,I.kIn a o hk,hc,n,by simpa using hs⟩,?_⟩
  have e:=r.length
  simp only [Array.length_toList] at e
  omega
theorem Inv.list_inj (I:Inv X pins U H s) (h:SqL X.K H a xs) (h':SqL X.K H a ys):xs=ys:=by
 obtain ⟨its,r,⟨o,n,e,_,_,d⟩,_⟩:=I.list h
 obtain ⟨its',r',⟨o',n',e',_,_,d'⟩,_⟩:=I.list h'
 rw [e] at e';cases e'
 rw [d] at d'
 injection d' with d1 _
 have:its=its':=by simpa using congrArg Array.toList d1
 subst this
 exact r.inj r'
theorem Inv.tuple_inj (I:Inv X pins U H s) (h:SqT X.K H a xs) (h':SqT X.K H a ys):xs=ys:=by
 obtain ⟨its,r,⟨o,e,_,n,d⟩,_⟩:=I.tuple h
 obtain ⟨its',r',⟨o',e',_,n',d'⟩,_⟩:=I.tuple h'
 rw [e] at e';cases e'
 rw [d] at d'
 injection d' with d1 _
 have:its=its':=by simpa using congrArg Array.toList d1
 subst this
 exact r.inj r'
end
abbrev Cx.wish (X:Cx) (E:Value->Shared->Prop):Cx:={ X with xe:=E }
abbrev Cx.nox (X:Cx):Cx:=X.wish fun _ _=>False
theorem Cx.Ok.wish {X:Cx}(ok:X.Ok) (E:Value->Shared->Prop):(X.wish E).Ok :=
 ⟨ok.mod,ok.kind,ok.glob,ok.blt,ok.above,ok.inj,ok.has,ok.cab,ok.hd,ok.frames,ok.stk,ok.exf,ok.bs,ok.bsz,ok.noex,ok.exfs,ok.funs,ok.frf⟩
theorem Cx.Ok.unwish {X:Cx}{E:Value->Shared->Prop}(ok:(X.wish E).Ok):X.Ok :=
 ⟨ok.mod,ok.kind,ok.glob,ok.blt,ok.above,ok.inj,ok.has,ok.cab,ok.hd,ok.frames,ok.stk,ok.exf,ok.bs,ok.bsz,ok.noex,ok.exfs,ok.funs,ok.frf⟩
section
variable {X:Cx}{pins:List (Addr×Obj)}{U:St}{H:Hp}{s:Shared}{E:Value->Shared->Prop}
theorem Inv.wish (I:Inv X pins U H s) (E:Value->Shared->Prop):Inv (X.wish E) pins U H s:=⟨I.ok.wish E,I.os,I.bare,I.base,I.loc,I.cell,I.free,I.freeC,I.pin,I.hok,I.len⟩
theorem Inv.unwish (I:Inv (X.wish E) pins U H s):Inv X pins U H s:=⟨I.ok.unwish,I.os,I.bare,I.base,I.loc,I.cell,I.free,I.freeC,I.pin,I.hok,I.len⟩
theorem SP.unwish {D:Ends}{f:Flow}{s':Shared}(h:SP (X.wish E) pins D f s'):SP X pins D f s':=by
 cases f with
 | next=>obtain ⟨ah,H',I,q⟩:=h;exact ⟨ah,H',I.unwish,q⟩
 | brk=>obtain ⟨ah,H',I,q⟩:=h;exact ⟨ah,H',I.unwish,q⟩
 | cont=>obtain ⟨ah,H',I,q⟩:=h;exact ⟨ah,H',I.unwish,q⟩
 | ret u=>obtain ⟨v,ah,H',I,r,q⟩:=h;exact ⟨v,ah,H',I.unwish,r,q⟩
theorem PE.nox {e:Expr}{t:TE}(h:PE X.nox e t):PE X e t:=fun pins s U H Q I hw =>
 wpAny_mono (h pins s U H Q (I.wish _) hw) (fun _ _ ⟨v,H',I',r,q⟩=>⟨v,H',I'.unwish,r,q⟩) fun _ _ z=>False.elim z
end
section
variable {X:Cx}{st:Stmt}{rest:List Stmt}{t u:TS}{e:Expr}{te:TE}{pos:Pos}
def zie:TS:=fun D U H=>D.nx U H
def zif (t u:TS):TS:=fun D U H=>t { D with nx:=u D } U H
theorem zig:PSs X [] zie:=fun _ _ U H _ I h=>wpAny_execs_nil ⟨U,H,I,h⟩
theorem zih (h1:PS X st t) (h2:PSs X rest u):PSs X (st::rest) (zif t u):=by
 intro pins s U H D I h
 refine wpAny_execs_cons (thn (h1 pins s U H { D with nx:=u D } I h) fun f s1 q=>?_)
 cases f with
 | next =>
  obtain ⟨ah,H',I',q⟩:=q
  exact h2 pins s1 ah H' D I' q
 | ret v=>exact q
 | brk=>exact q
 | cont=>exact q
theorem zii (h1:PS X st t):PSs X [st] t:=by
 intro pins s U H D I h
 refine wpAny_execs_cons (thn (h1 pins s U H D I h) fun f s1 q=>?_)
 cases f with
 | next=>exact wpAny_execs_nil q
 | ret v=>exact q
 | brk=>exact q
 | cont=>exact q
theorem Inv.quiet {pins:List (Addr×Obj)}{U:St}{H:Hp}{s:Shared}(I:Inv X pins U H s):interactive X.env=false:=by simp [interactive,I.ok.kind]
def zij (te:TE):TS:=fun D U H=>te U H fun _ H1=>D.nx U H1
theorem zik (he:PE X e te) (hs:swapsWith e none pos.line X.env=pure false:=by rfl):PS X (.Expr e pos) (zij te):=by
 intro pins s U H D I h
 exact wpAny_Expr_any (thn (he pins s U H _ I h) fun v s1 ⟨x,H1,I1,r1,q1⟩=>⟨U,H1,I1,q1⟩) I.quiet hs
def zil (te:TE):TS:=fun D U H=>te U H D.rt
theorem zim (he:PE X e te):PS X (.Return (some e) pos) (zil te):=by
 intro pins s U H D I h
 exact wpAny_Return_some (thn (he pins s U H _ I h) fun v s1 ⟨x,H1,I1,r1,q1⟩=>⟨x,U,H1,I1,r1,q1⟩)
def zin (c:TT) (t u:TS):TS:=fun D U H=>c U H fun b H1=>if b=true then t D U H1 else u D U H1
theorem zio {c:Expr}{a b:List Stmt}{tc:TT}(hc:PT X c tc) (ha:PSs X a t) (hb:PSs X b u):PS X (.If c a b pos) (zin tc t u):=by
 intro pins s U H D I h
 refine wpAny_If (thn (hc pins s U H _ I h) fun d s1 ⟨H1,I1,q1⟩=>?_)
 cases d with
 | true=>exact ha pins s1 U H1 D I1 q1
 | false=>exact hb pins s1 U H1 D I1 q1
def zeg:TS:=fun _ _ _=>False
theorem ziq:PS X st zeg:=fun _ _ _ _ _ _ h=>h.elim
theorem zir {sts:List Stmt}:PSs X sts zeg:=fun _ _ _ _ _ _ h=>h.elim
end
abbrev TG:=V->St->Hp->(St->Hp->Prop)->Prop
abbrev TGs:=List V->St->Hp->(St->Hp->Prop)->Prop
def PG (X:Cx) (target:Expr) (t:TG):Prop :=
 ∀(pins:List (Addr×Obj)) (s:Shared) (U:St) (H:Hp) (v:V) (u:Value) (Q:St->Hp->Prop),Inv X pins U H s->RelV v u->t v U H Q ->
  wpAny (model X.prog X.w) X.A (assign target X.env u) (fun _ s'=>∃ah H',Inv X pins ah H' s'/\Q ah H') X.xe s
def PGs (X:Cx) (ts:List Expr) (t:TGs):Prop :=
 ∀(pins:List (Addr×Obj)) (s:Shared) (U:St) (H:Hp) (vs:List V) (us:List Value) (Q:St->Hp->Prop),Inv X pins U H s->Vals vs us->t vs U H Q ->
  wpAny (model X.prog X.w) X.A (assignInOrder ((assignEach ts X.env).map (·.2)) us) (fun _ s'=>∃ah H',Inv X pins ah H' s'/\Q ah H') X.xe s
section
variable {X:Cx}{pos:Pos}
def j6 (i:Nat):TG:=fun v U H Q=>Q (U.set i (some v)) H
theorem zaA {i:Nat}{x:Str}(hN:X.N.Nodup) (hi:X.N[i]?=some x) (hx:Loc X.env.scope x) (hf:X.fn x=true\/X.env.scope.names.lookup x=some .local:=by first|exact .inl rfl|exact .inr rfl|assumption):PG X (.Name x pos) (j6 i):=by
 intro pins s U H v u Q I r h
 exact wpAny_assign_Name (zcs I hN hi hx r (fun s' I'=>⟨_,H,I',h⟩) hf)
def zeh:TGs:=fun vs U H Q=>vs=[]/\Q U H
def zcu (t:TG) (u:TGs):TGs:=fun vs U H Q=>∃v r,vs=v::r/\t v U H fun ah H'=>u r ah H' Q
theorem zis:PGs X [] zeh:=by
 intro pins s U H vs us Q I r h
 obtain ⟨e,h⟩:=h
 subst e
 cases r
 exact assignInOrder_nil ⟨U,H,I,h⟩
theorem zei {e:Expr}{es:List Expr}{t:TG}{u:TGs}(h1:PG X e t) (h2:PGs X es u)
  (hs:(assignEach (e::es) X.env).map (·.2)=assign e X.env::(assignEach es X.env).map (·.2):=by rfl):PGs X (e::es) (zcu t u):=by
 intro pins s U H vs us Q I r h
 obtain ⟨v,vr,e1,h⟩:=h
 subst e1
 cases r with
 | cons r rr =>
  rw [hs]
  refine assignInOrder_cons (thn (h1 pins s U H _ _ _ I r h) fun _ s1 ⟨ap,H1,I1,q1⟩=>?_)
  exact h2 pins s1 ap H1 _ _ Q I1 rr q1
def zej (K:PySem.W.Frag) (n:Nat) (t:TGs):TG:=fun v U H Q=>∃a xs,v=.ref a/\SqT K H a xs/\xs.length=n/\t xs U H Q
theorem zit {es:List Expr}{k:Nat}{t:TGs}{n:Nat}(hc:X.calm=true) (h:PGs X es t)
  (hn:(assignEach es X.env).length=n:=by rfl) (hst:(assignEach es X.env).findIdx? (·.1)=none:=by rfl):PG X (.Tuple es k pos) (zej X.K n t):=by
 intro pins s U H v u Q I r hw
 obtain ⟨a,xs,e1,hq,hl,hw⟩:=hw
 subst e1
 cases r
 obtain ⟨its,rv,ht,hz⟩:=I.tuple hq
 refine assign_Tuple_tuple (I.ok.hd hc) ht (by simp [hn,<-hl,rv.length]) hst fun h' hx=>?_
 have I1:Inv X pins U H { s with heap:=h' }:=I.kept (t':=s.toks) fun b o e=>hx b o (Nat.ne_of_lt (Heap.lt_size e)) e
 exact h pins _ U H xs _ Q I1 (by simpa using rv) hw
def ziu (te:TE) (g:TG):TS:=fun D U H=>te U H fun x H1=>g x U H1 D.nx
theorem ziv {i:Nat}{x:Str}{e:Expr}{te:TE}{pos':Pos}(hN:X.N.Nodup) (hi:X.N[i]?=some x) (hx:Loc X.env.scope x) (he:PE X e te) (hs:swapsWith e (some (.Name x pos')) pos.line X.env=pure false:=by rfl) (hf:X.fn x=true\/X.env.scope.names.lookup x=some .local:=by first|exact .inl rfl|exact .inr rfl|assumption) :
  PS X (.Assign [.Name x pos'] e pos) (ziu te (j6 i)):=by
 intro pins s U H D I h
 refine wpAny_Assign_Name (thn (he pins s U H _ I h) fun v s1 ⟨y,H1,I1,r1,q1⟩=>?_) hs
 exact zcs I1 hN hi hx r1 (fun s2 I2=>⟨_,H1,I2,q1⟩) hf
def ziw (c:TT) (tb:TS):TS:=fun D U H=>∃W:Nat->St->Hp->Prop,(∃m,W m U H)/\∀m U H,W m U H ->
 c U H fun b H1=>if b=true then ∃N:St->Hp->Prop,(∀ah H',N ah H'->∃m',m'<m/\W m' ah H')/\tb { D with nx:=N,ct:=N,bk:=D.nx } U H1 else D.nx U H1
theorem zix {c:Expr}{body:List Stmt}{tc:TT}{tb:TS}(hp:PassesOwn (model X.prog X.w) X.A X.env X.xe) (hc:PT X c tc) (hb:PSs X body tb):PS X (.While c body [] pos) (ziw tc tb):=by
 intro pins s U H D I h
 obtain ⟨W,⟨m0,w0⟩,turn⟩:=h
 refine wpAny_While (codeAny_whileLoop (fun n s'=>∃ah H',Inv X pins ah H' s'/\W n ah H') ?_ m0 ⟨U,H,I,w0⟩)
 rintro n s1 ⟨ap,H1,I1,w1⟩
 refine wpAny_passesOwn hp (thn (hc pins s1 ap H1 _ I1 (turn n ap H1 w1)) fun b s2 ⟨H2,I2,q2⟩=>?_)
 cases b with
 | true =>
  obtain ⟨N,hN,q2⟩:=q2
  rw [if_pos rfl]
  refine wpAny_passesOwn hp (thn (hb pins s2 ap H2 _ I2 q2) fun f s3 q3=>?_)
  cases f with
  | next =>
   obtain ⟨ar,H3,I3,n3⟩:=q3
   obtain ⟨m',hm,w3⟩:=hN ar H3 n3
   exact ⟨m',hm,ar,H3,I3,w3⟩
  | cont =>
   obtain ⟨ar,H3,I3,n3⟩:=q3
   obtain ⟨m',hm,w3⟩:=hN ar H3 n3
   exact ⟨m',hm,ar,H3,I3,w3⟩
  | brk=>exact q3
  | ret v=>exact q3
 | false =>
  rw [if_neg Bool.false_ne_true]
  exact wpAny_execs_nil ⟨ap,H2,I2,q2⟩
end
structure It where
 go:Nat->Hp->Prop
 yld:Nat->Hp->V->Hp->Prop
 stop:Nat->Hp->Prop
def FpOk (X:Cx) (pins:List (Addr×Obj)) (H:Hp) (b:Addr):Prop :=
 H b=none/\b≠X.env.locals/\b∉X.fs/\(b∈X.ex\/X.s₀.heap.objs.size<=b)/\(∀x c,X.env.cells.lookup x=some c->c≠b)/\∀p∈X.pn++pins,p.1≠b
theorem Inv.fpOk {X:Cx}{pins:List (Addr×Obj)}{U:St}{H H':Hp}{s:Shared}{b:Addr}(I:Inv X pins U H s) (hb:s.heap.objs.size<=b) (hn:H' b=none):FpOk X pins H' b:=by
 refine ⟨hn,Nat.ne_of_gt (Nat.lt_of_lt_of_le I.lt hb),I.nofs hb,.inr (Nat.le_trans I.sz hb),fun x c e z=>?_,fun p hp z=>?_⟩
 ·obtain ⟨v,q⟩:=I.cell x c e
  exact absurd (Nat.lt_of_lt_of_le q.lt (by rw [z];exact hb)) (Nat.lt_irrefl _)
 ·exact absurd (Nat.lt_of_lt_of_le (Heap.lt_size (I.pin p hp).1) (by rw [z];exact hb)) (Nat.lt_irrefl _)
structure Turn (P:Program) (w:World) (K:PySem.W.Frag) (tg:Expr) (J:It) (fp:List Addr) (it:Addr) (tn:Nat->Heap->Prop):Prop where
 mem:it∈fp
 obj:∀i h,tn i h->∀b∈fp,∃o,h.get? b=some o/\∀v,o.data ≠ .cell v
 keep:∀i h h',tn i h->(∀b∈fp,∀o,h.get? b=some o->h'.get? b=some o)->tn i h'
 item:∀(X:Cx),X.prog=P->X.w=w->X.K=K->X.calm=true->∀(i:Nat) (pins:List (Addr×Obj)) (s:Shared) (U:St) (H:Hp) (E:Value->Shared->Prop),Inv X pins U H s->(∀b∈fp,FpOk X pins H b)->tn i s.heap->J.go i H ->
  wpAny (model P w) X.A (pyNext (.ref it)) (fun r s1=>∃u,r=some u /\
   wpAny (model P w) X.A (letOwnedTupleGo tg (.ref it) u) (fun _ s2=>∃x H',Inv X pins U H' s2/\RelV x u/\J.yld i H x H'/\tn (i+1) s2.heap/\∀b∈fp,H' b=none) E s1) E s
 done:∀(X:Cx),X.prog=P->X.w=w->X.K=K->X.calm=true->∀(i:Nat) (pins:List (Addr×Obj)) (s:Shared) (U:St) (H:Hp) (E:Value->Shared->Prop),Inv X pins U H s->(∀b∈fp,FpOk X pins H b)->tn i s.heap->J.stop i H ->
  wpAny (model P w) X.A (pyNext (.ref it)) (fun r s1=>r=none/\Inv X pins U H s1) E s
 self:∀(A:Around) (i:Nat) (s:Shared) (Q:Value->Shared->Prop) (E:Value->Shared->Prop),tn i s.heap->Q (.ref it) s->wpAny (model P w) A (pyIter (.ref it)) Q E s
abbrev TI:=St->Hp->(It->Hp->Prop)->Prop
def PIE (X:Cx) (pins:List (Addr×Obj)) (U:St) (tg:Expr) (R:It->Hp->Prop) (itv:Value) (s2:Shared):Prop :=
 ∃(it:Addr) (fp:List Addr) (tn:Nat->Heap->Prop) (J:It) (H':Hp),itv=.ref it/\Inv X pins U H' s2/\Turn X.prog X.w X.K tg J fp it tn/\tn 0 s2.heap/\(∀b∈fp,FpOk X pins H' b)/\R J H'
def PI (X:Cx) (tg iter:Expr) (wi:TI):Prop :=
 ∀(pins:List (Addr×Obj)) (s:Shared) (U:St) (H:Hp) (R:It->Hp->Prop),Inv X pins U H s->wi U H R ->
  wpAny (model X.prog X.w) X.A (eval iter X.env) (fun v s1=>wpAny (model X.prog X.w) X.A (pyIter v) (PIE X pins U tg R) X.xe s1) X.xe s
theorem zaB {M:Model}{A:Around}{E:Value->Shared->Prop}{s:Shared}{tg:Expr}{it:Addr}{u:Value}{o:Obj}{n:String}{vs:Array Value}{Q:Unit->Shared->Prop}(ho:s.heap.get? it=some o) (hc:o.cls=.type n) (hd:o.data=.fields vs)
  (hn:["enumerate", "zip", "dict_itemiterator", "dict_reverseitemiterator", "odict_iterator", "itertools.zip_longest", "itertools.pairwise"].contains n=false) (hQ:Q () s):wpAny M A (letOwnedTupleGo tg (.ref it) u) Q E s:=by
 unfold letOwnedTupleGo
 cases tg<;>first
  | exact wpAny_pure hQ
  | (cases u<;>first
    | exact wpAny_pure hQ
    | (refine wpAny_bind (wpAny_load ho ?_)
       rw [hc,hd]
       show wpAny M A (if (["enumerate", "zip", "dict_itemiterator", "dict_reverseitemiterator", "odict_iterator", "itertools.zip_longest", "itertools.pairwise"].contains n&&vs[0]?==some (rawInt _))=true then _ else _) Q E s
       rw [if_neg (by intro h;rw [hn,Bool.false_and] at h;cases h)]
       exact wpAny_pure hQ))
def Itl (K:PySem.W.Frag) (a:Addr):It :=
 ⟨fun i H=>∃xs x,SqL K H a xs/\xs[i]?=some x,fun i H x H'=>H'=H/\∀xs,SqL K H a xs->xs[i]?=some x,fun i H=>∃xs,SqL K H a xs/\xs.length<=i⟩
def Itt (K:PySem.W.Frag) (a:Addr):It :=
 ⟨fun i H=>∃xs x,SqT K H a xs/\xs[i]?=some x,fun i H x H'=>H'=H/\∀xs,SqT K H a xs->xs[i]?=some x,fun i H=>∃xs,SqT K H a xs/\xs.length<=i⟩
def Itr (lo:Int) (n:Nat):It:=⟨fun i _=>i<n,fun i H x H'=>H'=H/\x=.int (lo+i),fun i _=>n<=i⟩
theorem ziy {P:Program}{w:World}{K:PySem.W.Frag}{tg:Expr}(a it:Addr):Turn P w K tg (Itl K a) [it] it (fun i h=>h.IsListIter it a i) where
 mem:=by simp
 obj:=fun i h st b hb=>by
  have e:b=it:=by simpa using hb
  subst e
  obtain ⟨o,e,c,d⟩:=st
  exact ⟨o,e,fun v z=>by rw [d] at z;cases z⟩
 keep:=fun i h h' st k=>st.at fun o e=>k it (by simp) o e
 item:=by
  intro X hP hw hK hc i pins s U H E I hf st hg
  subst hP hw hK
  obtain ⟨xs,x,hq,hx⟩:=hg
  obtain ⟨its,rv,p,hz⟩:=I.list hq
  obtain ⟨u,hu,ru⟩:=rv.get hx
  obtain ⟨f0,f1,f2,f3,f4,f5⟩:=hf it (by simp)
  refine wpAny_pyNext_list_item st p.isList (x:=u) (by simpa using hu) fun h' st' sb=>?_
  have I1:Inv X pins U H { s with heap:=h' }:=I.turned (t':=s.toks) (fun b o hb e=>(sb.2 b hb).trans e) f0 f1 f3 f4 f5
  obtain ⟨o,e,c,d⟩:=id st'
  exact ⟨u,rfl,zaB (s:={ s with heap:=h' }) e c d (by decide) ⟨x,H,I1,ru,⟨rfl,fun ys hy=>by rw [I.list_inj hy hq];exact hx⟩,st',fun b hb=>(hf b hb).1⟩⟩
 done:=by
  intro X hP hw hK hc i pins s U H E I hf st hg
  subst hP hw hK
  obtain ⟨xs,hq,hx⟩:=hg
  obtain ⟨its,rv,p,hz⟩:=I.list hq
  obtain ⟨f0,f1,f2,f3,f4,f5⟩:=hf it (by simp)
  have hl:=rv.length
  exact wpAny_pyNext_list_end (I.ok.hd hc) st p.isList (by simp;omega) fun h' eb=>⟨rfl,I.turned (t':=s.toks) (fun b o hb e=>eb b o hb e) f0 f1 f3 f4 f5⟩
 self:=fun _ _ _ _ _ st h=>wpAny_pyIter_listiter st h
theorem ziz {P:Program}{w:World}{K:PySem.W.Frag}{tg:Expr}(a it:Addr):Turn P w K tg (Itt K a) [it] it (fun i h=>h.IsTupleIter it a i) where
 mem:=by simp
 obj:=fun i h st b hb=>by
  have e:b=it:=by simpa using hb
  subst e
  obtain ⟨o,e,c,d⟩:=st
  exact ⟨o,e,fun v z=>by rw [d] at z;cases z⟩
 keep:=fun i h h' st k=>st.at fun o e=>k it (by simp) o e
 item:=by
  intro X hP hw hK hc i pins s U H E I hf st hg
  subst hP hw hK
  obtain ⟨xs,x,hq,hx⟩:=hg
  obtain ⟨its,rv,p,hz⟩:=I.tuple hq
  obtain ⟨u,hu,ru⟩:=rv.get hx
  obtain ⟨f0,f1,f2,f3,f4,f5⟩:=hf it (by simp)
  refine wpAny_pyNext_tuple_item st (show s.heap.IsTuple a its.toArray from p) (x:=u) (by simpa using hu) fun h' st' sb=>?_
  have I1:Inv X pins U H { s with heap:=h' }:=I.turned (t':=s.toks) (fun b o hb e=>(sb.2 b hb).trans e) f0 f1 f3 f4 f5
  obtain ⟨o,e,c,d⟩:=id st'
  exact ⟨u,rfl,zaB (s:={ s with heap:=h' }) e c d (by decide) ⟨x,H,I1,ru,⟨rfl,fun ys hy=>by rw [I.tuple_inj hy hq];exact hx⟩,st',fun b hb=>(hf b hb).1⟩⟩
 done:=by
  intro X hP hw hK hc i pins s U H E I hf st hg
  subst hP hw hK
  obtain ⟨xs,hq,hx⟩:=hg
  obtain ⟨its,rv,p,hz⟩:=I.tuple hq
  obtain ⟨f0,f1,f2,f3,f4,f5⟩:=hf it (by simp)
  have hl:=rv.length
  exact wpAny_pyNext_tuple_end (I.ok.hd hc) st (show s.heap.IsTuple a its.toArray from p) (by simp;omega) fun h' eb=>⟨rfl,I.turned (t':=s.toks) (fun b o hb e=>eb b o hb e) f0 f1 f3 f4 f5⟩
 self:=fun _ _ _ _ _ st h=>wpAny_pyIter_tupleiter st h
theorem ziA {P:Program}{w:World}{K:PySem.W.Frag}{tg:Expr}(it:Addr) (lo:Int) (n:Nat):Turn P w K tg (Itr lo n) [it] it (fun i h=>IsRangeIter h it (lo+(i:Nat)*1) ((n:Int)-(i:Nat)) 1) where
 mem:=by simp
 obj:=fun i h st b hb=>by
  have e:b=it:=by simpa using hb
  subst e
  exact ⟨_,st,fun v z=>by
   have z':Data.fields _=Data.cell v:=z
   cases z'⟩
 keep:=fun i h h' st k=>k it (by simp) _ st
 item:=by
  intro X hP hw hK hc i pins s U H E I hf st hg
  subst hP hw hK
  obtain ⟨f0,f1,f2,f3,f4,f5⟩:=hf it (by simp)
  have W:=Walks.range (prog:=X.prog) (w:=X.w) (I.ok.hd hc) it lo 1 n
  refine W.item i s _ _ hg st fun v h' tk hv st' kk=>?_
  obtain ⟨t,rfl⟩:=hv
  have I1:Inv X pins U H { s with heap:=h',toks:=tk }:=I.turned (fun b o hb e=>kk b o (by simpa using hb) e) f0 f1 f3 f4 f5
  refine ⟨_,rfl,zaB (s:={ s with heap:=h',toks:=tk }) (n := "range_iterator") st' rfl rfl (by decide) ⟨.int (lo+i),H,I1,⟨t,?_⟩,⟨rfl,rfl⟩,st',fun b hb=>(hf b hb).1⟩⟩
  rw [Int.mul_one]
 done:=by
  intro X hP hw hK hc i pins s U H E I hf st hg
  subst hP hw hK
  obtain ⟨f0,f1,f2,f3,f4,f5⟩:=hf it (by simp)
  exact wpAny_pyNext_range_end (I.ok.hd hc) st (by have:n<=i:=hg;omega) fun h' eb=>⟨rfl,I.turned (t':=s.toks) (fun b o hb e=>eb b o hb e) f0 f1 f3 f4 f5⟩
 self:=fun _ _ _ _ _ st h=>wpAny_pyIter_rangeiter st h
section
variable {X:Cx}{tg:Expr}
theorem ziB {pins:List (Addr×Obj)}{U:St}{H:Hp}{s:Shared}{R:It->Hp->Prop}{E:Value->Shared->Prop}{lo hi:Int}{t u v:Tok}{tk:Nat}(I:Inv X pins U H s) (h1 : -(2 ^ 62)<=lo) (h2:lo<2 ^ 62) (h3 : -(2 ^ 62)<=hi) (h4:hi<2 ^ 62)
  (q:R (Itr lo (hi-lo).toNat) H):wpAny (model X.prog X.w) X.A (pyIter (.ref s.heap.objs.size)) (PIE X pins U tg R) E { s with heap:=s.heap.push { cls:=.type "range", data:=.fields #[.int lo t,.int hi u,.int 1 v] },toks:=tk }:=by
 refine wpAny_pyIter_range (IsRange.new ..) (small_one h1 h2 h3 h4) ?_
 have I1:Inv X pins U H { s with heap:=s.heap.push { cls:=.type "range", data:=.fields #[.int lo t,.int hi u,.int 1 v] },toks:=tk }:=I.kept fun b o e=>Heap.get?_push_of_some _ e
 refine ⟨(s.heap.push { cls:=.type "range", data:=.fields #[.int lo t,.int hi u,.int 1 v] }).objs.size,[(s.heap.push { cls:=.type "range", data:=.fields #[.int lo t,.int hi u,.int 1 v] }).objs.size],_,_,H,rfl,
  I1.kept (t':=tk) fun b o e=>Heap.get?_push_of_some _ e,ziA _ lo (hi-lo).toNat,?_,fun b hb=>?_,q⟩
 ·have e1:lo+((0:Nat):Int)*1=lo:=by simp
  have e2:(((hi-lo).toNat:Nat):Int)-((0:Nat):Int)=Builtin.Range.rangeSize lo hi 1:=by rw [rangeSize_one];split<;>omega
  show IsRangeIter _ _ (lo+((0:Nat):Int)*1) ((((hi-lo).toNat:Nat):Int)-((0:Nat):Int)) 1
  rw [e1,e2]
  exact Heap.get?_push_size _ rfl
 ·have e:b=(s.heap.push { cls:=.type "range", data:=.fields #[.int lo t,.int hi u,.int 1 v] }).objs.size:=by simpa using hb
  subst e
  exact I1.fpOk (Nat.le_refl _) (I1.hok.fresh (Nat.le_refl _))
def iRng1 (ta:TA):TI:=fun U H R=>ta U H fun vs H1=>∃j:Int,vs=[.int j] /\ -(2 ^ 62)<=j/\j<2 ^ 62/\R (Itr 0 j.toNat) H1
def iRng2 (ta:TA):TI:=fun U H R=>ta U H fun vs H1=>∃i j:Int,vs=[.int i,.int j]/\(-(2 ^ 62)<=i/\i<2 ^ 62 /\ -(2 ^ 62)<=j/\j<2 ^ 62)/\R (Itr i (j-i).toNat) H1
theorem ziC {a:Expr} {ta:TA} {p pos:Pos} (hg:Gl X "range") (hm:X.mg "range" = none) (ha:PA X [a] ta) (hs:starEach [a] X.env=[(false,eval a X.env)]:=by rfl):PI X tg (.Call (.Name "range" p) [a] [] pos) (iRng1 ta):=by
 intro pins s U H R I h
 refine Call_ (wZ I hg hm boot_range (PyProof.Rows.callWith_type1 (thn (ha pos pins s U H _ I h) fun us s1 ⟨vs,H1,I1,r1,q1⟩=>?_) hs rfl))
 obtain ⟨j,e,q1,q2,q⟩:=q1
 subst e
 cases r1 with
 | cons r rr =>
  cases rr
  obtain ⟨t,rfl⟩:=r
  exact call_range_1 (ziB I1 (by omega) (by omega) q1 q2 (by simpa using q))
def ziD (wi:TI) (g:TG) (tb:TS):TS:=fun D U H=>wi U H fun J H1=>∃W:Nat->Nat->St->Hp->Prop,(∃m,W 0 m U H1)/\∀i m U H,W i m U H ->
 (J.stop i H/\D.nx U H)\/(J.go i H/\∃N:St->Hp->Prop,(∀ah H',N ah H'->∃m',m'<m/\W (i+1) m' ah H')/\∀x H',J.yld i H x H'->g x U H' fun aE H2=>tb { D with nx:=N,ct:=N,bk:=D.nx } aE H2)
def pinsAt (fp:List Addr) (h:Heap):List (Addr×Obj):=fp.filterMap fun b=>(h.get? b).map fun o=>(b,o)
theorem zaC {fp:List Addr}{h:Heap}{b:Addr}{o:Obj}(hb:b∈fp) (e:h.get? b=some o):(b,o)∈pinsAt fp h:=List.mem_filterMap.mpr ⟨b,hb,by rw [e];rfl⟩
theorem ziE {fp:List Addr}{h:Heap}{p:Addr×Obj}(hp:p∈pinsAt fp h):p.1∈fp/\h.get? p.1=some p.2:=by
 obtain ⟨b,hb,e⟩:=List.mem_filterMap.mp hp
 cases q:h.get? b with
 | none=>rw [q] at e;cases e
 | some o =>
  rw [q] at e
  have e':(b,o)=p:=Option.some.inj e
  subst e'
  exact ⟨hb,q⟩
theorem Inv.pinned {pins:List (Addr×Obj)}{U:St}{H:Hp}{s:Shared}{fp:List Addr}(I:Inv X pins U H s) (hf:∀b∈fp,FpOk X pins H b) (ho:∀b∈fp,∃o,s.heap.get? b=some o/\∀v,o.data ≠ .cell v):Inv X (pins++pinsAt fp s.heap) U H s :=
 I.pins_of fun p hp=>(List.mem_append.mp hp).elim (fun z=>I.pin p (List.mem_append_right _ z)) fun z=>by
  obtain ⟨hb,e⟩:=ziE z
  obtain ⟨f0,f1,f2,_⟩:=hf p.1 hb
  obtain ⟨o,e',d⟩:=ho p.1 hb
  rw [e] at e';cases e'
  exact ⟨e,f0,f1,f2,d⟩
theorem Inv.unpinned {pins pl:List (Addr×Obj)}{U:St}{H:Hp}{s:Shared}(I:Inv X (pins++pl) U H s):Inv X pins U H s:=I.pins_of fun p hp=>I.pin p (List.mem_append_right _ (List.mem_append_left _ hp))
theorem ziF {iter:Expr}{body:List Stmt}{wi:TI}{g:TG}{tb:TS}{pos:Pos}(hp:PassesOwn (model X.prog X.w) X.A X.env X.xe) (hc:X.calm=true) (hi:PI X tg iter wi) (hg:PG X tg g) (hb:PSs X body tb)
  (hs:∀x,foldedSetIterable iter X.env x=pure x:=by intro _;rfl):PS X (.For tg iter body [] pos) (ziD wi g tb):=by
 intro pins s U H D I h
 refine wpAny_For (thn (hi pins s U H _ I h) fun v s1 h1=>thn h1 fun itv s2 h2=>?_) hs
 obtain ⟨it,fp,tn,J,H2,e,I2,T,st2,f2,W,⟨m0,w0⟩,turn⟩:=h2
 subst e
 have stat:∀{H':Hp},(∀b∈fp,H' b=none)->∀b∈fp,FpOk X pins H' b:=fun hn b hb=>⟨hn b hb,(f2 b hb).2⟩
 refine codeAny_forLoop_any (fun n s'=>∃i ah H',Inv X pins ah H' s'/\tn i s'.heap/\(∀b∈fp,H' b=none)/\W i n ah H') ?_ m0 ⟨0,U,H2,I2,st2,fun b hb=>(f2 b hb).1,w0⟩
 rintro n s3 ⟨i,ar,H3,I3,st3,fr3,w3⟩
 rcases turn i n ar H3 w3 with ⟨stop,qn⟩|⟨go,N,hN,step⟩
 ·refine wpAny_passesOwn hp (thn (T.done X rfl rfl rfl hc i pins s3 ar H3 X.xe I3 (stat fr3) st3 stop) fun r s4 ⟨hr,I4⟩=>?_)
  subst hr
  exact wpAny_execs_nil ⟨ar,H3,I4,qn⟩
 ·refine wpAny_passesOwn hp (thn (T.item X rfl rfl rfl hc i pins s3 ar H3 X.xe I3 (stat fr3) st3 go) fun r s4 ⟨u,hr,h4⟩=>?_)
  subst hr
  refine wpAny_passesOwn hp (thn h4 fun _ s5 ⟨x,H5,I5,r5,y5,st5,fr5⟩=>?_)
  have I5':=I5.pinned (stat fr5) (T.obj _ _ st5)
  refine wpAny_passesOwn hp (thn (hg _ s5 ar H5 x u _ I5' r5 (step x H5 y5)) fun _ s6 ⟨az,H6,I6,q6⟩=>?_)
  refine wpAny_passesOwn hp (thn (hb _ s6 az H6 _ I6 q6) fun f s7 q7=>?_)
  have again:∀{aq:St} {H7:Hp},Inv X (pins++pinsAt fp s5.heap) aq H7 s7->N aq H7->∃m,m<n/\∃i ah H',Inv X pins ah H' s7/\tn i s7.heap/\(∀b∈fp,H' b=none)/\W i m ah H':=fun {aq H7} I7 n7=>by
   obtain ⟨m',hm,w7⟩:=hN aq H7 n7
   refine ⟨m',hm,i+1,aq,H7,I7.unpinned,T.keep _ _ _ st5 fun b hb o e=>(I7.pin (b,o) (List.mem_append_right _ (List.mem_append_right _ (zaC hb e)))).1,fun b hb=>?_,w7⟩
   obtain ⟨o,e,d⟩:=T.obj _ _ st5 b hb
   exact (I7.pin (b,o) (List.mem_append_right _ (List.mem_append_right _ (zaC hb e)))).2.1
  cases f with
  | next=>obtain ⟨aq,H7,I7,n7⟩:=q7;exact again I7 n7
  | cont=>obtain ⟨aq,H7,I7,n7⟩:=q7;exact again I7 n7
  | brk=>obtain ⟨aq,H7,I7,q7⟩:=q7;exact ⟨aq,H7,I7.unpinned,q7⟩
  | ret v=>obtain ⟨x7,aq,H7,I7,r7,q7⟩:=q7;exact ⟨x7,aq,H7,I7.unpinned,r7,q7⟩
end
abbrev R2:=V->V->Hp->VK->Prop
def OpR (X:Cx) (f:Value->Value->Sem Value) (r:R2):Prop :=
 ∀(pins:List (Addr×Obj)) (s:Shared) (U:St) (H:Hp) (x y:V) (v u:Value) (Q:VK),Inv X pins U H s->RelV x v->RelV y u->r x y H Q ->
  wpAny (model X.prog X.w) X.A (f v u) (EP X pins U Q) X.xe s
def UnR (X:Cx) (f:Value->Sem Value) (r:V->Hp->VK->Prop):Prop :=
 ∀(pins:List (Addr×Obj)) (s:Shared) (U:St) (H:Hp) (x:V) (v:Value) (Q:VK),Inv X pins U H s->RelV x v->r x H Q ->
  wpAny (model X.prog X.w) X.A (f v) (EP X pins U Q) X.xe s
def CallR (X:Cx) (f:Value) (r:List V->Hp->VK->Prop):Prop :=
 ∀(pins:List (Addr×Obj)) (s:Shared) (U:St) (H:Hp) (xs:List V) (us:List Value) (Q:VK),Inv X pins U H s->Vals xs us->r xs H Q ->
  wpAny (model X.prog X.w) X.A (call f us) (EP X pins U Q) X.xe s
def tOp (r:R2) (ta tb:TE):TE:=fun U H Q=>ta U H fun x H1=>tb U H1 fun y H2=>r x y H2 Q
def tUn (r:V->Hp->VK->Prop) (ta:TE):TE:=fun U H Q=>ta U H fun x H1=>r x H1 Q
def rI (C:Int->Int->Prop) (g:Int->Int->V):R2:=fun x y H Q=>∃i j,x=.int i/\y=.int j/\C i j/\Q (g i j) H
def jX (g:Int->Int->V):R2:=fun x y H Q=>∃i j,x=.int i/\y=.int j/\Q (g i j) H
def rU (g:Int->V):V->Hp->VK->Prop:=fun x H Q=>∃i,x=.int i/\Q (g i) H
section
variable {X:Cx}{a b c:Expr}{ta tb tc:TE}{pos:Pos}
theorem binT (ha:PE X a ta) (hb:PE X b tb) {pins:List (Addr×Obj)}{s:Shared}{U:St}{H:Hp}{R:V->V->Hp->Prop}(I:Inv X pins U H s)
  (h:ta U H fun x H1=>tb U H1 fun y H2=>R x y H2) {Q:Value->Shared->Prop} {f:Value->Value->Sem Value}
  (hf:∀v u s2 x y H2,Inv X pins U H2 s2->RelV x v->RelV y u->R x y H2->wpAny (model X.prog X.w) X.A (f v u) Q X.xe s2) :
  wpAny (model X.prog X.w) X.A (eval a X.env) (fun v aj=>wpAny (model X.prog X.w) X.A (eval b X.env) (fun u ae=>wpAny (model X.prog X.w) X.A (f v u) Q X.xe ae) X.xe aj) X.xe s:=by
 refine thn (ha pins s U H _ I h) fun v s1 ⟨x,H1,I1,r1,q1⟩=>?_
 refine thn (hb pins s1 U H1 _ I1 q1) fun u s2 ⟨y,H2,I2,r2,q2⟩=>?_
 exact hf v u s2 x y H2 I2 r1 r2 q2
theorem ziH {op:Operator}{r:R2}(ho:OpR X (binaryOp op) r) (ha:PE X a ta) (hb:PE X b tb):PE X (.BinOp a op b pos) (tOp r ta tb):=by
 intro pins s U H Q I h
 exact wpAny_BinOp (binT ha hb I h fun v u s2 x y H2 I2 rx ry q=>ho pins s2 U H2 x y v u Q I2 rx ry q)
theorem ziI {op:UnaryOp}{r:V->Hp->VK->Prop}(ho:UnR X (unaryOp op) r) (ha:PE X a ta):PE X (.UnaryOp op a pos) (tUn r ta):=by
 intro pins s U H Q I h
 exact UnaryOp_ (thn (ha pins s U H _ I h) fun v s1 ⟨x,H1,I1,r1,q1⟩=>ho pins s1 U H1 x v Q I1 r1 q1)
theorem opI {f:Value->Value->Sem Value}{C:Int->Int->Prop}{g:Int->Int->Int}
  (rule:∀(i j:Int) (t u:Tok) (s:Shared) (Q:Value->Shared->Prop) (E:Value->Shared->Prop),C i j->Q (.int (g i j) s.toks) { s with toks:=s.toks+1 }->wpAny (model X.prog X.w) X.A (f (.int i t) (.int j u)) Q E s) :
  OpR X f (rI C fun i j=>.int (g i j)):=by
 intro pins s U H x y v u Q I rx ry h
 obtain ⟨i,j,rfl,rfl,hc,q⟩:=h
 obtain ⟨t,rfl⟩:=rx
 obtain ⟨t',rfl⟩:=ry
 exact rule i j t t' s _ _ hc ⟨.int (g i j),H,I.tok _,⟨_,rfl⟩,q⟩
theorem zek {f:Value->Value->Sem Value}{g:Int->Int->Int}
  (rule:∀(i j:Int) (t u:Tok) (s:Shared) (Q:Value->Shared->Prop) (E:Value->Shared->Prop),Q (.int (g i j) s.toks) { s with toks:=s.toks+1 }->wpAny (model X.prog X.w) X.A (f (.int i t) (.int j u)) Q E s) :
  OpR X f (jX fun i j=>.int (g i j)):=by
 intro pins s U H x y v u Q I rx ry h
 obtain ⟨i,j,rfl,rfl,q⟩:=h
 obtain ⟨t,rfl⟩:=rx
 obtain ⟨t',rfl⟩:=ry
 exact rule i j t t' s _ _ ⟨.int (g i j),H,I.tok _,⟨_,rfl⟩,q⟩
theorem zcv {f:Value->Value->Sem Value}{g:Int->Int->Bool}
  (rule:∀(i j:Int) (t u:Tok) (s:Shared) (Q:Value->Shared->Prop) (E:Value->Shared->Prop),Q (.bool (g i j)) s->wpAny (model X.prog X.w) X.A (f (.int i t) (.int j u)) Q E s) :
  OpR X f (jX fun i j=>.bl (g i j)):=by
 intro pins s U H x y v u Q I rx ry h
 obtain ⟨i,j,rfl,rfl,q⟩:=h
 obtain ⟨t,rfl⟩:=rx
 obtain ⟨t',rfl⟩:=ry
 exact rule i j t t' s _ _ ⟨.bl (g i j),H,I,rfl,q⟩
def CPow (i j:Int):Prop:=0<=j/\j<=1000000/\i.natAbs<2 ^ 64
def CMul (i j:Int):Prop:=(-(2 ^ 64)<i/\i<2 ^ 64)\/(-(2 ^ 64)<j/\j<2 ^ 64)
theorem CMul.ok {i j:Int}(h:CMul i j):IntMulOk i j:=by
 rcases h with ⟨h1,h2⟩|⟨h1,h2⟩
 ·exact .of_left (intBits_le_64 h1 h2)
 ·exact .of_right (intBits_le_64 h1 h2)
theorem ziJ:OpR X (binaryOp .Add) (jX fun i j=>.int (i+j)):=zek fun _ _ _ _ _ _ _ q=>add_int q
theorem ziK:OpR X (binaryOp .Sub) (jX fun i j=>.int (i-j)):=zek fun _ _ _ _ _ _ _ q=>sub_int q
theorem ziL:OpR X (binaryOp .Mult) (rI CMul fun i j=>.int (i*j)):=opI fun _ _ _ _ _ _ _ hc q=>mul_int q hc.ok
theorem ziM:OpR X (binaryOp .Mod) (rI (fun _ j=>j≠0) fun i j=>.int (i.fmod j)):=opI fun _ _ _ _ _ _ _ hc q=>mod_int' hc q
theorem ziN:OpR X (binaryOp .Pow) (rI CPow fun i j=>.int (i ^ j.toNat)):=opI fun _ _ _ _ _ _ _ hc q=>pow_int_small hc.1 hc.2.1 hc.2.2 q
theorem unI {f:Value->Sem Value}{g:Int->Int}
  (rule:∀(i:Int) (t:Tok) (s:Shared) (Q:Value->Shared->Prop) (E:Value->Shared->Prop),Q (.int (g i) s.toks) { s with toks:=s.toks+1 }->wpAny (model X.prog X.w) X.A (f (.int i t)) Q E s) :
  UnR X f (rU fun i=>.int (g i)):=by
 intro pins s U H x v Q I rx h
 obtain ⟨i,rfl,q⟩:=h
 obtain ⟨t,rfl⟩:=rx
 exact rule i t s _ _ ⟨.int (g i),H,I.tok _,⟨_,rfl⟩,q⟩
theorem ziO:UnR X (unaryOp .USub) (rU fun i=>.int (-i)):=unI fun _ _ _ _ _ q=>neg_int q
theorem ziP {pins:List (Addr×Obj)}{U:St}{H:Hp}{s:Shared}{Q:VK}{k k':Bool}(I:Inv X pins U H s) (q:Q (.bl k) H) (e:k=k'):EP X pins U Q (.bool k') s:=by
 subst e
 exact ⟨.bl k,H,I,rfl,q⟩
theorem ziQ:OpR X (compareOp .Lt) (jX fun i j=>.bl (decide (i<j))):=zcv fun _ _ _ _ _ _ _ q=>lt_int q
theorem ziR:OpR X (compareOp .LtE) (jX fun i j=>.bl (decide (i<=j))):=zcv fun _ _ _ _ _ _ _ q=>le_int q
theorem ziS:OpR X (compareOp .Gt) (jX fun i j=>.bl (decide (j<i))):=zcv fun _ _ _ _ _ _ _ q=>gt_int q
theorem ziT:OpR X (compareOp .In) (fun x y H Q=>∃i j,x=.str i/\y=.str j/\Q (.bl (!(Builtin.Str.occurrences j i 0 j.length 1).isEmpty)) H):=by
 intro pins s U H x y v u Q I rx ry h
 obtain ⟨i,j,rfl,rfl,q⟩:=h
 obtain ⟨t,rfl⟩:=rx
 obtain ⟨t',rfl⟩:=ry
 exact in_str (ziP I q rfl)
theorem OpR.or {f:Value->Value->Sem Value}{r r':R2}(h:OpR X f r) (h':OpR X f r'):OpR X f (fun x y H Q=>r x y H Q\/r' x y H Q):=by
 intro pins s U H x y v u Q I rx ry q
 rcases q with q|q
 ·exact h pins s U H x y v u Q I rx ry q
 ·exact h' pins s U H x y v u Q I rx ry q
theorem nomark (b:Expr) {op:CmpOp}(h:op ≠ .In:=by decide) (h2:op ≠ .NotIn:=by decide):behindInMarks op b=false:=by
 have e1:(op==CmpOp.In)=false:=by cases op<;>first|rfl|exact absurd rfl h
 have e2:(op==CmpOp.NotIn)=false:=by cases op<;>first|rfl|exact absurd rfl h2
 cases b<;>simp [behindInMarks,e1,e2]
theorem ziU {op:CmpOp}{r:R2}(ho:OpR X (compareOp op) r) (ha:PE X a ta) (hb:PE X b tb) (hm:behindInMarks op b=false):PE X (.Compare a [op] [b] pos) (tOp r ta tb):=by
 intro pins s U H Q I h
 exact wpAny_Compare1 (binT ha hb I h fun v u s2 x y H2 I2 rx ry q=>ho pins s2 U H2 x y v u Q I2 rx ry q) hm
def zel (t:TE):TT:=fun U H Q=>t U H fun x H'=>∃k,x=.bl k/\Q k H'
theorem ziV {op:CmpOp}{r:R2}(ho:OpR X (compareOp op) r) (ha:PE X a ta) (hb:PE X b tb) (hm:behindInMarks op b=false):PT X (.Compare a [op] [b] pos) (zel (tOp r ta tb)):=by
 intro pins s U H Q I h
 refine wpAny_isTrue_Compare1 (thn (ha pins s U H _ I h) fun v s1 ⟨x,H1,I1,r1,q1⟩=>thn (hb pins s1 U H1 _ I1 q1) fun u s2 ⟨y,H2,I2,r2,q2⟩ =>
  thn (ho pins s2 U H2 x y v u _ I2 r1 r2 q2) fun c s3 ⟨z,H3,I3,r3,k,e,q3⟩=>?_) hm
 subst e
 cases r3
 exact wpAny_truthy_bool ⟨H3,I3,q3⟩
def zem (r r':R2) (ta tb tc:TE):TE:=fun U H Q=>ta U H fun x H1=>tb U H1 fun y H2=>r x y H2 fun z H3=>∃k,z=.bl k /\
 (if k=true then tc U H3 fun w' H4=>r' y w' H4 Q else Q (.bl false) H3)
theorem ziW {op op':CmpOp}{r r':R2}(ho:OpR X (compareOp op) r) (ho':OpR X (compareOp op') r') (ha:PE X a ta) (hb:PE X b tb) (hc:PE X c tc)
  (hm:lastMarks [op,op'] [b,c]=false:=by with_unfolding_all rfl):PT X (.Compare a [op,op'] [b,c] pos) (zel (zem r r' ta tb tc)):=by
 intro pins s U H Q I h
 refine isTrue_chain (thn (ha pins s U H _ I h) fun v s1 ⟨x,H1,I1,r1,q1⟩=>test_link (thn (hb pins s1 U H1 _ I1 q1) fun u s2 ⟨y,H2,I2,r2,q2⟩ =>
  thn (ho pins s2 U H2 x y v u _ I2 r1 r2 q2) fun d s3 ⟨z,H3,I3,r3,k,e,q3⟩=>?_)) hm
 subst e
 cases r3
 refine wpAny_truthy_bool ?_
 cases k with
 | false =>
  obtain ⟨k',e',q'⟩:=q3
  cases e'
  exact ite_ff ⟨H3,I3,q'⟩
 | true =>
  refine ite_tt (test_last (thn (hc pins s3 U H3 _ I3 q3) fun w' s4 ⟨z',H4,I4,r4,q4⟩=>thn (ho' pins s4 U H4 y z' u w' _ I4 r2 r4 q4) fun d' s5 ⟨z2,H5,I5,r5,k2,e2,q5⟩=>?_))
  subst e2
  cases r5
  exact wpAny_truthy_bool ⟨H5,I5,q5⟩
theorem zbe:(sizeLine:Nat)<2 ^ 63:=by rw [sizeLine_eq];decide
theorem ziX:OpR X (binaryOp .Add) (fun x y H Q=>∃i j,x=.str i/\y=.str j/\i.length+j.length<=sizeLine/\Q (.str (i++j)) H):=by
 intro pins s U H x y v u Q I rx ry h
 obtain ⟨i,j,rfl,rfl,hz,q⟩:=h
 obtain ⟨t,rfl⟩:=rx
 obtain ⟨t',rfl⟩:=ry
 exact add_str (fun t' tk=>⟨.str (i++j),H,I.tok _,⟨_,rfl⟩,q⟩) hz
theorem wE {x:V}{us:List Value}(r:Vals [x] us):∃u,us=[u]/\RelV x u:=by
 cases r with
 | cons r1 r2=>cases r2;exact ⟨_,rfl,r1⟩
theorem zen {x y:V}{us:List Value}(r:Vals [x,y] us):∃u w',us=[u,w']/\RelV x u/\RelV y w':=by
 cases r with
 | cons r1 r2 =>
  cases r2 with
  | cons r3 r4=>cases r4;exact ⟨_,_,rfl,r1,r3⟩
theorem ziY:CallR X (.type "str") (fun xs H Q=>∃i,xs=[.int i]/\i.natAbs.log2<1920/\Q (.str (toString i)) H):=by
 intro pins s U H xs us Q I r h
 obtain ⟨i,rfl,hz,q⟩:=h
 obtain ⟨u,rfl,t,rfl⟩:=wE r
 exact PySem.P.str_of_int hz ⟨.str _,H,I.tok _,⟨_,rfl⟩,q⟩
def LenV (K:PySem.W.Frag) (x:V) (H:Hp) (n:Nat):Prop :=
 match x with
 | .str y=>y.length<=sizeLine/\n=y.length
 | .byt y=>y.size<=sizeLine/\n=y.size
 | .ref p=>(∃xs,SqL K H p xs/\n=xs.length)\/∃xs,SqT K H p xs/\n=xs.length
 | _=>False
theorem ziZ:CallR X (.builtin "len") (fun xs H Q=>∃x n,xs=[x]/\LenV X.K x H n/\Q (.int n) H):=by
 intro pins s U H xs us Q I r h
 obtain ⟨x,n,rfl,e,q⟩:=h
 obtain ⟨u,rfl,rx⟩:=wE r
 have hl:=zbe
 have hs:sizeLine=16777216:=sizeLine_eq
 cases x with
 | str y =>
  obtain ⟨t,rfl⟩:=rx
  obtain ⟨hy,e'⟩:y.length<=sizeLine/\n=y.length:=e
  subst e'
  exact len_str (by omega) ⟨.int _,H,I.tok _,⟨_,rfl⟩,q⟩
 | byt y =>
  obtain ⟨t,rfl⟩:=rx
  obtain ⟨hy,e'⟩:y.size<=sizeLine/\n=y.size:=e
  subst e'
  exact PySem.W.len_bytes (by omega) ⟨.int _,H,I.tok _,⟨_,rfl⟩,q⟩
 | ref p =>
  cases rx
  have e':(∃xs,SqL X.K H p xs/\n=xs.length)\/∃xs,SqT X.K H p xs/\n=xs.length:=e
  rcases e' with ⟨xs,hx,e'⟩|⟨xs,hx,e'⟩
  ·subst e'
   obtain ⟨its,r',pl,hz⟩:=I.list hx
   have hlen:=r'.length
   exact Calls.call_len_list pl.isList (by simp only [List.size_toArray];omega) ⟨.int xs.length,H,I.tok _,⟨_,by simp only [List.size_toArray];rw [hlen]⟩,q⟩
  ·subst e'
   obtain ⟨its,r',pl,hz⟩:=I.tuple hx
   have hlen:=r'.length
   exact len_tuple pl (by simp only [List.size_toArray];omega) ⟨.int xs.length,H,I.tok _,⟨_,by simp only [List.size_toArray];rw [hlen]⟩,q⟩
 | _=>exact (show False from e).elim
end
structure ObjM (h:Heap) (x dx C:Addr) (mA:Str->Option Value):Prop where
 obj:h.get? x=some (PySem.W.instObj C dx)
 ns:h.Ns1 dx mA
 ne:dx≠x
theorem zeo {h:Heap}{dx:Addr}{mA:Str->Option Value}(n:h.Ns1 dx mA):∃od,h.get? dx=some od/\∀name,PySem.W.lookIn name od=some (mA name):=by
 obtain ⟨o,es,ep,ho,hd,hk,_,hm⟩:=n
 refine ⟨o,ho,fun name=>?_⟩
 have e:=hm name
 unfold nsFind findBy at e
 rw [<-Array.find?_toList] at e
 unfold PySem.W.lookIn
 rw [hd]
 dsimp only
 split
 ·rename_i y q
  rw [q] at e
  exact congrArg some e
 ·rename_i q
  rw [q] at e
  have a:es.toList.any (·.refKey)=false:=by
   rw [List.any_eq_false]
   intro y hy
   obtain ⟨z,t,hkey⟩:=hk y (Array.mem_toList_iff.mp hy)
   simp [DictEntry.refKey,hkey]
  have a':¬es.toList.any (·.refKey)=true:=by rw [a];exact Bool.false_ne_true
  rw [if_neg a']
  exact congrArg some e
theorem ObjM.look {h:Heap}{x dx C:Addr}{mA:Str->Option Value}(I:ObjM h x dx C mA):∃od,PySem.W.InstAt h x (PySem.W.instObj C dx) C (some od)/\∀name,PySem.W.lookIn name od=some (mA name) :=
 let ⟨od,ho,hl⟩:=zeo I.ns
 ⟨od,⟨I.obj,rfl,rfl,ho⟩,hl⟩
section
variable {prog:Program}{w:World}{A:Around}{E:Value->Shared->Prop}{s:Shared}{K:PySem.W.Frag}{x dx C f:Addr}{mA:Str->Option Value}{name:Str}{v:Value}
theorem zi0 {expr:Bool}{Q:Value->Shared->Prop}(X:K.In s.heap) (I:ObjM s.heap x dx C mA) (hg:PySem.W.plainGet K C name=true) (hh:PySem.W.hasDictIn K C=true)
  (ha:PySem.W.findIn K (.ref C) name=some none) (hv:mA name=some v) (hv':PySem.W.handedIn v=true) (h:Q v { s with toks:=s.toks+1 }) :
  wpAny (model prog w) A (getAttr (.ref x) name expr) Q E s:=by
 obtain ⟨od,J,hl⟩:=I.look
 exact PySem.W.get_value X J (PySem.W.plainGet_of hg).1 (PySem.W.findObj_own hh ha rfl (by rw [hl,hv])) hv' h
theorem zi1 {pl:Sem Bool}{Q:Value×List Value->Shared->Prop}(X:K.In s.heap) (I:ObjM s.heap x dx C mA) (hg:PySem.W.plainGet K C name=true)
  (hf:PySem.W.findIn K (.ref C) name=some (some (.ref f))) (ht:PySem.W.isFn K (.ref f)=true) (hv:mA name=none) (h:Q (.ref f,[.ref x]) s) :
  wpAny (model prog w) A (getMethod (.ref x) name pl) Q E s:=by
 obtain ⟨od,J,hl⟩:=I.look
 exact PySem.W.method_fn X J (PySem.W.plainGet_of hg).1 (PySem.W.plainGet_of hg).2 hf (beq_iff_eq.mp ht) (by show (PySem.W.lookIn name od).map (·.isSome)=some false;rw [hl,hv];rfl) h
theorem zi2 {ns:List Str}{Q:Unit->Shared->Prop}(X:K.In s.heap) (I:ObjM s.heap x dx C mA)
  (hs:PySem.W.findIn K (.ref C) "__setattr__" = some (some (.builtin "object.__setattr__"))) (hp:PySem.W.plainOver K C=true) (ht:PySem.W.takerIn K C name=some none) (hh:PySem.W.hasDictIn K C=true)
  (hw:PySem.Within mA ns) (hsz:ns.length<=sizeLine)
  (h:∀h',ObjM h' x dx C (fun y=>if y=name then some v else mA y)->Heap.SameBut dx s.heap h'->Q () { s with heap:=h',toks:=s.toks+2 }) :
  wpAny (model prog w) A (setAttr (.ref x) name v) Q E s:=by
 obtain ⟨od,J,hl⟩:=I.look
 refine PySem.W.set_plain X J hs (PySem.W.osa_open (s:={ s with toks:=s.toks+1 }) (r:=none) X J hp ht fun b=>?_)
 obtain ⟨cd,hc,hd'⟩:=PySem.W.any_some hh
 have hx:s.heap.get? x=some ⟨.ref C,some dx,.plain,#[]⟩:=I.obj
 refine wpAny_bind (wpAny_pure (wpAny_bind (wpAny_bind (wpAny_loadPart hx (wpAny_bind (PySem.W.Looks.here (s:={ s with toks:=s.toks+1 }) (PySem.W.looks_clsIn X hc) ?_))))))
 rw [hd']
 refine wpAny_pure (a:=some dx) (wpAny_bind (wpAny_pure (wpAny_bind ?_)))
 refine wpAny_nsSet1 (s:={ s with toks:=s.toks+1 }) I.ns fun h' hn2 hs2=>?_
 obtain ⟨oD,esD,epD,hoD,hdD,hcD⟩:=hn2.count (PySem.Within.cons name v hw)
 refine wpAny_bind (wpAny_lookBehind hoD (by rw [hdD];exact pastItsLine_dict (Nat.le_trans hcD (by rw [List.length_cons];omega))) ?_)
 exact wpAny_pure (h _ ⟨(hs2.2 _ (Ne.symm I.ne)).trans I.obj,hn2,I.ne⟩ hs2)
theorem zi3 {R:Result->Shared->Prop}{vs:List Value}{kw:List (Str×Value)}(X:K.In s.heap) (hm:PySem.W.makesIn K C=true)
  (hi:PySem.W.findIn K (.ref C) "__init__" = some (some (.ref f))) (hf:PySem.W.typeIn K (.ref f)=some (.type "function"))
  (h:codeAny (model prog w) (A.under (.builtin "type.__call__" ⟨.ref C::vs,kw⟩)) (.call (.ref f) ⟨.ref (s.heap.objs.size+1)::vs,kw⟩) (PySem.W.InitBack (s.heap.objs.size+1) R)
   { s with heap:=(s.heap.push PySem.W.emptyDict).push (PySem.W.instObj C s.heap.objs.size) }) :
  codeAny (model prog w) A (.call (.ref C) ⟨vs,kw⟩) R s:=by
 obtain ⟨hh,g,d,t,os⟩:=s
 exact PySem.W.make_core (PySem.W.makes_of X hm) (PySem.W.looks_findIn X hi) (fun self=>PySem.W.bind_fn X self hf) (.inl rfl) h
end
def putF (f:Str) (v:V):List (Str×V)->List (Str×V)
 | []=>[(f,v)]
 | (g,x)::r=>if g=f then (g,v)::r else (g,x)::putF f v r
theorem zep (f g:Str) (v:V):∀fs:List (Str×V),(putF f v fs).lookup g=if g=f then some v else fs.lookup g
 | []=>by
  show List.lookup g [(f,v)]=_
  by_cases h:g=f
  ·have hb:(g==f)=true:=beq_iff_eq.mpr h
   simp only [List.lookup,hb,if_pos h]
  ·have hb:(g==f)=false:=beq_eq_false_iff_ne.mpr h
   simp only [List.lookup,hb,if_neg h]
 | (k,x)::r=>by
  have ih:=zep f g v r
  rw [show putF f v ((k,x)::r)=(if k=f then (k,v)::r else (k,x)::putF f v r) from rfl]
  by_cases hk:k=f
  ·rw [if_pos hk]
   by_cases h:g=k
   ·have hb:(g==k)=true:=beq_iff_eq.mpr h
    simp only [List.lookup,hb,if_pos (h.trans hk)]
   ·have hb:(g==k)=false:=beq_eq_false_iff_ne.mpr h
    simp only [List.lookup,hb,if_neg (fun e:g=f=>h (e.trans hk.symm))]
  ·rw [if_neg hk]
   by_cases h:g=k
   ·have hb:(g==k)=true:=beq_iff_eq.mpr h
    simp only [List.lookup,hb,if_neg (fun e:g=f=>hk (h.symm.trans e))]
   ·have hb:(g==k)=false:=beq_eq_false_iff_ne.mpr h
    simp only [List.lookup,hb]
    exact ih
theorem zcw (f:Str) (v:V):∀fs:List (Str×V),f∈(putF f v fs).map (·.1)/\∀g,g∈fs.map (·.1)->g∈(putF f v fs).map (·.1)
 | []=>⟨by simp [putF],fun g h=>by simp at h⟩
 | (k,x)::r=>by
  obtain ⟨i1,i2⟩:=zcw f v r
  rw [show putF f v ((k,x)::r)=(if k=f then (k,v)::r else (k,x)::putF f v r) from rfl]
  by_cases hk:k=f
  ·rw [if_pos hk]
   subst hk
   exact ⟨by simp,fun g h=>by simpa using h⟩
  ·rw [if_neg hk]
   refine ⟨?_,fun g h=>?_⟩
   ·rw [List.map_cons]
    exact List.mem_cons_of_mem _ i1
   ·rw [List.map_cons] at h ⊢
    rcases List.mem_cons.mp h with e|e
    ·exact List.mem_cons.mpr (.inl e)
    ·exact List.mem_cons_of_mem _ (i2 g e)
theorem zeq (f:Str) (v:V):∀fs:List (Str×V),(putF f v fs).length<=fs.length+1
 | []=>by simp [putF]
 | (k,x)::r=>by
  have ih:=zeq f v r
  rw [show putF f v ((k,x)::r)=(if k=f then (k,v)::r else (k,x)::putF f v r) from rfl]
  by_cases hk:k=f
  ·rw [if_pos hk,List.length_cons,List.length_cons];omega
  ·rw [if_neg hk,List.length_cons,List.length_cons];omega
theorem RelO.some_of {v:V}{o:Option Value}(r:RelO (some v) o):∃u,o=some u/\RelV v u:=by
 cases o with
 | none=>exact (show False from r).elim
 | some u=>exact ⟨u,rfl,r⟩
theorem RelO.none_of {o:Option Value}(r:RelO none o):o=none:=by
 cases o with
 | none=>rfl
 | some u=>exact (show False from r).elim
theorem zer {v:V}{u:Value}(r:RelV v u):PySem.W.handedIn u=true:=by
 cases v with
 | non=>cases (show u=Value.none from r);rfl
 | bl b=>cases (show u=Value.bool b from r);rfl
 | int i=>obtain ⟨t,e⟩:=(show ∃t,u=Value.int i t from r);cases e;rfl
 | str x=>obtain ⟨t,e⟩:=(show ∃t,u=Value.str x t from r);cases e;rfl
 | byt b=>obtain ⟨t,e⟩:=(show ∃t,u=Value.bytes b t from r);cases e;rfl
 | flt b=>obtain ⟨t,e⟩:=(show ∃t,u=Value.float b t from r);cases e;rfl
 | ref a=>cases (show u=Value.ref a from r);rfl
 | ty n=>cases (show u=Value.type n from r);rfl
section
variable {P:Program}{w:World}{H H':Hp}{h h':Heap}{a C dx:Addr}{fs fs':List (Str×V)}
theorem zbf (hok:HOk P w H h) (e:H a=some (.ins C dx fs)):∃mA,ObjM h a dx C mA/\(∀f,RelO (fs.lookup f) (mA f))/\PySem.Within mA (fs.map (·.1))/\fs.length<=1000/\H dx=some (.own a):=by
 obtain ⟨d,z,ne,ob,mA,n,r,q⟩:=(show ObjOk P w H h a (.ins C dx fs) from hok a _ e)
 exact ⟨mA,⟨ob,n,ne⟩,r,q,z,d⟩
end
structure Cls (K:PySem.W.Frag) (C:Addr):Prop where
 pg:PySem.W.plainGet K C Str.empty=true
 hd:PySem.W.hasDictIn K C=true
 po:PySem.W.plainOver K C=true
 sa:PySem.W.findIn K (.ref C) "__setattr__" = some (some (.builtin "object.__setattr__"))
theorem Cls.get {K:PySem.W.Frag}{C:Addr}(c:Cls K C) (f:Str):PySem.W.plainGet K C f=true:=c.pg
def NoAttr (K:PySem.W.Frag) (C:Addr) (f:Str):Prop:=PySem.W.findIn K (.ref C) f=some none
theorem NoAttr.taker {K:PySem.W.Frag}{C:Addr}{f:Str}(n:NoAttr K C f):PySem.W.takerIn K C f=some none:=by
 unfold PySem.W.takerIn
 rw [show PySem.W.findIn K (.ref C) f=some none from n]
 rfl
structure Con (K:PySem.W.Frag) (C:Addr) (f:Str) (v:V) (u:Value):Prop where
 at_:PySem.W.findIn K (.ref C) f=some (some u)
 rel:RelV v u
 get:PySem.W.specialIn K u "__get__" = some none
 cp:PySem.W.copiedNames.contains f=false
structure Meth (K:PySem.W.Frag) (C:Addr) (m:Str) (f:Addr):Prop where
 at_:PySem.W.findIn K (.ref C) m=some (some (.ref f))
 fn:PySem.W.isFn K (.ref f)=true
 kp:PySem.W.keepIn K (.ref f)=true
section
variable {X:Cx}{pins:List (Addr×Obj)}{U:St}{H:Hp}{s:Shared}{a C dx:Addr}{fs:List (Str×V)}{f:Str}{v:V}{A:Around}{E:Value->Shared->Prop}
theorem zes {b:Bool}{Q:Value->Shared->Prop}(I:Inv X pins U H s) (e:H a=some (.ins C dx fs)) (c:Cls X.K C) (n:NoAttr X.K C f) (l:fs.lookup f=some v)
  (h:∀u s',Inv X pins U H s'->RelV v u->Q u s'):wpAny (model X.prog X.w) A (getAttr (.ref a) f b) Q E s:=by
 obtain ⟨mA,O,r,_,_,_⟩:=zbf I.hok e
 obtain ⟨u,hu,ru⟩:=RelO.some_of (v:=v) (o:=mA f) (by rw [<-l];exact r f)
 exact zi0 I.kIn O (c.get f) c.hd n hu (zer ru) (h u _ (I.tok _) ru)
theorem zet {m:Str}{g:Addr}{pl:Sem Bool}{Q:Value×List Value->Shared->Prop}(I:Inv X pins U H s) (e:H a=some (.ins C dx fs)) (c:Cls X.K C) (k:Meth X.K C m g) (l:fs.lookup m=none)
  (h:Q (.ref g,[.ref a]) s):wpAny (model X.prog X.w) A (getMethod (.ref a) m pl) Q E s:=by
 obtain ⟨mA,O,r,_,_,_⟩:=zbf I.hok e
 have hn:mA m=none:=RelO.none_of (by rw [<-l];exact r m)
 exact zi1 I.kIn O (c.get m) k.at_ k.fn hn h
theorem zeu {y:V}{u:Value}{Q:Unit->Shared->Prop}(I:Inv X pins U H s) (e:H a=some (.ins C dx fs)) (c:Cls X.K C) (n:NoAttr X.K C f) (hl:fs.length<1000) (ry:RelV y u)
  (h:∀s',Inv X pins U (upd H a (.ins C dx (putF f y fs))) s'->Q () s'):wpAny (model X.prog X.w) A (setAttr (.ref a) f u) Q E s:=by
 obtain ⟨mA,O,r,wi,_,ho⟩:=zbf I.hok e
 have hz:(fs.map (·.1)).length<=sizeLine:=by rw [List.length_map,sizeLine_eq];omega
 refine zi2 I.kIn O c.sa c.po n.taker c.hd wi hz fun h' O' sb=>h _ ?_
 have hd:∃o,h'.get? dx=some o:=let ⟨o,_,_,e',_⟩:=O'.ns;⟨o,e'⟩
 refine I.write (x:=a) (e:=dx) (by rw [e];exact True.intro) (.inr ho) (fun b q hb z=>(sb.2 b hb).trans z) hd ?_
 refine ⟨by rw [zD O.ne];exact ho,?_,O.ne,O'.obj,_,O'.ns,fun g=>?_,fun g hg=>?_⟩
 ·have:=zeq f y fs;omega
 ·show RelO ((putF f y fs).lookup g) (if g=f then some u else mA g)
  rw [zep]
  by_cases q:g=f
  ·rw [if_pos q,if_pos q];exact ry
  ·rw [if_neg q,if_neg q];exact r g
 ·by_cases q:g=f
  ·rw [q];exact (zcw f y fs).1
  ·refine (zcw f y fs).2 g (wi g fun z=>hg ?_)
   show (if g=f then some u else mA g)=none
   rw [if_neg q];exact z
theorem Inv.made (I:Inv X pins U H s):Inv X pins U (upd (upd H s.heap.objs.size (.own (s.heap.objs.size+1))) (s.heap.objs.size+1) (.ins C s.heap.objs.size []))
  { s with heap:=(s.heap.push PySem.W.emptyDict).push (PySem.W.instObj C s.heap.objs.size) }:=by
 have e1:(s.heap.push PySem.W.emptyDict).get? s.heap.objs.size=some PySem.W.emptyDict:=Heap.get?_push_size s.heap rfl
 have e2:((s.heap.push PySem.W.emptyDict).push (PySem.W.instObj C s.heap.objs.size)).get? (s.heap.objs.size+1)=some (PySem.W.instObj C s.heap.objs.size):=by
  have:=Heap.get?_push_size (s.heap.push PySem.W.emptyDict) (o:=PySem.W.instObj C s.heap.objs.size) rfl
  rwa [Heap.size_push] at this
 have e3:(s.heap.push PySem.W.emptyDict).Ns s.heap.objs.size (fun _=>none):=⟨PySem.W.emptyDict,#[],_,e1,rfl,(fun e he=>absurd he (by simp)),fun _=>rfl⟩
 have I1:=I.laid (a:=s.heap.objs.size) (o:=.own (s.heap.objs.size+1)) (h':=s.heap.push PySem.W.emptyDict) (t':=s.toks) (fun b u q=>Heap.get?_push_of_some _ q) (Nat.le_refl _) ⟨_,e1⟩
 refine I1.laid (a:=s.heap.objs.size+1) (o:=.ins C s.heap.objs.size []) (t':=s.toks) (fun b u q=>Heap.get?_push_of_some _ q) (Nat.le_of_eq (Heap.size_push _ _)) ?_
 have ne:s.heap.objs.size≠s.heap.objs.size+1:=Nat.ne_of_lt (Nat.lt_succ_self _)
 refine ⟨by rw [zD ne,yn],Nat.zero_le _,ne,e2,fun _=>none,(Heap.Ns1.of_empty e3).at fun o q=>Heap.get?_push_of_some _ q,fun _=>True.intro,fun y hy=>absurd rfl hy⟩
theorem zi4 {prog:Program}{w:World}{env:Env}{e:Expr}{f:Str}{pos:Pos}{s:Shared}{Q:Value->Shared->Prop}(hb:attributeBase e f env (eval e env)=eval e env)
  (h:wpAny (model prog w) A (eval e env) (fun o aj=>wpAny (model prog w) A (getAttr o f true) Q E aj) E s):wpAny (model prog w) A (eval (.Attribute e f pos) env) Q E s :=
 Attribute_any_ h (by rw [arm_eval_Attribute,hb])
end
def sFld (K:PySem.W.Frag) (ta tv:TE) (f:Str):TS:=fun D U H=>tv U H fun y H1=>ta U H1 fun x H2=>∃a C dx fs,x=.ref a/\H2 a=some (.ins C dx fs)/\Cls K C/\NoAttr K C f/\fs.length<1000 /\
 D.nx U (upd H2 a (.ins C dx (putF f y fs)))
def InOp (X:Cx) (op:Operator) (rd:V->V->Hp->VK->Prop):Prop :=
 ∀(pins:List (Addr×Obj)) (s:Shared) (U:St) (H:Hp) (x y:V) (u v:Value) (Q:VK),Inv X pins U H s->RelV x u->RelV y v->rd x y H Q->wpAny (model X.prog X.w) X.A (inplaceOp op u v) (EP X pins U Q) X.xe s
def zi5 (K:PySem.W.Frag) (ta tv:TE) (rd:V->V->Hp->VK->Prop) (f:Str):TS:=fun D U H=>ta U H fun x H1=>∃a C dx fs v,x=.ref a/\H1 a=some (.ins C dx fs)/\Cls K C/\NoAttr K C f/\fs.lookup f=some v /\
 tv U H1 fun y H2=>rd v y H2 fun z H3=>∃dx' fs',H3 a=some (.ins C dx' fs')/\fs'.length<1000/\D.nx U (upd H3 a (.ins C dx' (putF f z fs')))
section
variable {X:Cx}{o e value:Expr}{f:Str}{pos pos' tpos:Pos}{ta tv:TE}
theorem zi6 (ha:PE X o ta) (hv:PE X value tv) (hs:swapsWith value (some (.Attribute o f pos')) pos.line X.env=pure false):PS X (.Assign [.Attribute o f pos'] value pos) (sFld X.K ta tv f):=by
 intro pins s U H D I h
 refine plainObj_wpAny_Assign_Attribute (thn (hv pins s U H _ I h) fun u s1 ⟨y,H1,I1,ry,q⟩=>thn (ha pins s1 U H1 _ I1 q) fun ov s2 ⟨x,H2,I2,rx,a,C,dx,fs,ex,ea,c,n,l,q2⟩=>?_) hs
 subst ex
 obtain rfl:ov=Value.ref a:=rx
 exact zeu I2 ea c n l ry fun s3 I3=>⟨U,_,I3,q2⟩
theorem zi7 {op:Operator}{rd:V->V->Hp->VK->Prop}(ha:PE X o ta) (hv:PE X value tv) (hop:InOp X op rd):PS X (.AugAssign (.Attribute o f tpos) op value pos) (zi5 X.K ta tv rd f):=by
 intro pins s U H D I h
 refine wpAny_AugAssign_AttributeAny (thn (ha pins s U H _ I h) fun ov s1 ⟨x,H1,I1,rx,a,C,dx,fs,v,ex,ea,c,n,l,q⟩=>?_)
 subst ex
 obtain rfl:ov=Value.ref a:=rx
 refine zes I1 ea c n l fun u s2 I2 ru=>thn (hv pins s2 U H1 _ I2 q) fun w3 s3 ⟨y,H2,I3,ry,q3⟩=>thn (hop pins s3 U H2 v y u w3 _ I3 ru ry q3) fun w4 s4 ⟨z,H3,I4,rz,dx',fs',ea',l',q4⟩=>?_
 exact zeu I4 ea' c n l' rz fun s5 I5=>⟨U,_,I5,q4⟩
def zi8:V->V->Hp->VK->Prop:=fun x y H Q=>∃i j,x=.int i/\y=.int j/\Q (.int (i+j)) H
theorem zi9:InOp X .Add zi8:=by
 rintro pins s U H x y u v Q I rx ry ⟨i,j,rfl,rfl,q⟩
 obtain ⟨t,rfl⟩:=(show ∃t,u=Value.int i t from rx)
 obtain ⟨t',rfl⟩:=(show ∃t',v=Value.int j t' from ry)
 exact PyProof.Rows.iadd_int ⟨.int (i+j),H,I.tok _,⟨_,rfl⟩,q⟩
end
section
variable {X:Cx}{pins:List (Addr×Obj)}{U:St}{H:Hp}{s:Shared}{A:Around}{E:Value->Shared->Prop}{Q:Value->Shared->Prop}{c:Value}{b:Bool}
inductive TyOf (K:PySem.W.Frag) (H:Hp):V->Value->Prop where
 | non:TyOf K H .non (.type "NoneType")
 | bl (x:Bool):TyOf K H (.bl x) (.type "bool")
 | int (i:Int):TyOf K H (.int i) (.type "int")
 | str (x:Str):TyOf K H (.str x) (.type "str")
 | flt (x:UInt64):TyOf K H (.flt x) (.type "float")
 | lst {a:Addr} {xs:List V} (e:H a=some (.lst xs)):TyOf K H (.ref a) (.type "list")
 | frz {a:Addr} {o:Obj} {xs:List V} (e:H a=some (.frz o (.lst xs))):TyOf K H (.ref a) (.type "list")
 | tup {a:Addr} {xs:List V} (e:H a=some (.tup xs)):TyOf K H (.ref a) (.type "tuple")
 | dK {a:Addr} {kvs:List (Key×V)} (e:H a=some (.dK kvs)):TyOf K H (.ref a) (.type "dict")
 | dT {a:Addr} {kvs:List (List Key×V)} (e:H a=some (.dT kvs)):TyOf K H (.ref a) (.type "dict")
 | ins {a C dx:Addr} {fs:List (Str×V)} (e:H a=some (.ins C dx fs)) (cl:Cls K C) (ha:PySem.W.findIn K (.ref C) "__class__" = some (some (.builtin "object.__class__")))
   (hn:PySem.W.specialIn K (.builtin "object.__class__") "__get__" = some (some (.builtin "getset_descriptor.__get__"))) (htk:PySem.W.takesIn K (.builtin "object.__class__")=some true)
   (hm:PySem.W.mroIn K C (.type "object")=some true):TyOf K H (.ref a) (.ref C)
theorem zja {x:V}{u t:Value}(I:Inv X pins U H s) (rx:RelV x u) (ty:TyOf X.K H x t) (e:PySem.W.kitOne X.K t c=some b) (h:∀tk,Q (.bool b) { s with toks:=tk }) :
  wpAny (model X.prog X.w) A (call (.builtin "isinstance") [u,c]) Q E s:=by
 cases ty with
 | non=>cases (show u=Value.none from rx);exact PySem.W.kia_one PySem.W.kitx_none I.kIn True.intro e (fun z=>nomatch z) h
 | bl y=>cases (show u=Value.bool y from rx);exact PySem.W.kia_one PySem.W.kitx_bool I.kIn True.intro e (fun z=>nomatch z) h
 | int i=>obtain ⟨t,q⟩:=(show ∃t,u=Value.int i t from rx);cases q;exact PySem.W.kia_one PySem.W.kitx_int I.kIn True.intro e (fun z=>nomatch z) h
 | str y=>obtain ⟨t,q⟩:=(show ∃t,u=Value.str y t from rx);cases q;exact PySem.W.kia_one PySem.W.kitx_str I.kIn True.intro e (fun z=>nomatch z) h
 | flt y=>obtain ⟨t,q⟩:=(show ∃t,u=Value.float y t from rx);cases q;exact PySem.W.kia_one PySem.W.kitx_float I.kIn True.intro e (fun z=>nomatch z) h
 | @lst a xs ea =>
  cases (show u=Value.ref a from rx)
  obtain ⟨_,_,n,_,h1⟩:=(show ObjOk X.prog X.w H s.heap a (.lst xs) from I.hok a _ ea)
  exact PySem.W.kia_one PySem.W.kitx_list I.kIn ⟨_,h1,rfl⟩ e (fun z=>nomatch z) h
 | @frz a ob xs ea =>
  cases (show u=Value.ref a from rx)
  obtain ⟨_,_,_,n,_,h1⟩:=(show ObjOk X.prog X.w H s.heap a (.frz ob (.lst xs)) from I.hok a _ ea)
  exact PySem.W.kia_one PySem.W.kitx_list I.kIn ⟨_,h1,rfl⟩ e (fun z=>nomatch z) h
 | @tup a xs ea =>
  cases (show u=Value.ref a from rx)
  obtain ⟨_,_,_,p⟩:=(show ObjOk X.prog X.w H s.heap a (.tup xs) from I.hok a _ ea)
  obtain ⟨o,h1,h2,_⟩:=p
  exact PySem.W.kia_one PySem.W.kitx_tuple I.kIn ⟨o,h1,h2⟩ e (fun z=>nomatch z) h
 | @dK a kvs ea =>
  cases (show u=Value.ref a from rx)
  obtain ⟨_,_,vs,_,p⟩:=(show ObjOk X.prog X.w H s.heap a (.dK kvs) from I.hok a _ ea)
  obtain ⟨o,es,ep,h1,h2,_⟩:=p
  exact PySem.W.kia_one PySem.W.kitx_dict I.kIn ⟨o,h1,h2.1⟩ e (fun z=>nomatch z) h
 | @dT a kvs ea =>
  cases (show u=Value.ref a from rx)
  obtain ⟨_,_,xs,_,o,es,ep,h1,h2,_⟩:=(show ObjOk X.prog X.w H s.heap a (.dT kvs) from I.hok a _ ea)
  exact PySem.W.kia_one PySem.W.kitx_dict I.kIn ⟨o,h1,h2.1⟩ e (fun z=>nomatch z) h
 | @ins a C dx fs ea cl ha hn htk hm =>
  cases (show u=Value.ref a from rx)
  obtain ⟨mA,O,_⟩:=zbf I.hok ea
  obtain ⟨od,J,_⟩:=O.look
  exact PySem.W.kia_one (PySem.W.kitx_own (cl.get _) cl.hd ha hn htk hm) I.kIn J e (fun z=>nomatch z) h
end
structure Room (k:Nat) (A:Around):Prop where
 hd:A.handled=none
 dp:A.depth+3*k+5<recursionLimit
 un:A.units+16*k+200<cLine
theorem Room.mono {j k:Nat}{A:Around}(r:Room k A) (h:j<=k):Room j A:=⟨r.hd,by have:=r.dp;omega,by have:=r.un;omega⟩
theorem Room.deeper {k:Nat}{A:Around}(r:Room (k+1) A) (env:Env):Room k (A.deeper env) :=
 ⟨r.hd,by have:=r.dp;show A.depth+1+3*k+5<_;omega,by have:=r.un;show A.units+3+16*k+200<_;omega⟩
theorem zjb {A:Around} {C:Addr} {us:List Value} {kw:List (Str×Value)}:(A.under (.builtin "type.__call__" ⟨.ref C::us,kw⟩)).depth=A.depth+1:=by
 first|rfl|simp [Around.under,Code.weight,Code.isCreation,Code.isGuard,Code.isCaller,Code.frames,Code.isFrame,guardIds]
theorem zjc {A:Around} {C:Addr} {us:List Value} {kw:List (Str×Value)}:(A.under (.builtin "type.__call__" ⟨.ref C::us,kw⟩)).units=A.units+1:=by
 first|rfl|simp [Around.under,Code.cUnits,Code.frames,Code.isFrame]
theorem Room.make {k:Nat} {A:Around} (r:Room (k+1) A) (C:Addr) (us:List Value) (kw:List (Str×Value)):Room k (A.under (.builtin "type.__call__" ⟨.ref C::us,kw⟩)) :=
 ⟨r.hd,by have:=r.dp;rw [zjb];omega,by have:=r.un;rw [zjc];omega⟩
theorem Room.depth {k:Nat}{A:Around}(r:Room k A):A.depth<recursionLimit:=by have:=r.dp;omega
def zev:TA:=fun _ H Q=>Q [] H
def zjd (ta:TE) (tr:TA):TA:=fun U H Q=>ta U H fun x H1=>tr U H1 fun xs H2=>Q (x::xs) H2
section
variable {X:Cx}{e:Expr}{es:List Expr}{te:TE}{t:TA}{pos:Pos}
theorem zbg:PA X [] zev:=fun _ _ _ _ H Q I h=>Calls.spliced_nil ⟨[],H,I,.nil,h⟩
theorem zbh (ha:PE X e te) (hr:PA X es t) (hs:starEach (e::es) X.env=(false,eval e X.env)::starEach es X.env:=by rfl):PA X (e::es) (zjd te t):=by
 intro pos pins s U H Q I h
 rw [hs]
 show wpAny _ _ (spliced ((false,eval e X.env)::backTo pos (starEach es X.env))) _ _ s
 refine Calls.spliced_cons (thn (ha pins s U H _ I h) fun u s1 ⟨x,H1,I1,r1,q1⟩=>?_)
 exact thn (hr pos pins s1 U H1 _ I1 q1) fun us s2 ⟨xs,H2,I2,r2,q2⟩=>⟨x::xs,H2,I2,.cons r1 r2,q2⟩
def zje (t:TA):TE:=fun U H Q=>t U H fun xs H1=>xs.length<=sizeLine/\∀p,H1 p=none->Q (.ref p) (upd H1 p (.tup xs))
def zjf (t:TA):TE:=fun U H Q=>t U H fun xs H1=>xs.length<=sizeLine/\∀p,H1 p=none->Q (.ref p) (upd H1 p (.lst xs))
theorem zjg {x1}(h:PA X es t):PE X (.Tuple es x1 pos) (zje t):=by
 intro pins s U H Q I hq
 refine wpAny_Tuple_spliced (thn (h pos pins s U H _ I hq) fun us s1 ⟨xs,H1,I1,r,z,q⟩=>⟨by rw [<-r.length];exact z,?_⟩)
 have hf:H1 s1.heap.objs.size=none:=I1.hok.fresh (Nat.le_refl _)
 refine ⟨.ref s1.heap.objs.size,upd H1 s1.heap.objs.size (.tup xs),I1.laid (t':=s1.toks) (fun b u e=>Heap.get?_push_of_some _ e) (Nat.le_refl _) ?_,rfl,q _ hf⟩
 exact ⟨z,us,r,⟨_,Heap.get?_push_size _ rfl,rfl,_,rfl⟩⟩
theorem zjh (h:PA X es t):PE X (.List es pos) (zjf t):=by
 intro pins s U H Q I hq
 refine wpAny_List_spliced (thn (h pos pins s U H _ I hq) fun us s1 ⟨xs,H1,I1,r,z,q⟩=>⟨by rw [<-r.length];exact z,?_⟩)
 have hf:H1 s1.heap.objs.size=none:=I1.hok.fresh (Nat.le_refl _)
 refine ⟨.ref s1.heap.objs.size,upd H1 s1.heap.objs.size (.lst xs),I1.laid (t':=s1.toks) (fun b u e=>Heap.get?_push_of_some _ e) (Nat.le_refl _) ?_,rfl,q _ hf⟩
 exact ⟨z,us,0,r,Heap.get?_push_size _ rfl⟩
end
abbrev Sp:=List V->Hp->VK->XK->Prop
abbrev CXT:=List Env->Hp->Shared->XK->Value->Shared->Prop
structure Env0 (P:Program) (w:World) (K:PySem.W.Frag) (mg:Str->Option Value) (base:Heap) (A:Around) (outer:List Env) (s:Shared) (H:Hp):Prop where
 frames:A.frames=some outer
 mod:Mod K mg base
 bs:∀b o,base.get? b=some o->s.heap.get? b=some o/\H b=none
 bsz:base.objs.size<=s.heap.objs.size
 funs:s.heap.FunFrames base outer
 frf:∀b∈frs outer,H b=none
 hok:HOk P w H s.heap
 bare:AllBare s.gens
def CE (outer:List Env) (P:Program) (w:World) (H:Hp) (s:Shared) (Q:VK) (u:Value) (s':Shared):Prop :=
 ∃v H',s'.os=s.os/\AllBare s'.gens/\Un (frs outer) [] H H' s.heap s'.heap/\HOk P w H' s'.heap/\RelV v u/\Q v H'
def CR (CX:CXT) (outer:List Env) (P:Program) (w:World) (H:Hp) (s:Shared) (Q:VK) (E:XK) (r:Result) (s':Shared):Prop :=
 match r with
 | .ok (.ret u)=>CE outer P w H s Q u s'
 | .ok _=>False
 | .error e=>CX outer H s E e s'
structure FnOk (P:Program) (w:World) (K:PySem.W.Frag) (mg:Str->Option Value) (base:Heap) (CX:CXT) (k:Nat) (f:Addr) (fd:FuncData) (ps:List Str) (sp:Sp):Prop where
 len:∀vs H Q E,sp vs H Q E->vs.length=ps.length
 run:∀(A:Around) (outer:List Env) (s:Shared) (H:Hp) (args:Args) (us:List Value) (vs:List V) (Q:VK) (E:XK),Room k A->Env0 P w K mg base A outer s H->BindsTo s fd args (ps.zip us)->Vals vs us->sp vs H Q E ->
  codeAny (model P w) A (.call (.ref f) args) (CR CX outer P w H s Q E) s
theorem FnOk.mono {P:Program}{w:World}{K:PySem.W.Frag}{mg:Str->Option Value}{base:Heap}{CX:CXT}{j k:Nat}{f:Addr}{fd:FuncData}{ps:List Str}{sp:Sp}(F:FnOk P w K mg base CX j f fd ps sp) (h:j<=k) :
  FnOk P w K mg base CX k f fd ps sp:=⟨F.len,fun A outer s H args us vs Q E hr=>F.run A outer s H args us vs Q E (hr.mono h)⟩
theorem FnOk.imp {P:Program}{w:World}{K:PySem.W.Frag}{mg:Str->Option Value}{base:Heap}{CX:CXT}{k:Nat}{f:Addr}{fd:FuncData}{ps:List Str}{sp sp':Sp}(F:FnOk P w K mg base CX k f fd ps sp)
  (h:∀vs H Q E,sp' vs H Q E->sp vs H Q E):FnOk P w K mg base CX k f fd ps sp' :=
 ⟨fun vs H Q E q=>F.len vs H Q E (h _ _ _ _ q),fun A outer s H args us vs Q E hr he hb hv hs=>F.run A outer s H args us vs Q E hr he hb hv (h _ _ _ _ hs)⟩
theorem Env0.make {P:Program}{w:World}{K:PySem.W.Frag}{mg:Str->Option Value}{base:Heap}{A:Around}{outer:List Env}{s:Shared}{H:Hp}(e:Env0 P w K mg base A outer s H) (C:Addr) (us:List Value) (kw:List (Str×Value)) :
  Env0 P w K mg base (A.under (.builtin "type.__call__" ⟨.ref C::us,kw⟩)) outer s H:=⟨by first|exact e.frames|(simpa [Around.under,Code.envs,Code.isFrame,pushEnvs] using e.frames),e.mod,e.bs,e.bsz,e.funs,e.frf,e.hok,e.bare⟩
section
variable {X:Cx}{pins:List (Addr×Obj)}{U:St}{H:Hp}{s s':Shared}
theorem Inv.env0 (I:Inv X pins U H s):Env0 X.prog X.w X.K X.mg X.base X.A X.stack s H :=
 ⟨I.ok.frames,I.ok.mod,I.bs,Nat.le_trans I.ok.bsz I.sz,I.stack,I.stkFree,I.hok,I.bare⟩
theorem Inv.after {Q:VK}{u:Value}(I:Inv X pins U H s) (h:CE X.stack X.prog X.w H s Q u s'):EP X pins U Q u s':=by
 obtain ⟨v,H',os,bare,un,hok,r,q⟩:=h
 obtain ⟨hh,g,d,t,os'⟩:=s'
 obtain rfl:os'=s.os:=os
 exact ⟨v,H',I.call (h':=hh) (g':=g) (d':=d) (t':=t) (ch:=[]) un hok bare (fun b z=>absurd z (by simp)),r,q⟩
end
def zji (sp:Sp) (dvs:List V) (E:XK) (t:TA):TE:=fun U H Q=>t U H fun vs H1=>sp (vs++dvs) H1 Q E
def zjj (C:Addr) (sp:Sp) (dvs:List V) (E:XK) (t:TA):TE:=fun U H Q=>t U H fun vs H1=>∀x dx,H1 x=none->H1 dx=none->dx≠x ->
 sp (.ref x::(vs++dvs)) (upd (upd H1 dx (.own x)) x (.ins C dx [])) (fun v H2=>v=.non/\Q (.ref x) H2) E
def Binds (K:PySem.W.Frag) (fd:FuncData) (ps:List Str) (ds:List Value):Prop :=
 ∀(s:Shared) (us:List Value),K.In s.heap->(us++ds).length=ps.length->BindsTo s fd ⟨us,[]⟩ (ps.zip (us++ds))
theorem Binds.all {K:PySem.W.Frag}{fd:FuncData}{ps:List Str}(h:∀us:List Value,us.length=ps.length->bindArgs fd ⟨us,[]⟩=pure (ps.zip us)):Binds K fd ps []:=fun s us _ hl=>by
 rw [List.append_nil] at hl ⊢
 exact .of_eq (h us hl)
def Passes (CX:CXT) (X:Cx) (E:XK):Prop:=∀(pins:List (Addr×Obj)) (U:St) (H:Hp) (s:Shared) (e:Value) (s':Shared),Inv X pins U H s->CX X.stack H s E e s'->X.xe e s'
section
variable {X:Cx}{CX:CXT}{k:Nat}{f C:Addr}{fd:FuncData}{ps:List Str}{sp:Sp}{dvs:List V}{ds:List Value}{E:XK}{x m:Str}{p pos apos:Pos}{e o:Expr}{es:List Expr}{ta:TE}{t:TA}
theorem zcx {pins:List (Addr×Obj)}{U:St}{H:Hp}{s:Shared}{Q:VK}{us:List Value}{vs:List V}(F:FnOk X.prog X.w X.K X.mg X.base CX k f fd ps sp) (hr:Room k X.A) (hb:Binds X.K fd ps ds) (hd:Vals dvs ds) (hx:Passes CX X E)
  (I:Inv X pins U H s) (r:Vals vs us) (h:sp (vs++dvs) H Q E):wpAny (model X.prog X.w) X.A (call (.ref f) us) (EP X pins U Q) X.xe s:=by
 have r2:Vals (vs++dvs) (us++ds):=r.append hd
 have hl:(us++ds).length=ps.length:=by rw [<-r2.length];exact F.len _ _ _ _ h
 refine wpAny_call (codeAny_mono (F.run X.A X.stack s H ⟨us,[]⟩ (us++ds) (vs++dvs) Q E hr I.env0 (hb s us I.kIn hl) r2 h) fun r s' hq=>?_)
 cases r with
 | error e=>exact hx pins U H s e s' I hq
 | ok fl =>
  cases fl with
  | ret u=>exact I.after hq
  | next=>exact False.elim hq
  | brk=>exact False.elim hq
  | cont=>exact False.elim hq
theorem zjk (F:FnOk X.prog X.w X.K X.mg X.base CX k f fd ps sp) (hr:Room k X.A) (hg:Gl X x) (hm:X.mg x=some (.ref f)) (hk:PySem.W.keepIn X.K (.ref f)=true) (hb:Binds X.K fd ps ds) (hd:Vals dvs ds) (hx:Passes CX X E)
  (ha:PA X (e::es) t) (hdb:(x==("__debug__" : Str))=false:=by decide) (he:starEach (e::es) X.env=(false,eval e X.env)::starEach es X.env:=by rfl) (hpl:(backTo pos (starEach es X.env)).any (·.1)=false:=by rfl) :
  PE X (.Call (.Name x p) (e::es) [] pos) (zji sp dvs E t):=by
 intro pins s U H Q I h
 refine wpAny_Call_Name_kw (zct I hg hm ?_ hdb)
 refine PySem.W.callWith_K (h₀:=X.base) I.ok.mod.kin hk (thn (ha pos pins s U H _ I h) fun us s1 ⟨vs,H1,I1,r,q⟩=>⟨I1.kIn,?_⟩) he hpl
 exact zcx F hr hb hd hx I1 r q
structure Mk (K:PySem.W.Frag) (C f:Addr):Prop where
 makes:PySem.W.makesIn K C=true
 init:PySem.W.findIn K (.ref C) "__init__" = some (some (.ref f))
 fn:PySem.W.isFn K (.ref f)=true
 kp:PySem.W.keepIn K (.ref C)=true
theorem zjl {pins:List (Addr×Obj)}{U:St}{H:Hp}{s:Shared}{Q:VK}{us:List Value}{vs:List V}(M:Mk X.K C f) (F:FnOk X.prog X.w X.K X.mg X.base CX k f fd ps sp) (hr:Room (k+1) X.A) (hb:Binds X.K fd ps ds) (hd:Vals dvs ds)
  (hx:Passes CX X E) (I:Inv X pins U H s) (r:Vals vs us)
  (h:∀x dx,H x=none->H dx=none->dx≠x->sp (.ref x::(vs++dvs)) (upd (upd H dx (.own x)) x (.ins C dx [])) (fun v H2=>v=.non/\Q (.ref x) H2) E) :
  wpAny (model X.prog X.w) X.A (call (.ref C) us) (EP X pins U Q) X.xe s:=by
 have hq:=h (s.heap.objs.size+1) s.heap.objs.size (I.hok.fresh (Nat.le_succ _)) (I.hok.fresh (Nat.le_refl _)) (Nat.ne_of_lt (Nat.lt_succ_self _))
 have I2:=Inv.made (C:=C) I
 have r2:Vals (V.ref (s.heap.objs.size+1)::(vs++dvs)) (Value.ref (s.heap.objs.size+1)::(us++ds)):=.cons rfl (r.append hd)
 have hl:(Value.ref (s.heap.objs.size+1)::us++ds).length=ps.length:=by
  have e:=r2.length
  rw [F.len _ _ _ _ hq] at e
  exact e.symm
 refine wpAny_call (zi3 (f:=f) I.kIn M.makes M.init (beq_iff_eq.mp M.fn) (codeAny_mono (F.run _ X.stack _ _ ⟨Value.ref (s.heap.objs.size+1)::us,[]⟩ (Value.ref (s.heap.objs.size+1)::(us++ds)) _ _ E (hr.make C us [])
  (I2.env0.make C us []) (hb _ (Value.ref (s.heap.objs.size+1)::us) I2.kIn hl) r2 hq) fun r s' hq'=>?_))
 cases r with
 | error e=>exact hx pins U _ _ e s' I2 hq'
 | ok fl =>
  cases fl with
  | ret u =>
   obtain ⟨v,H',I3,rv,ev,q3⟩:=I2.after hq'
   subst ev
   exact ⟨rv,⟨V.ref (s.heap.objs.size+1),H',I3,rfl,q3⟩⟩
  | next=>exact False.elim hq'
  | brk=>exact False.elim hq'
  | cont=>exact False.elim hq'
theorem zjm (M:Mk X.K C f) (F:FnOk X.prog X.w X.K X.mg X.base CX k f fd ps sp) (hr:Room (k+1) X.A) (hg:Gl X x) (hm:X.mg x=some (.ref C)) (hb:Binds X.K fd ps ds) (hd:Vals dvs ds) (hx:Passes CX X E)
  (ha:PA X (e::es) t) (hdb:(x==("__debug__" : Str))=false:=by decide) (he:starEach (e::es) X.env=(false,eval e X.env)::starEach es X.env:=by rfl) (hpl:(backTo pos (starEach es X.env)).any (·.1)=false:=by rfl) :
  PE X (.Call (.Name x p) (e::es) [] pos) (zjj C sp dvs E t):=by
 intro pins s U H Q I h
 refine wpAny_Call_Name_kw (zct I hg hm ?_ hdb)
 refine PySem.W.callWith_K (h₀:=X.base) I.ok.mod.kin M.kp (thn (ha pos pins s U H _ I h) fun us s1 ⟨vs,H1,I1,r,q⟩=>⟨I1.kIn,?_⟩) he hpl
 exact zjl M F hr hb hd hx I1 r q
end
section
variable {X:Cx}{CX:CXT}{k:Nat}{f C:Addr}{fd:FuncData}{ps ks:List Str}{sp:Sp}{E:XK}{x m:Str}{p pos apos kpos:Pos}{e o:Expr}{es:List Expr}{kws:List Keyword}{te ta:TE}{t tk:TA}{nm:Option Str}
structure KBinds (K:PySem.W.Frag) (fd:FuncData) (ps ks:List Str) (g:List Value->List Value->List Value) (gV:List V->List V->List V):Prop where
 to:∀(s:Shared) (us ws:List Value),K.In s.heap->(g us ws).length=ps.length->BindsTo s fd ⟨us,ks.zip ws⟩ (ps.zip (g us ws))
 rel:∀{vs:List V} {us:List Value} {zs:List V} {ws:List Value},Vals vs us->Vals zs ws->Vals (gV vs zs) (g us ws)
variable {g:List Value->List Value->List Value}{gV:List V->List V->List V}
end
structure FnScope (N P:List Str) (sc:Scope):Prop where
 kind:sc.kind=.function
 co:sc.isCoroutine=false
 gen:sc.isGenerator=false
 nd:N.Nodup
 pre:N.take P.length=P
 par:∀x∈P,sc.names.lookup x=some .local\/sc.names.lookup x=some .cell
 nofree:∀y∈sc.names,y.2 ≠ .free
theorem zew {kindOf:Str->Option NameKind}{x:Str}:∀{binds:List (Str×Value)}{m:Str->Option Value},(∀v,(x,v)∉binds)->bindL kindOf binds m x=m x
 | [],_,_=>rfl
 | (n,v)::r,m,h=>by
  unfold bindL
  rw [zew fun w hw=>h w (List.mem_cons_of_mem _ hw)]
  split
  ·have:x≠n:=by rintro rfl;exact h v List.mem_cons_self
   simp [this]
  ·rfl
theorem zex {kindOf:Str->Option NameKind}{x:Str}:∀{binds:List (Str×Value)}{m:Str->Option Value},(∀v,(x,v)∉binds)->bindC kindOf binds m x=m x
 | [],_,_=>rfl
 | (n,v)::r,m,h=>by
  unfold bindC
  rw [zex fun w hw=>h w (List.mem_cons_of_mem _ hw)]
  split
  ·rfl
  ·have:x≠n:=by rintro rfl;exact h v List.mem_cons_self
   simp [this]
theorem zey {kindOf:Str->Option NameKind}{x:Str}{v:Value}:∀{P:List Str}{vs:List Value}{i:Nat}{m:Str->Option Value},P.Nodup->P[i]?=some x->vs[i]?=some v->kindOf x=some .local ->
  bindL kindOf (P.zip vs) m x=some v
 | [],_,_,_,_,h,_,_=>by simp at h
 | _::_,[],_,_,_,_,h,_=>by simp at h
 | p::P,w::vs,0,m,nd,h1,h2,hk=>by
  simp at h1 h2;subst h1;subst h2
  show bindL kindOf ((p,w)::P.zip vs) m p=_
  unfold bindL
  rw [zew fun v hv=>(List.nodup_cons.mp nd).1 (List.of_mem_zip hv).1,if_pos hk]
  simp
 | p::P,w::vs,i+1,m,nd,h1,h2,hk=>by
  show bindL kindOf ((p,w)::P.zip vs) m x=_
  unfold bindL
  exact zey (i:=i) (List.nodup_cons.mp nd).2 (by simpa using h1) (by simpa using h2) hk
theorem zez {kindOf:Str->Option NameKind}{x:Str}{v:Value}:∀{P:List Str}{vs:List Value}{i:Nat}{m:Str->Option Value},P.Nodup->P[i]?=some x->vs[i]?=some v->kindOf x≠some .local ->
  bindC kindOf (P.zip vs) m x=some v
 | [],_,_,_,_,h,_,_=>by simp at h
 | _::_,[],_,_,_,_,h,_=>by simp at h
 | p::P,w::vs,0,m,nd,h1,h2,hk=>by
  simp at h1 h2;subst h1;subst h2
  show bindC kindOf ((p,w)::P.zip vs) m p=_
  unfold bindC
  rw [zex fun v hv=>(List.nodup_cons.mp nd).1 (List.of_mem_zip hv).1,if_neg hk]
  simp
 | p::P,w::vs,i+1,m,nd,h1,h2,hk=>by
  show bindC kindOf ((p,w)::P.zip vs) m x=_
  unfold bindC
  exact zez (i:=i) (List.nodup_cons.mp nd).2 (by simpa using h1) (by simpa using h2) hk
def start (N:List Str) (vs:List V):St:=vs.map some++List.replicate (N.length-vs.length) none
def cxOf (CX:CXT) (P:Program) (w:World) (K:PySem.W.Frag) (mg:Str->Option Value) (base:Heap) (N:List Str) (qual:Str) (scope:Scope) (f:Addr) (cd:Value) (A:Around) (outer:List Env) (s:Shared) (H:Hp) (E:XK):Cx where
 prog:=P
 w:=w
 K:=K
 mg:=mg
 base:=base
 A:=A.deeper (envOfC qual scope s.heap.objs.size f cd)
 N:=N
 s₀:=s
 H₀:=H
 env:=envOfC qual scope s.heap.objs.size f cd
 outer:=outer
 stack:=envOfC qual scope s.heap.objs.size f cd::outer
 ex:=[]
 calm:=true
 fn:=fun _=>true
 pn:=[]
 xe:=fun e s'=>wpAny (model P w) (A.deeper (envOfC qual scope s.heap.objs.size f cd)) (leaving (envOfC qual scope s.heap.objs.size f cd) e) (fun _ s''=>CX outer H s E e s'') (fun e' s''=>CX outer H s E e' s'') s'
theorem zeA {sc:Scope}{n:Nat}{x:Str}(h:sc.names.lookup x=some .cell):∃c,(cellsFrom n sc.names []).lookup x=some c:=by
 have q:=PySem.W.cellsFrom_some sc.names n [] (.inl h)
 exact Option.isSome_iff_exists.mp q
theorem zjn {CX:CXT}{P:Program}{w:World}{K:PySem.W.Frag}{mg:Str->Option Value}{base:Heap}{N ps:List Str}{qual:Str}{scope:Scope}{f:Addr}{cd:Value}{A:Around}{outer:List Env}{s s1:Shared}{H:Hp}{E:XK}{us:List Value}{vs:List V}
  (S:FnScope N ps scope) (hd:A.handled=none) (e0:Env0 P w K mg base A outer s H) (hl:vs.length=ps.length) (r:Vals vs us)
  (x:InCallC s s.heap.objs.size (bindL (envOfC qual scope s.heap.objs.size f cd).kindOf (ps.zip us) fun _=>none) (cellsFrom (s.heap.objs.size+1) scope.names []) (bindC (envOfC qual scope s.heap.objs.size f cd).kindOf (ps.zip us) fun _=>none) s1) :
  Inv (cxOf CX P w K mg base N qual scope f cd A outer s H E) [] (start N vs) H s1:=by
 have hpl:ps.length<=N.length:=by have:=congrArg List.length S.pre;rw [List.length_take] at this;omega
 obtain ⟨h1,tk,rfl,hk⟩:=x.done
 have noA:∀b:Addr,b∉(cxOf CX P w K mg base N qual scope f cd A outer s H E).ex:=fun b z=>absurd (show b∈([]:List Addr) from z) (by simp)
 refine ⟨⟨e0.mod,S.kind,rfl,rfl,Nat.le_refl _,fun y z c h1 h2=>?_,fun y hy=>?_,fun y c _ h=>?_,fun _=>hd,Around.frames_deeper e0.frames,.inr ⟨rfl,rfl⟩,fun b z=>absurd z (noA b),e0.bs,e0.bsz,fun b _ _=>noA b,fun b z=>absurd z (noA b),e0.funs,e0.frf⟩,
  rfl,e0.bare,Un.kept hk,⟨_,x.toInCall.ns,fun i y v h1 h2 h3=>?_⟩,fun y c h=>⟨_,x.cell y c h⟩,e0.hok.fresh (Nat.le_refl _),fun y c h=>?_,fun p hp=>absurd (show p∈([]:List (Addr×Obj)) from hp) (by simp),e0.hok.kept hk,?_⟩
 ·exact name_of_addr x.apart (PySem.mem_of_lookup h1) (PySem.mem_of_lookup h2)
 ·have hy:scope.names.lookup y=some .cell\/scope.names.lookup y=some .free:=hy
  rcases hy with hy|hy
  ·exact zeA hy
  ·exact absurd rfl (S.nofree _ (PySem.mem_of_lookup hy))
 ·exact Nat.le_of_lt (x.above y c (PySem.mem_of_lookup h))
 ·have hi:i<vs.length:=by
   unfold start at h2
   by_cases hi:i<vs.length
   ·exact hi
   ·rw [List.getElem?_append_right (by simpa using hi)] at h2
    rw [List.getElem?_replicate] at h2
    split at h2<;>cases h2
  have ha:vs[i]?=some v:=by
   unfold start at h2
   rw [List.getElem?_append_left (by simpa using hi),List.getElem?_map] at h2
   cases e:vs[i]? with
   | none=>rw [e] at h2;cases h2
   | some a=>rw [e] at h2;cases h2;rfl
  obtain ⟨u,hu,rv⟩:=r.get ha
  have hp:ps[i]?=some y:=by
   rw [<-S.pre,List.getElem?_take_of_lt (by omega)];exact h1
  have ndP:ps.Nodup:=by rw [<-S.pre];exact S.nd.sublist (List.take_sublist _ _)
  refine ⟨u,rv,?_⟩
  rcases S.par y (List.mem_of_getElem? hp) with k|k
  ·exact .inl ⟨k,zey ndP hp hu k⟩
  ·obtain ⟨c,e⟩:=zeA (n:=s.heap.objs.size+1) k
   refine .inr ⟨.inl k,c,e,?_⟩
   have q:=x.cell y c e
   rw [zez ndP hp hu (by show scope.names.lookup y≠_;rw [k];decide)] at q
   exact q
 ·exact e0.hok.fresh (Nat.le_of_lt (x.above y c (PySem.mem_of_lookup h)))
 ·unfold start
  show _=N.length
  rw [List.length_append,List.length_map,List.length_replicate]
  omega
theorem zjo {CX:CXT}{P:Program}{w:World}{K:PySem.W.Frag}{mg:Str->Option Value}{base:Heap}{k:Nat}{f:Addr}{name qual:Str}{params:Arguments}{body:List Stmt}{scope:Scope}{dV kV doc pm cdv ct oc:Value}{an od:Option Addr}
  {osl:Array (Option Value)} {N ps:List Str} {sp:Sp} (lk:K.lookup f=some ⟨oc,od,.func (PySem.W.fnOf name qual params body scope dV kV doc pm an cdv ct),osl⟩) (hcd:PySem.W.codeIn K cdv qual=true) (S:FnScope N ps scope)
  (len:∀vs H Q E,sp vs H Q E->vs.length=ps.length)
  (hbody:∀(A:Around) (outer:List Env) (s:Shared) (H:Hp) (vs:List V) (Q:VK) (E:XK),Room k (A.deeper (envOfC qual scope s.heap.objs.size f cdv))->sp vs H Q E ->
   ∃t,PSs (cxOf CX P w K mg base N qual scope f cdv A outer s H E) body t/\t { nx:=fun _ H'=>Q .non H',rt:=Q } (start N vs) H) :
  FnOk P w K mg base CX (k+1) f (PySem.W.fnOf name qual params body scope dV kV doc pm an cdv ct) ps sp:=by
 refine ⟨len,fun A outer s H args us vs Q E hr e0 hb r hsp=>?_⟩
 have hl:=len _ _ _ _ hsp
 have KX:K.In s.heap:=e0.mod.kin.keeps fun b o e=>(e0.bs b o e).1
 have lim:s.heap.NoLimit:=e0.mod.nolimit.keeps fun b o e=>(e0.bs b o e).1
 have hkind:∀y∈ps.zip us,scope.names.lookup y.1=some .local\/(scope.names.lookup y.1=some .cell/\((cellsFrom (s.heap.objs.size+1) scope.names []).lookup y.1).isSome=true):=fun ⟨n,v⟩ hy=>by
  rcases S.par n (List.of_mem_zip hy).1 with q|q
  ·exact .inl q
  ·exact .inr ⟨q,PySem.W.cellsFrom_some _ _ _ (.inl q)⟩
 refine codeAny_call_function hr.depth (KX _ _ lk) rfl S.co S.gen rfl (PySem.W.codeRec_of KX hcd) (hb _ _ _ _ ?_)
 refine wpAny_newFunctionEnv_cells S.kind hkind fun env he s1 x=>?_
 subst he
 refine ⟨lim.keeps x.toInCall.keep,codeAny_func ?_⟩
 obtain ⟨t,ht,hq⟩:=hbody A outer s H vs Q E (hr.deeper _) hsp
 have I:Inv (cxOf CX P w K mg base N qual scope f cdv A outer s H E) [] (start N vs) H s1:=zjn S hr.hd e0 hl r x
 refine wpAny_mono (ht [] s1 (start N vs) H _ I hq) (fun fl s' hs=>?_) fun e s' hs=>hs
 have fin:∀{ah:St} {H':Hp} {v:V} {u:Value},Inv (cxOf CX P w K mg base N qual scope f cdv A outer s H E) [] ah H' s'->RelV v u->Q v H'->CE outer P w H s Q u s' :=
  fun {ah H' v u} J rv q=>⟨v,H',J.os,J.bare,J.base,J.hok,rv,q⟩
 cases fl with
 | ret u =>
  obtain ⟨v,ah,H',J,rv,q⟩:=hs
  exact fin J rv q
 | next =>
  obtain ⟨ah,H',J,q⟩:=hs
  exact fin (v:=V.non) (u:=Value.none) J rfl q
 | brk =>
  obtain ⟨_,_,_,q⟩:=hs
  exact False.elim q
 | cont =>
  obtain ⟨_,_,_,q⟩:=hs
  exact False.elim q
section
variable {X:Cx}{x:Str}{p pos:Pos}{e:Expr}{es:List Expr}{t:TA}{id T:String}{r:List V->Hp->VK->Prop}
def tCB (r:List V->Hp->VK->Prop) (t:TA):TE:=fun U H Q=>t U H fun vs H1=>r vs H1 Q
theorem zjp (hc:CallR X (.builtin id) r) (hg:Gl X x) (hm:X.mg x=none) (hv:bootBuiltins x=some (.builtin id)) (ha:PA X (e::es) t) (hn:x ≠ "__name__" := by decide) (hdb:(x==("__debug__" : Str))=false:=by decide)
  (he:starEach (e::es) X.env=(false,eval e X.env)::starEach es X.env:=by rfl) (hpl:(backTo pos (starEach es X.env)).any (·.1)=false:=by rfl):PE X (.Call (.Name x p) (e::es) [] pos) (tCB r t):=by
 intro pins s U H Q I h
 refine wpAny_Call_Name_kw (wZ I hg hm hv ?_ hn hdb)
 exact PyProof.Rows.callWith_builtin1 (thn (ha pos pins s U H _ I h) fun us s1 ⟨vs,H1,I1,r1,q1⟩=>hc pins s1 U H1 vs us Q I1 r1 q1) he hpl
theorem zjq (hc:CallR X (.type T) r) (hg:Gl X x) (hm:X.mg x=none) (hv:bootBuiltins x=some (.type T)) (ha:PA X (e::es) t) (hn:x ≠ "__name__" := by decide) (hdb:(x==("__debug__" : Str))=false:=by decide)
  (he:starEach (e::es) X.env=(false,eval e X.env)::starEach es X.env:=by rfl) (hpl:(backTo pos (starEach es X.env)).any (·.1)=false:=by rfl):PE X (.Call (.Name x p) (e::es) [] pos) (tCB r t):=by
 intro pins s U H Q I h
 refine wpAny_Call_Name_kw (wZ I hg hm hv ?_ hn hdb)
 exact PyProof.Rows.callWith_type1 (thn (ha pos pins s U H _ I h) fun us s1 ⟨vs,H1,I1,r1,q1⟩=>hc pins s1 U H1 vs us Q I1 r1 q1) he hpl
end
end L2
namespace HT
open PySem PyProof.Rows
section
open PySem.SeqAt
open PySem.AutoSeq1 (wpAny_loadPart')
open PySem.MeetsSeq PySem.MeetsSeq2 PySem.MeetsSeq3
end
section
variable {prog:Program}{w:World}{A:Around}{E:Value->Shared->Prop}{s:Shared}
theorem cat_tup {t b:Addr}{vs ws:List Value}{Q:Value->Shared->Prop}(ht:IsTup s.heap t vs.toArray) (hb:IsTup s.heap b ws.toArray) (hv:vs≠[])
  (h1:ws=[]->Q (.ref t) s) (h2:ws≠[]->Q (.ref s.heap.objs.size) { s with heap:=s.heap.push { cls:=.type "tuple", data:=.seq (vs++ws).toArray } })
  (hsz:vs.length+ws.length<=sizeLine):wpAny (model prog w) A (binaryOp .Add (.ref t) (.ref b)) Q E s:=by
 obtain ⟨⟨cls,dd,data,sl⟩,ho,hc,n,hd⟩:=id ht
 obtain ⟨⟨cls2,dd2,data2,sl2⟩,ho2,hc2,n2,hd2⟩:=id hb
 simp only at hc hd hc2 hd2
 subst hc hd hc2 hd2
 have e:vs.toArray++ws.toArray=(vs++ws).toArray:=by simp
 by_cases hw:ws=[]
 ·exact concat_meets ⟨_,ho,rfl⟩ ⟨_,ho2,rfl⟩ noFill_tuple_add seq_tuple_add PySem.F.slot_tuple_add PySem.F.entry_tuple_add (PySem.F.args_tuple_add_2 _ _)
   (tuple_addW1 t b vs.toArray ws.toArray n n2 dd dd2 sl sl2 (by simpa using hv) (by simp [hw])) ⟨ho,ho2,h1 hw⟩
 ·refine concat_meets ⟨_,ho,rfl⟩ ⟨_,ho2,rfl⟩ noFill_tuple_add seq_tuple_add PySem.F.slot_tuple_add PySem.F.entry_tuple_add (PySem.F.args_tuple_add_2 _ _)
   (tuple_addW2 t b vs.toArray ws.toArray n n2 dd dd2 sl sl2 (by simpa using hv) (by simpa using hw) (by rw [List.size_toArray,List.size_toArray];exact hsz)) ⟨ho,ho2,?_⟩
  rw [e]
  exact h2 hw
def sIx (n d:Nat):Option Int->Nat
 | none=>d
 | some v=>if v<0 then (v+(n:Int)).toNat else min v.toNat n
theorem zjr (n d:Nat) (hd:d<=n) (o:Option Int):sIx n d o<=n:=by
 cases o with
 | none=>exact hd
 | some v =>
  show (if v<0 then (v+(n:Int)).toNat else min v.toNat n)<=n
  by_cases hv:v<0
  ·rw [if_pos hv];omega
  ·rw [if_neg hv];exact Nat.min_le_right _ _
theorem zeC (v:Int) (n d:Nat):(if v<0 then max (v+(n:Int)) 0 else min v (n:Int))=((sIx n d (some v):Nat):Int):=by
 show (if v<0 then max (v+(n:Int)) 0 else min v (n:Int))=(((if v<0 then (v+(n:Int)).toNat else min v.toNat n):Nat):Int)
 by_cases hv:v<0
 ·simp only [if_pos hv];omega
 ·simp only [if_neg hv];omega
theorem zjs (lo hi:Option Int) (n:Nat):Builtin.Slice.sliceAdjust lo hi 1 (n:Int)=(((sIx n 0 lo:Nat):Int),((sIx n n hi:Nat):Int)):=by
 have h1:¬((1:Int)<0):=by omega
 unfold Builtin.Slice.sliceAdjust
 simp only [h1,if_false]
 refine Prod.ext ?_ ?_
 ·cases lo with
  | none=>rfl
  | some v=>exact zeC v n 0
 ·cases hi with
  | none=>rfl
  | some v=>exact zeC v n n
theorem zjt (i j:Nat):Builtin.Slice.slicePlaces (i:Int) (j:Int) 1=j-i:=by
 unfold Builtin.Slice.slicePlaces
 have h1:(1:Int)>0:=by omega
 simp only [h1,if_true,Int.ediv_one]
 split<;>omega
theorem zeD {v:Value}{o:Option Int}{Q:Option Int->Shared->Prop}(p:IsPart v o) (h:Q o s):wpAny (model prog w) A (Builtin.Slice.slicePartIndex v) Q E s:=by
 cases p with
 | none=>exact slicePart_none h
 | int i t=>exact slicePart_int h
theorem zeE {sl:Addr}{vl vu:Value}{lo hi:Option Int}{n:Nat}{Q:Int×Int×Nat->Shared->Prop}(hs:s.heap.IsSliceOf sl vl vu .none) (pl:IsPart vl lo) (pu:IsPart vu hi)
  (h:Q (((sIx n 0 lo:Nat):Int),1,sIx n n hi-sIx n 0 lo) s):wpAny (model prog w) A (Builtin.Slice.sliceApplied (.ref sl) (pure (n:Int))) Q E s:=by
 obtain ⟨os,hos,hcs,hds⟩:=id hs
 unfold Builtin.Slice.sliceApplied Builtin.Slice.sliceFields
 refine wpAny_bind (wpAny_bind (wpAny_field hos hds (x:=vl) rfl (wpAny_bind (wpAny_field hos hds (x:=vu) rfl (wpAny_bind (wpAny_field hos hds (x:=.none) rfl (wpAny_pure ?_)))))))
 refine wpAny_bind (slicePart_none ?_)
 show wpAny _ _ (if ((1:Int)==0)=true then _ else _) _ _ s
 rw [if_neg (by decide)]
 refine wpAny_bind (zeD pl (wpAny_bind (zeD pu (wpAny_bind (wpAny_pure ?_)))))
 show wpAny _ _ (match Builtin.Slice.sliceAdjust lo hi 1 (n:Int) with|(lo,hi)=>pure (lo,(1:Int),Builtin.Slice.slicePlaces lo hi 1)) _ _ s
 rw [zjs lo hi n]
 show wpAny _ _ (pure (((sIx n 0 lo:Nat):Int),(1:Int),Builtin.Slice.slicePlaces ((sIx n 0 lo:Nat):Int) ((sIx n n hi:Nat):Int) 1)) _ _ s
 rw [zjt]
 exact wpAny_pure h
theorem zju (xs:Array Value) (i k:Nat):((List.range k).filterMap fun (m:Nat)=>xs[((i:Int)+(m:Int)*1).toNat]?).toArray=((xs.toList.drop i).take k).toArray:=by
 have e:(fun (m:Nat)=>xs[((i:Int)+(m:Int)*1).toNat]?)=fun m=>xs[i+m]?:=by
  funext m
  have:((i:Int)+(m:Int)*1).toNat=i+m:=by omega
  rw [this]
 rw [e]
 have:=pick_run xs i k
 rw [List.filterMap_map] at this
 have e2:((fun x=>xs[x]?)∘fun x=>i+x)=fun m=>xs[i+m]?:=rfl
 rw [e2] at this
 rw [this]
theorem getItem_tuple_cut {t sl:Addr}{items:Array Value}{vl vu:Value}{lo hi:Option Int}{Q:Value->Shared->Prop}(ht:IsTup s.heap t items) (hs:s.heap.IsSliceOf sl vl vu .none) (pl:IsPart vl lo) (pu:IsPart vu hi)
  (hw:¬(sIx items.size 0 lo=0/\sIx items.size items.size hi=items.size))
  (h:Q (.ref s.heap.objs.size) { s with heap:=s.heap.push { cls:=.type "tuple", data:=.seq ((items.toList.drop (sIx items.size 0 lo)).take (sIx items.size items.size hi-sIx items.size 0 lo)).toArray } })
  (hsz:items.size<=sizeLine):wpAny (model prog w) A (getItem (.ref t) (.ref sl)) Q E s:=by
 have htake:sizeOk (.seq ((items.toList.drop (sIx items.size 0 lo)).take (sIx items.size items.size hi-sIx items.size 0 lo)).toArray):=by
  show ((items.toList.drop (sIx items.size 0 lo)).take (sIx items.size items.size hi-sIx items.size 0 lo)).toArray.size<=sizeLine
  rw [List.size_toArray,List.length_take,List.length_drop,Array.length_toList]
  omega
 have hj:sIx items.size items.size hi<=items.size:=zjr _ _ (Nat.le_refl _) hi
 obtain ⟨os,hos,hcs,hds⟩:=id hs
 have hTs:s.TypeIs (.ref sl) "slice" := ⟨os,hos,hcs⟩
 unfold getItem
 try with_reducible refine wpAny_holding ?_
 first|refine wpAny_bind (wpAny_pure ?_)|skip
 refine wpAny_bind (wpAny_sequenceKey ht.typeIs (by decide) ?_)
 refine wpAny_bind (wpAny_callSpecial?_slot (name:=Str.ofString "__getitem__") ht.typeIs PyProof.Rows.slot_tuple_getitem
  (wpAny_call_entry PyProof.Rows.slot_tuple_getitem ht.typeIs entry_tuple_getitem ?_ (args_tuple_getitem _ _)))
 show wpAny _ _ (Builtin.Tuple.tupleItemsOf (.ref t) >>= _) _ _ s
 refine wpAny_bind (tupleItemsOf_ ht ?_)
 refine wpAny_bind (wpAny_typeOf hTs ?_)
 rw [if_pos (by decide)]
 refine wpAny_bind (zeE hs pl pu ?_)
 have hno:¬((((sIx items.size 0 lo:Nat):Int)==0&&(1:Int)==1&&(sIx items.size items.size hi-sIx items.size 0 lo)==items.size)=true):=by
  intro q
  rw [Bool.and_eq_true,Bool.and_eq_true] at q
  have q1:((sIx items.size 0 lo:Nat):Int)=0:=eq_of_beq q.1.1
  have q2:sIx items.size items.size hi-sIx items.size 0 lo=items.size:=eq_of_beq q.2
  exact hw ⟨by omega,by omega⟩
 show wpAny _ _ (if (((sIx items.size 0 lo:Nat):Int)==0&&(1:Int)==1&&(sIx items.size items.size hi-sIx items.size 0 lo)==items.size)=true then _ else _) _ _ s
 rw [if_neg hno,zju]
 first
  | exact wpAny_bind (m:=Builtin.Tuple.tupleExact _) (wpAny_newObj_type (wpAny_pure ⟨_,rfl,wpAny_pure h⟩) htake)
  | exact wpAny_bind (m:=Builtin.Tuple.tupleExact _) (wpAny_newObj_type (wpAny_bind (wpAny_pure (wpAny_pure ⟨_,rfl,wpAny_pure h⟩))) htake)
  | exact wpAny_bind (wpAny_bind (m:=Builtin.Tuple.tupleExact _) (wpAny_newObj_type (wpAny_pure (wpAny_pure ⟨_,rfl,wpAny_pure h⟩)) htake))
  | exact wpAny_bind (wpAny_bind (m:=Builtin.Tuple.tupleExact _) (wpAny_newObj_type (wpAny_pure ⟨_,rfl,wpAny_pure h⟩) htake))
end
end HT
namespace L2
open PySem PySem.Spec PyProof.Rows
abbrev TO:=St->Hp->(Option Int->Hp->Prop)->Prop
def PO (X:Cx) (e:Option Expr) (t:TO):Prop :=
 ∀(pins:List (Addr×Obj)) (s:Shared) (U:St) (H:Hp) (Q:Option Int->Hp->Prop),Inv X pins U H s->t U H Q ->
  wpAny (model X.prog X.w) X.A (evalPart e X.env) (fun u s'=>∃o H',Inv X pins U H' s'/\IsPart u o/\Q o H') X.xe s
def zjv:TO:=fun _ H Q=>Q none H
def zjw (t:TE):TO:=fun U H Q=>t U H fun x H1=>∃i,x=.int i/\Q (some i) H1
section
variable {X:Cx}{e:Expr}{te:TE}{lo hi:Option Expr}{tl th:TO}{pos p2:Pos}
theorem zjx:PO X none zjv:=by
 intro pins s U H Q I h
 rw [evalPart_none]
 exact wpAny_pure ⟨none,H,I,.none,h⟩
theorem zjy (h:PE X e te):PO X (some e) (zjw te):=by
 intro pins s U H Q I hw
 rw [evalPart_some]
 refine thn (h pins s U H _ I hw) fun u s1 ⟨x,H1,I1,r1,q1⟩=>?_
 obtain ⟨i,rfl,q⟩:=q1
 obtain ⟨t,rfl⟩:=r1
 exact ⟨some i,H1,I1,.int i t,q⟩
def SlR (X:Cx) (r:V->Option Int->Option Int->Hp->VK->Prop):Prop :=
 ∀(pins:List (Addr×Obj)) (s:Shared) (U:St) (H:Hp) (x:V) (v vl vu:Value) (lo hi:Option Int) (sl:Addr) (Q:VK),Inv X pins U H s->RelV x v->s.heap.IsSliceOf sl vl vu .none->IsPart vl lo->IsPart vu hi->r x lo hi H Q ->
  ∃T id,typeLookup (.type T) "__getitem__" = pure (some (.builtin id))/\s.TypeIs v T/\wpAny (model X.prog X.w) X.A (getItem v (.ref sl)) (EP X pins U Q) X.xe s
theorem SlR.or {r r':V->Option Int->Option Int->Hp->VK->Prop}(h:SlR X r) (h':SlR X r'):SlR X (fun x lo hi H Q=>r x lo hi H Q\/r' x lo hi H Q):=by
 intro pins s U H x v vl vu lo hi sl Q I rx hs pl pu q
 rcases q with q|q
 ·exact h pins s U H x v vl vu lo hi sl Q I rx hs pl pu q
 ·exact h' pins s U H x v vl vu lo hi sl Q I rx hs pl pu q
def tSl (r:V->Option Int->Option Int->Hp->VK->Prop) (te:TE) (tl th:TO):TE:=fun U H Q=>te U H fun x H1=>tl U H1 fun l H2=>th U H2 fun u H3=>r x l u H3 Q
theorem zjA {r:V->Option Int->Option Int->Hp->VK->Prop}(hr:SlR X r) (he:PE X e te) (hl:PO X lo tl) (hu:PO X hi th):PE X (.Subscript e (.Slice lo hi none p2) pos) (tSl r te tl th):=by
 intro pins s U H Q I h
 refine Subscript_ (thn (he pins s U H _ I h) fun v s1 ⟨x,H1,I1,r1,q1⟩=>?_)
 refine wpAny_Slice (thn (hl pins s1 U H1 _ I1 q1) fun vl s2 ⟨l,H2,I2,pl,q2⟩=>thn (hu pins s2 U H2 _ I2 q2) fun vu s3 ⟨u,H3,I3,pu,q3⟩=>?_)
 rw [evalPart_none]
 refine wpAny_pure ?_
 have I4:Inv X pins U H3 { s3 with heap:=s3.heap.push { cls:=.type "slice", data:=.fields #[vl,vu,.none] } }:=I3.kept (t':=s3.toks) fun b ob q=>Heap.get?_push_of_some _ q
 obtain ⟨T,id,hT,ht,hg⟩:=hr pins { s3 with heap:=s3.heap.push { cls:=.type "slice", data:=.fields #[vl,vu,.none] } } U H3 x v vl vu l u s3.heap.objs.size Q I4 r1 (Heap.IsSliceOf.new ..) pl pu q3
 show wpAny (model X.prog X.w) X.A (subscriptTail e (.Slice lo hi none p2) v (.ref s3.heap.objs.size)) (EP X pins U Q) X.xe { s3 with heap:=s3.heap.push { cls:=.type "slice", data:=.fields #[vl,vu,.none] } }
 exact tail_any (ops:=[.ref s3.heap.objs.size,v]) ht hT hg (by with_unfolding_all rfl)
def cutV (xs:List V) (lo hi:Option Int):List V:=(xs.drop (HT.sIx xs.length 0 lo)).take (HT.sIx xs.length xs.length hi-HT.sIx xs.length 0 lo)
theorem zeF (xs:List V) (lo hi:Option Int):(cutV xs lo hi).length<=xs.length:=by
 unfold cutV
 rw [List.length_take,List.length_drop]
 omega
def zjB (K:PySem.W.Frag):V->Option Int->Option Int->Hp->VK->Prop:=fun x lo hi H Q=>∃a xs,x=.ref a/\SqT K H a xs /\
 ¬(HT.sIx xs.length 0 lo=0/\HT.sIx xs.length xs.length hi=xs.length)/\∀p,H p=none->Q (.ref p) (upd H p (.tup (cutV xs lo hi)))
theorem zjC:SlR X (zjB X.K):=by
 intro pins s U H x v vl vu lo hi sl Q I rx hs pl pu h
 obtain ⟨a,xs,rfl,hx,hw,q⟩:=h
 cases rx
 obtain ⟨its,r,ht,hz⟩:=I.tuple hx
 have hlen:its.toArray.size=xs.length:=by rw [List.size_toArray];exact r.length.symm
 refine ⟨"tuple", _,PyProof.Rows.slot_tuple_getitem.lookup,ht.typeIs,?_⟩
 refine HT.getItem_tuple_cut ht hs pl pu (by rw [hlen];exact hw) ?_ (by rw [hlen];exact hz)
 rw [hlen]
 refine ⟨.ref s.heap.objs.size,_,I.laid (t':=s.toks) (o:=.tup (cutV xs lo hi)) (fun b ob q=>Heap.get?_push_of_some _ q) (Nat.le_refl _) ?_,rfl,q _ (I.hok.fresh (Nat.le_refl _))⟩
 exact ⟨Nat.le_trans (zeF xs lo hi) hz,_,(r.drop (HT.sIx xs.length 0 lo)).take (HT.sIx xs.length xs.length hi-HT.sIx xs.length 0 lo),IsTup.new _ _⟩
def zjD (K:PySem.W.Frag):R2:=fun x y H Q=>∃a b xs ys,x=.ref a/\y=.ref b/\SqT K H a xs/\SqT K H b ys/\xs≠[]/\xs.length+ys.length<=sizeLine /\
 (ys=[]->Q (.ref a) H)/\(ys≠[]->∀p,H p=none->Q (.ref p) (upd H p (.tup (xs++ys))))
theorem Vals.nil_iff {xs:List V}{us:List Value}(r:Vals xs us):us=[]↔xs=[]:=by
 cases r with
 | nil=>simp
 | cons _ _=>simp
theorem zjE:OpR X (binaryOp .Add) (zjD X.K):=by
 intro pins s U H x y v u Q I rx ry h
 obtain ⟨a,b,xs,ys,rfl,rfl,ha,hb,hx,hz,q1,q2⟩:=h
 cases rx
 cases ry
 obtain ⟨its,r1,p1,_⟩:=I.tuple ha
 obtain ⟨its2,r2,p2,_⟩:=I.tuple hb
 refine HT.cat_tup p1 p2 (fun z=>hx (r1.nil_iff.mp z)) (fun z=>⟨.ref a,H,I,rfl,q1 (r2.nil_iff.mp z)⟩) (fun z=>?_) (by rw [<-r1.length,<-r2.length];exact hz)
 refine ⟨.ref s.heap.objs.size,_,I.laid (t':=s.toks) (o:=.tup (xs++ys)) (fun b ob q=>Heap.get?_push_of_some _ q) (Nat.le_refl _) ?_,rfl,q2 (fun w=>z (r2.nil_iff.mpr w)) _ (I.hok.fresh (Nat.le_refl _))⟩
 exact ⟨by rw [List.length_append];exact hz,_,r1.append r2,IsTup.new _ _⟩
end
def ixN (n:Nat) (i:Int):Option Nat:=if 0<=i then (if i<n then some i.toNat else none) else if -(n:Int)<=i then some (i+n).toNat else none
def atI {α:Type}(xs:List α) (i:Int):Option α:=(ixN xs.length i).bind fun j=>xs[j]?
theorem zjF {n:Nat}{i:Int}{j:Nat}(h:ixN n i=some j):seqIndex? i n=some j/\j<n /\ -(n:Int)<=i/\i<n:=by
 unfold ixN at h
 by_cases h0:0<=i
 ·rw [if_pos h0] at h
  by_cases h1:i<n
  ·rw [if_pos h1] at h
   have e:i.toNat=j:=Option.some.inj h
   exact ⟨by rw [seqIndex_of h0 h1,e],by omega,by omega,h1⟩
  ·rw [if_neg h1] at h;cases h
 ·rw [if_neg h0] at h
  by_cases h1 : -(n:Int)<=i
  ·rw [if_pos h1] at h
   have e:(i+n).toNat=j:=Option.some.inj h
   exact ⟨by rw [seqIndex_neg (by omega) h1,e],by omega,h1,by omega⟩
  ·rw [if_neg h1] at h;cases h
theorem atI_get {α:Type}{xs:List α}{i:Int}{v:α}(h:atI xs i=some v):∃j,seqIndex? i xs.length=some j/\xs[j]?=some v/\j<xs.length /\ -(xs.length:Int)<=i/\i<xs.length:=by
 unfold atI at h
 cases e:ixN xs.length i with
 | none=>rw [e] at h;cases h
 | some j =>
  rw [e] at h
  obtain ⟨h1,h2,h3,h4⟩:=zjF e
  exact ⟨j,h1,h,h2,h3,h4⟩
def PlainIx (b:Expr):Prop:=∀o i,subscripted b false o i=operate [o,i] (getItem o i)
def IxR (X:Cx) (r:R2):Prop :=
 ∀(value slice:Expr) (pins:List (Addr×Obj)) (s:Shared) (U:St) (H:Hp) (x y:V) (v u:Value) (Q:VK),Inv X pins U H s->RelV x v->RelV y u->r x y H Q ->
  subscripted slice false v u=operate [v,u] (getItem v u)->wpAny (model X.prog X.w) X.A (subscriptTail value slice v u) (EP X pins U Q) X.xe s
def MtR (X:Cx) (id:String) (r:V->List V->Hp->VK->Prop):Prop :=
 ∀(pins:List (Addr×Obj)) (s:Shared) (U:St) (H:Hp) (x:V) (xs:List V) (v:Value) (us:List Value) (Q:VK),Inv X pins U H s->RelV x v->Vals xs us->r x xs H Q ->
  wpAny (model X.prog X.w) X.A (call (.builtin id) (v::us)) (EP X pins U Q) X.xe s
section
variable {X:Cx}{a b:Expr}{ta tb:TE}{pos:Pos}
theorem IxR.or {r r':R2}(h:IxR X r) (h':IxR X r'):IxR X (fun x y H Q=>r x y H Q\/r' x y H Q):=by
 intro value slice pins s U H x y v u Q I rx ry q hs
 rcases q with q|q
 ·exact h value slice pins s U H x y v u Q I rx ry q hs
 ·exact h' value slice pins s U H x y v u Q I rx ry q hs
theorem zjG {r:R2}(hr:IxR X r) (ha:PE X a ta) (hb:PE X b tb) (hs:PlainIx b):PE X (.Subscript a b pos) (tOp r ta tb):=by
 intro pins s U H Q I h
 exact Subscript_ (binT ha hb I h fun v u s2 x y H2 I2 rx ry q=>hr a b pins s2 U H2 x y v u Q I2 rx ry q (hs _ _))
def zeG (K:PySem.W.Frag):R2:=fun x y H Q=>∃p xs i v,x=.ref p/\y=.int i/\SqL K H p xs/\atI xs i=some v/\Q v H
def zeH (K:PySem.W.Frag):R2:=fun x y H Q=>∃p xs i v,x=.ref p/\y=.int i/\SqT K H p xs/\atI xs i=some v/\Q v H
def zeI:R2:=fun x y H Q=>∃z i c,x=.str z/\y=.int i/\z.length<=sizeLine/\atI z.cps.toList i=some c/\Q (.str ⟨#[c]⟩) H
theorem zjH:IxR X (zeG X.K):=by
 intro value slice pins s U H x y v u Q I rx ry h hs
 obtain ⟨p,xs,i,z,rfl,rfl,hq,he,q⟩:=h
 cases rx
 obtain ⟨t,rfl⟩:=ry
 obtain ⟨its,r,pl,hz⟩:=I.list hq
 obtain ⟨j,h1,h2,h3,h4,h5⟩:=atI_get he
 obtain ⟨w,ew,rw'⟩:=r.get h2
 have hl:=r.length
 have hn:=zbe
 have fin:EP X pins U Q w s:=⟨z,H,I,rw',q⟩
 by_cases h0:0<=i
 ·have hj:i.toNat=j:=by
   rw [seqIndex_of h0 h5] at h1
   exact Option.some.inj h1
  exact item_listR pl.isList h0 (by omega) (by rw [hj];simpa using ew) fin hs
 ·have hj:(i+(its.toArray.size:Int)).toNat=j:=by
   rw [seqIndex_neg (by omega) h4] at h1
   rw [List.size_toArray,<-hl]
   exact Option.some.inj h1
  exact subscriptTail_builtinR (x:=w) pl.isList.typeIs slot_list_getitem.lookup
   (wpAny_getItem_list_neg (Q:=fun r s'=>r=w/\EP X pins U Q r s') pl.isList (by omega) (by rw [List.size_toArray]<;>omega) (by omega) (by rw [hj];simpa using ew) ⟨rfl,fin⟩) hs
theorem zjI:IxR X (zeH X.K):=by
 intro value slice pins s U H x y v u Q I rx ry h hs
 obtain ⟨p,xs,i,z,rfl,rfl,hq,he,q⟩:=h
 cases rx
 obtain ⟨t,rfl⟩:=ry
 obtain ⟨its,r,pl,hz⟩:=I.tuple hq
 obtain ⟨j,h1,h2,h3,h4,h5⟩:=atI_get he
 obtain ⟨w,ew,rw'⟩:=r.get h2
 have hl:=r.length
 have hn:=zbe
 have fin:EP X pins U Q w s:=⟨z,H,I,rw',q⟩
 exact subscriptTail_builtinR (x:=w) pl.typeIs slot_tuple_getitem.lookup
  (getItem_tuple (j:=j) (Q:=fun r s'=>r=w/\EP X pins U Q r s') pl (by omega) (by omega) (by rw [List.size_toArray,<-hl];exact h1) (by simpa using ew) ⟨rfl,fin⟩) hs
theorem ix_str:IxR X zeI:=by
 intro value slice pins s U H x y v u Q I rx ry h hs
 obtain ⟨z,i,c,rfl,rfl,hz,he,q⟩:=h
 obtain ⟨t,rfl⟩:=rx
 obtain ⟨t',rfl⟩:=ry
 obtain ⟨j,h1,h2,h3,h4,h5⟩:=atI_get he
 have hl:z.cps.toList.length=z.length:=by simp [Str.length]
 rw [hl] at h1 h4 h5
 have hn:=zbe
 exact tail_any (typeIs_str s z t) slot_str_getitem.lookup (getItem_str (c:=c) (by
  have e1:decide (i < -(2 ^ 63:Int))=false:=decide_eq_false (by omega)
  have e2:decide (i>=2 ^ 63)=false:=decide_eq_false (by omega)
  rw [e1,e2,Bool.or_false]) (by rw [h1];simpa using h2) ⟨.str ⟨#[c]⟩,H,I.tok _,⟨_,rfl⟩,q⟩) hs
def rIx (K:PySem.W.Frag):R2:=fun x y H Q=>zeG K x y H Q\/zeH K x y H Q\/zeI x y H Q
theorem zjK:IxR X (rIx X.K):=zjH.or (zjI.or ix_str)
theorem zjL (lo hi:Option Int) (n:Nat):(sliceBounds lo hi none n).1=((HT.sIx n 0 lo:Nat):Int)/\(sliceBounds lo hi none n).2.1=((HT.sIx n n hi:Nat):Int)/\(sliceBounds lo hi none n).2.2=1:=by
 refine ⟨?_,?_,rfl⟩
 ·cases lo with
  | none=>simp [sliceBounds,HT.sIx]
  | some i =>
   simp only [sliceBounds,HT.sIx,Option.getD_none,show (1:Int)>0 by decide,if_true]
   by_cases h:i<0
   ·simp only [h,if_true]<;>omega
   ·simp only [h,if_false]<;>omega
 ·cases hi with
  | none=>simp [sliceBounds,HT.sIx]
  | some i =>
   simp only [sliceBounds,HT.sIx,Option.getD_none,show (1:Int)>0 by decide,if_true]
   by_cases h:i<0
   ·simp only [h,if_true]<;>omega
   ·simp only [h,if_false]<;>omega
theorem zjM (its:List Value) (lo hi:Option Int):slicePick its.toArray lo hi none=((its.drop (HT.sIx its.length 0 lo)).take (HT.sIx its.length its.length hi-HT.sIx its.length 0 lo)).toArray:=by
 obtain ⟨h1,h2,h3⟩:=zjL lo hi its.toArray.size
 unfold slicePick
 rw [h1,h2,h3]
 simp only [sliceRange_one,pick_run,List.size_toArray]<;>rfl
def zjN (K:PySem.W.Frag):V->Option Int->Option Int->Hp->VK->Prop:=fun x lo hi H Q=>∃a xs,x=.ref a/\SqL K H a xs/\∀p,H p=none->Q (.ref p) (upd H p (.lst (cutV xs lo hi)))
theorem zjO:SlR X (zjN X.K):=by
 intro pins s U H x v vl vu lo hi sl Q I rx hs pl pu h
 obtain ⟨a,xs,rfl,hx,q⟩:=h
 cases rx
 obtain ⟨its,r,ht,hz⟩:=I.list hx
 have hlen:=r.length
 refine ⟨"list", _,slot_list_getitem.lookup,ht.isList.typeIs,?_⟩
 refine wpAny_getItem_list_slice ht.isList hs pl pu .none (by simp) ?_ (by rw [List.size_toArray]<;>omega)
 rw [zjM,<-hlen]
 refine ⟨.ref s.heap.objs.size,_,I.laid (t':=s.toks) (o:=.lst (cutV xs lo hi)) (fun b ob q=>Heap.get?_push_of_some _ q) (Nat.le_refl _) ?_,rfl,q _ (I.hok.fresh (Nat.le_refl _))⟩
 exact ⟨Nat.le_trans (zeF xs lo hi) hz,_,0,(r.drop (HT.sIx xs.length 0 lo)).take (HT.sIx xs.length xs.length hi-HT.sIx xs.length 0 lo),Heap.get?_push_size _ rfl⟩
theorem CallR.or {f:Value}{r r':List V->Hp->VK->Prop}(h:CallR X f r) (h':CallR X f r'):CallR X f (fun xs H Q=>r xs H Q\/r' xs H Q):=by
 intro pins s U H xs us Q I rs q
 rcases q with q|q
 ·exact h pins s U H xs us Q I rs q
 ·exact h' pins s U H xs us Q I rs q
theorem zjP:CallR X (.type "tuple") (fun xs H Q=>∃p ys,xs=[.ref p]/\((SqL X.K H p ys/\∀l,H l=none->Q (.ref l) (upd H l (.tup ys)))\/(SqT X.K H p ys/\Q (.ref p) H))):=by
 intro pins s U H xs us Q I r h
 obtain ⟨p,ys,rfl,h⟩:=h
 obtain ⟨u,rfl,rx⟩:=wE r
 cases rx
 rcases h with ⟨hq,q⟩|⟨hq,q⟩
 ·obtain ⟨its,r',pl,hz⟩:=I.list hq
  have hlen:=r'.length
  refine call_tuple_list pl.isList (fun h' kp=>?_) (by simp only [List.size_toArray]<;>omega)
  have I1:Inv X pins U H { s with heap:=h' }:=I.kept (t':=s.toks) kp
  have I2:Inv X pins U (upd H h'.objs.size (.tup ys)) { s with heap:=h'.push { cls:=.type "tuple", data:=.seq its.toArray } } :=
   I1.laid (t':=s.toks) (fun b o e=>Heap.get?_push_of_some _ e) (Nat.le_refl _) (show ObjOk X.prog X.w _ _ _ (.tup ys) from ⟨hz,its,r',IsTup.new _ _⟩)
  exact ⟨.ref h'.objs.size,_,I2,rfl,q _ (I1.hok.fresh (Nat.le_refl _))⟩
 ·obtain ⟨its,r',pl,hz⟩:=I.tuple hq
  exact call_tuple_same pl ⟨.ref p,H,I,rfl,q⟩
def tyV (K:PySem.W.Frag) (T:String) (x:V) (H:Hp):Prop:=match x with
 | .str _=>T = "str"
 | .int _=>T = "int"
 | .ref p=>(T = "list" /\ ∃xs,SqL K H p xs)\/(T = "tuple" /\ ∃o,K.lookup p=some o/\o.cls=.type "tuple" /\ o.dict=none) \/
   (T = "dict" /\ ((∃kvs,H p=some (.dK kvs))\/∃kvs,H p=some (.dT kvs)))\/(T = "set" /\ ∃S n,H p=some (.set S n))
 | _=>False
theorem zjQ {pins:List (Addr×Obj)}{U:St}{H:Hp}{s:Shared}{T:String}{x:V}{v:Value}(I:Inv X pins U H s) (r:RelV x v) (ty:tyV X.K T x H) :
  s.TypeIs v T/\∀a,v=.ref a->∃ob,s.heap.get? a=some ob/\ob.dict=none:=by
 cases x with
 | str z =>
  obtain ⟨t,rfl⟩:=r
  cases (show T = "str" from ty)
  exact ⟨typeIs_str s z t,fun _ e=>nomatch e⟩
 | int i =>
  obtain ⟨t,rfl⟩:=r
  cases (show T = "int" from ty)
  exact ⟨typeIs_int s i t,fun _ e=>nomatch e⟩
 | ref p =>
  cases r
  rcases ty with ⟨rfl,xs,hq⟩|⟨rfl,o,hk,hc,hd⟩|⟨rfl,hk⟩|⟨rfl,S,n,hk⟩
  ·obtain ⟨its,_,pl,_⟩:=I.list hq
   refine ⟨pl.isList.typeIs,fun a e=>?_⟩
   cases e
   obtain ⟨o,n,e,c,hd,_⟩:=pl
   exact ⟨o,e,hd⟩
  ·refine ⟨⟨o,I.kIn p o hk,hc⟩,fun a e=>?_⟩
   cases e
   exact ⟨o,I.kIn _ o hk,hd⟩
  ·have z:∃o,s.heap.get? p=some o/\o.ExactDict:=by
    rcases hk with ⟨kvs,hk⟩|⟨kvs,hk⟩
    ·obtain ⟨_,_,_,_,o,_,_,e,ex,_⟩:=I.hok p _ hk
     exact ⟨o,e,ex⟩
    ·obtain ⟨_,_,_,_,o,_,_,e,ex,_⟩:=I.hok p _ hk
     exact ⟨o,e,ex⟩
   obtain ⟨o,e,ex⟩:=z
   refine ⟨⟨o,e,ex.1⟩,fun a e2=>?_⟩
   cases e2
   exact ⟨o,e,ex.2.1⟩
  ·obtain ⟨o,_,_,_,e,ex,_⟩:=I.hok p _ hk
   refine ⟨⟨o,e,ex.1⟩,fun a e2=>?_⟩
   cases e2
   exact ⟨o,e,ex.2.1⟩
 | _=>exact False.elim ty
def tBM (K:PySem.W.Frag) (T:String) (r:V->List V->Hp->VK->Prop) (to:TE) (t:TA):TE:=fun U H Q=>to U H fun x H1=>tyV K T x H1/\t U H1 fun xs H2=>r x xs H2 Q
variable {o e:Expr}{es:List Expr}{to:TE}{t:TA}{name:Str}{apos cpos:Pos}{T id:String}{r:V->List V->Hp->VK->Prop}
theorem zcy (pa:PlainAttrs T) (slot:Slot T name id) (hty:typeOf (.builtin id)=pure (.type "method_descriptor")) (hm:MtR X id r) (ho:PE X o to) (ha:PA X (e::es) t)
  (hbase:attributeBase o name X.env (eval o X.env)=eval o X.env:=by rfl)
  (hfew:((backTo cpos (starEach (e::es) X.env)).all (fun x=>!x.1)&&(backToKw cpos (keywordEach [] X.env)).all (fun x=>x.1.isSome)
   && decide ((e::es).length+([]:List Keyword).length+(if ([]:List Keyword).isEmpty then 0 else 1)<30))=true:=by rfl)
  (hline:(apos.endLine==cpos.line)=true:=by rfl) (hs:starEach (e::es) X.env=(false,eval e X.env)::starEach es X.env:=by rfl) (hplain:(backTo cpos (starEach es X.env)).any (·.1)=false:=by rfl) :
  PE X (.Call (.Attribute o name apos) (e::es) [] cpos) (tBM X.K T r to t):=by
 intro pins s U H Q I h
 refine wpAny_Call_method_late hbase hfew hline rfl (thn (ho pins s U H _ I h) fun v s1 ⟨x,H1,I1,r1,ty,q1⟩=>?_)
 obtain ⟨h1,h2⟩:=zjQ I1 r1 ty
 refine ⟨T,id,pa,slot,hty,h1,h2,?_⟩
 have hA:=ha cpos pins s1 U H1 _ I1 q1
 rw [hs] at hA ⊢
 refine Calls.callWith_builtin (by show (false||(backTo cpos (starEach es X.env)).any (·.1))=false;rw [hplain]<;>rfl) (Calls.evalArgs_plain ?_)
 exact thn hA fun us s2 ⟨vs,H2,I2,r2,q2⟩=>hm pins s2 U H2 x vs v us Q I2 r1 r2 q2
end
def MtM (X:Cx) (id:String) (r:V->List V->Hp->VK->Prop):Prop :=
 ∀(pins:List (Addr×Obj)) (s:Shared) (U:St) (H:Hp) (x:V) (xs:List V) (v:Value) (us:List Value) (Q:VK),Inv X pins U H s->RelV x v->Vals xs us->r x xs H Q ->
  wpAny (model X.prog X.w) X.A (call (.builtin id) (v::us)) (EP X pins U Q) X.xe s
theorem Vals.one:∀{x:V}{us:List Value},Vals [x] us->∃u,us=[u]/\RelV x u
 | _,_,.cons r .nil=>⟨_,rfl,r⟩
theorem Vals.eraseIdx:∀{xs:List V}{us:List Value}(i:Nat),Vals xs us->Vals (xs.eraseIdx i) (us.eraseIdx i)
 | _,_,_,.nil=>.nil
 | _,_,0,.cons _ t=>t
 | _,_,i+1,.cons r t=>.cons r (Vals.eraseIdx i t)
theorem zeJ {α:Type}:∀(l:List α) (i:Nat),(l.eraseIdx i).length<=l.length
 | [],_=>Nat.le_refl _
 | _::_,0=>Nat.le_succ _
 | _::r,i+1=>Nat.succ_le_succ (zeJ r i)
section
variable {X:Cx}{pins:List (Addr×Obj)}{U:St}{H:Hp}{s:Shared}{l b:Addr}{xs ys zs:List V}
theorem Inv.lset {its its':List Value}{n:Nat}{f:Array Value->Array Value}{t':Nat}(I:Inv X pins U H s) (hH:H l=some (.lst xs))
  (e:s.heap.get? l=some { cls:=.type "list", data:=.seq its.toArray n }) (hf:f its.toArray=its'.toArray) (hv:Vals ys its') (hz:ys.length<=sizeLine) :
  Inv X pins U (upd H l (.lst ys)) { s with heap:=s.heap.update l (Obj.mapSeq f),toks:=t' }:=by
 have q:=PySem.IsL.update e f
 rw [hf] at q
 refine I.write (x:=l) (e:=l) (by rw [hH];exact trivial) (.inl rfl) (fun b' u hb hu=>(Heap.get?_update_other s.heap (Obj.mapSeq f) (Ne.symm hb)).trans hu) ⟨_,q⟩ ?_
 exact ⟨hz,its',_,hv,q⟩
theorem Inv.lnew {its:List Value}{t':Nat}(I:Inv X pins U H s) (hv:Vals ys its) (hz:ys.length<=sizeLine) :
  Inv X pins U (upd H s.heap.objs.size (.lst ys)) { s with heap:=s.heap.push { cls:=.type "list", data:=.seq its.toArray },toks:=t' } :=
 I.laid (fun _ _ q=>Heap.get?_push_of_some _ q) (Nat.le_refl _) ⟨hz,its,0,hv,Heap.get?_push_size _ rfl⟩
theorem Inv.fresh (I:Inv X pins U H s):H s.heap.objs.size=none:=I.hok.fresh (Nat.le_refl _)
theorem Inv.lstM (I:Inv X pins U H s) (hH:H l=some (.lst xs)):xs.length<=sizeLine/\∃(its:List Value) (n:Nat),Vals xs its/\xs.length=its.length/\s.heap.get? l=some { cls:=.type "list", data:=.seq its.toArray n }:=by
 obtain ⟨z,its,n,r,e⟩:=I.hok l _ hH
 exact ⟨z,its,n,r,r.length,e⟩
end
section
variable {X:Cx}
def zjS:V->List V->Hp->VK->Prop:=fun x vs H Q=>∃l xs y,x=.ref l/\vs=[y]/\H l=some (.lst xs)/\xs.length<sizeLine/\Q .non (upd H l (.lst (xs++[y])))
theorem zjT:MtM X "list.append" zjS:=by
 intro pins s U H x vs v us Q I rx rv h
 obtain ⟨l,xs,y,rfl,rfl,hH,hz,q⟩:=h
 cases rx
 obtain ⟨u,rfl,ru⟩:=rv.one
 obtain ⟨z,its,n,r,hl,e⟩:=I.lstM hH
 refine call_meets F.slot_list_append ⟨_,e,rfl⟩ F.entry_list_append (F.args_list_append_2 _ _) (PySem.list_append l its.toArray n u (by rw [List.size_toArray];omega)) ⟨e,?_⟩
 refine ⟨.non,_,I.lset (its':=its++[u]) hH e (by simp) (r.append (.cons ru .nil)) ?_,rfl,q⟩
 rw [List.length_append,List.length_singleton]
 omega
def zjU:V->List V->Hp->VK->Prop:=fun x vs H Q=>∃l xs i k y,x=.ref l/\vs=[.int i]/\H l=some (.lst xs) /\ -(2 ^ 63)<=i/\i<2 ^ 63/\seqIndex? i xs.length=some k/\xs[k]?=some y/\Q y (upd H l (.lst (xs.eraseIdx k)))
theorem zjV:MtM X "list.pop" zjU:=by
 intro pins s U H x vs v us Q I rx rv h
 obtain ⟨l,xs,i,k,y,rfl,rfl,hH,h1,h2,hk,hy,q⟩:=h
 cases rx
 obtain ⟨u,rfl,ru⟩:=rv.one
 obtain ⟨t,rfl⟩:=ru
 obtain ⟨z,its,n,r,hl,e⟩:=I.lstM hH
 obtain ⟨w,hw,rw'⟩:=r.get hy
 refine call_meets F.slot_list_pop ⟨_,e,rfl⟩ F.entry_list_pop (F.args_list_pop_2 _ _)
  (MeetsSeq.list_pop_at l its.toArray n i t k w (fitsIndex_both h1 h2) (by rw [List.size_toArray,<-hl];exact hk) (by rw [<-Array.getElem?_toList];exact hw) (by rw [List.size_toArray];omega)) ⟨e,?_⟩
 refine ⟨y,_,I.lset (its':=its.eraseIdx k) hH e ?_ (r.eraseIdx k) ?_,rw',q⟩
 ·show its.toArray.eraseIdxIfInBounds k=(its.eraseIdx k).toArray
  rw [List.eraseIdxIfInBounds_toArray]
 ·have:=zeJ xs k
  omega
def zjW:R2:=fun x y H Q=>∃l b xs zs,x=.ref l/\y=.ref b/\H l=some (.lst xs)/\H b=some (.lst zs)/\xs.length+zs.length<=sizeLine/\∀p,H p=none->Q (.ref p) (upd H p (.lst (xs++zs)))
theorem zjX:OpR X (binaryOp .Add) zjW:=by
 intro pins s U H x y v u Q I rx ry h
 obtain ⟨l,b,xs,zs,rfl,rfl,hH,hB,hz,q⟩:=h
 cases rx
 cases ry
 obtain ⟨z,its,n,r,hl,e⟩:=I.lstM hH
 obtain ⟨z2,its2,n2,r2,hl2,e2⟩:=I.lstM hB
 refine PySem.P.add_list e e2 ?_ (by rw [List.size_toArray,List.size_toArray];omega)
 have ea:its.toArray++its2.toArray=(its++its2).toArray:=by simp
 rw [ea]
 exact ⟨.ref _,_,I.lnew (t':=s.toks) (r.append r2) (by rw [List.length_append];omega),rfl,q _ I.fresh⟩
end
section
variable {prog:Program}{w:World}{A:Around}{E:Value->Shared->Prop}{s:Shared}
end
section
variable {X:Cx}
end
end L2
namespace Att
open PySem PySem.W PySem.Calls PyProof.Rows
theorem zjY {P:Params}{h:Heap}:∀(ns:List Int) (vs:List Value),WellAll P h vs (ns.map WData.int)->IntsAre vs ns:=by
 intro ns
 induction ns with
 | nil =>
  intro vs w
  rw [List.map_nil] at w
  cases w
  exact .nil
 | cons n ns ih =>
  intro vs w
  rw [List.map_cons] at w
  cases w with
  | cons a b =>
   cases a
   exact .cons _ _ (ih _ b)
theorem zjZ {l:OpenLaw}{n:Nat}(hn:l.most=some n) {P:Params}{h:Heap}{args:List WData}{vals:List Value}
  (hpre:l.row.toRowW.claim.pre args=true) (hwl:WellAll P h vals args) :
  ∃a vs ns,vals=[Value.ref a]/\args=[WData.list (ns.map WData.int)]/\h.get? a=some { cls:=.type "list", data:=.seq vs.toArray }/\IntsAre vs ns/\ns.length<=n:=by
 have hsh:WShape.hasAll [] args [.list .int]=true:=(pre_splitW hpre).1
 have hc:l.pre.holds [] { args:=args }=true:=(pre_splitW hpre).2
 obtain ⟨d,r,rfl,h1,h2⟩:=hasAllW_cons hsh
 obtain rfl:=hasAllW_nil h2
 obtain ⟨xs,rfl,h3⟩:=hasW_list h1
 obtain ⟨ns,rfl⟩:=items_int h3
 have hlen:ns.length<=n:=by
  unfold OpenLaw.pre at hc
  have h4:(WTm.not (.lt (.lit (.int (n:Int))) (.len (.arg 0)))).holds [] { args:=[.list (ns.map .int)] }=true:=by
   have h4:=(holds_andW hc).1
   rw [hn] at h4
   exact h4
  have h5:=condW_of h4 (w_not (w_lt w_lit (w_len_list (w_arg rfl))))
  rw [List.length_map] at h5
  refine Nat.le_of_not_lt fun q=>?_
  have q':(n:Int)<((ns.length:Nat):Int):=by omega
  first
   | (rw [decide_eq_true q'] at h5;exact absurd h5 (by decide))
   | (simp at h5;omega)
 cases hwl with
 | cons w1 w2 =>
  cases w2
  cases w1 with
  | list ho hall=>exact ⟨_,_,ns,rfl,rfl,ho,zjY ns _ hall,hlen⟩
theorem zj0 (l:OpenLaw) (args:List WData):l.row.toRowW.claim.post args (.bool true) args=true :=
 postW_of (r:=l.row.toRowW) (X:=(true==true))
  (show WShape.has [] (.bool true) .bool=true by first|rfl|decide|simp [WShape.has,WShape.arms,WShape.armsAll])
  (show (WTm.eq .res (.lit (.bool true))).value [] { args:=args,res:=some (.bool true),after:=args }=some (.bool (true==true)) from w_eq_bool (w_res rfl) w_lit) rfl
theorem attach_call {l:OpenLaw}{n:Nat}{q:Program}{loose:List Str}{XP:(Str->Option Value)->Heap->Prop}{YP:World->Heap->Prop}{d:DefRec}
  (hn:l.most=some n) (hdf:d.params.defaults=[])
  (call:∀(w:World) (s₀ aj:Shared) (mg mb:Str->Option Value) (fa:Addr) (o:Obj) (pm cd doc:Value) (a:Addr) (vs:List Value) (ns:List Int),
   Ground q loose [] XP w s₀ mg mb aj.heap->YP w aj.heap ->
   aj.heap.get? fa=some o->o.data=.func (docDef d.name d.params d.body d.scope pm cd doc)->aj.heap.CodeRec cd d.name->mg d.name=some (.ref fa) ->
   aj.heap.get? a=some { cls:=.type "list", data:=.seq vs.toArray }->IntsAre vs ns->ns.length<=n->aj.gens=#[] ->
   codeAny (model l.prog w) callerA (.call (.ref fa) ⟨[.ref a],[]⟩) (fun r s'=>r=.ok (.ret (.bool true))/\OldK aj.heap s'.heap/\s'.os=aj.os/\AllBare s'.gens) aj) :
  WalkO q loose XP YP l.row.toRowW d [] (fun f vs=>PySem.call f vs):=by
 intro w s₀ aj mg mb G Y fa o pm cd doc dV kV ho hd hcd hD hmg hg args vals as hpre hlay hrd hwl hlo
 obtain rfl:dV=.none:=Dflts.none hD hdf
 obtain rfl:kV=.none:=Dflts.noKw hD
 obtain ⟨a,vs,ns,rfl,rfl,hobj,hints,hlen⟩:=zjZ hn hpre hwl
 refine enter_call (codeAny_mono (call w s₀ aj mg mb fa o pm cd doc a vs ns G Y ho (fd_plain hd) hcd hmg hobj hints hlen hg) fun r s' hq=>?_)
 obtain ⟨rfl,h2,h3,h4⟩:=hq
 exact ⟨.inl ⟨.bool true,.bool true,[],rfl,fun _=>rfl,.bool true,zj0 l _,fun _=>⟨List.Pairwise.nil,fun _ hm=>(nomatch hm)⟩⟩,h2,h3,h4⟩
section
variable {prog:Program}{w:World}{A:Around}{E:Value->Shared->Prop}{s:Shared}{K:Frag}
end
end Att
namespace L2
open PySem PySem.Spec PyProof.Rows
theorem zeK:∀{vs:List Value}{ns:List Int},IntsAre vs ns->Vals (ns.map V.int) vs
 | _,_,.nil=>.nil
 | _,_,.cons n t h=>.cons ⟨t,rfl⟩ (zeK h)
def Only (H:Hp):Prop:=∀b,H b=none\/∃o xs,H b=some (.frz o (.lst xs))
theorem zj1 {P:Program}{w:World}{K:PySem.W.Frag}{mg mb:Str->Option Value}{CX:CXT}{k:Nat}{fa a:Addr}{fd:FuncData}{x:Str}{sp:Sp}{aj:Shared}{vs:List Value}{ns:List Int}
  (KX:K.In aj.heap) (hns:aj.heap.Ns mainGlobals mg) (hb:aj.heap.Ns builtinsNs mb) (hbb:∀x:Str,x ≠ "__name__" -> mb x=bootBuiltins x) (hlim:aj.heap.NoLimit) (hg:aj.gens=#[])
  (ha:aj.heap.get? a=some { cls:=.type "list", data:=.seq vs.toArray }) (hi:IntsAre vs ns) (hl:ns.length<=sizeLine) (hr:Room k callerA)
  (F:∀base:Heap,K.In base->base.Ns mainGlobals mg->FnOk P w K mg base CX k fa fd [x] sp) (hbind:∀(s:Shared) (u:Value),BindsTo s fd ⟨[u],[]⟩ [(x,u)])
  (hsp:∀H:Hp,Only H->SqL K H a (ns.map V.int)->sp [.ref a] H (fun v _=>v=.bl true) fun _ _ _=>False)
  (hCX:∀H e s',CX [] H aj (fun _ _ _=>False) e s'->False) :
  codeAny (model P w) callerA (.call (.ref fa) ⟨[.ref a],[]⟩) (fun r s'=>r=.ok (.ret (.bool true))/\OldK aj.heap s'.heap/\s'.os=aj.os/\AllBare s'.gens) aj:=by
 have rv:=zeK hi
 have lenV:=hi.length
 have core:∀H:Hp,Only H->SqL K H a (ns.map V.int)->HOk P w H aj.heap->(∀b,H b≠none->b=a)->(H a≠none->K.lookup a=none) ->
   codeAny (model P w) callerA (.call (.ref fa) ⟨[.ref a],[]⟩) (fun r s'=>r=.ok (.ret (.bool true))/\OldK aj.heap s'.heap/\s'.os=aj.os/\AllBare s'.gens) aj:=by
  intro H hO hS hok hA hK
  have base_of:∀{b:Addr} {o:Obj},aj.heap.get? b=some o->H b=none->(hidT aj.heap H).get? b=some o:=fun e n=>zhO e n
  have noA:∀{b:Addr} {o:Obj} {es:Array DictEntry} {ep:Nat},aj.heap.get? b=some o->o.data=.dict es ep->H b=none:=fun {b o es ep} e d=>by
   cases q:H b with
   | none=>rfl
   | some u =>
    have e':b=a:=hA b (by rw [q];simp)
    subst e'
    rw [ha] at e;cases e
    have d':Data.seq vs.toArray _=Data.dict es ep:=d
    cases d'
  have nsK:∀{b:Addr} {m:Str->Option Value},aj.heap.Ns b m->(hidT aj.heap H).Ns b m:=fun {b m} ⟨o,es,ep,e,d,r⟩=>⟨o,es,ep,base_of e (noA e d),d,r⟩
  have hKb:K.In (hidT aj.heap H):=fun b o e=>base_of (KX b o e) (by
   cases q:H b with
   | none=>rfl
   | some u =>
    have e':b=a:=hA b (by rw [q];simp)
    subst e'
    rw [hK (by rw [q];simp)] at e;cases e)
  have hM:Mod K mg (hidT aj.heap H):=⟨hKb,nsK hns,⟨mb,nsK hb,hbb⟩,let ⟨mc,h1,h2⟩:=hlim;⟨mc,nsK h1,h2⟩⟩
  have e0:Env0 P w K mg (hidT aj.heap H) callerA [] aj H:=⟨rfl,hM,fun b o e=>zhP e,Nat.le_of_eq (zhN _ _),trivial,fun b hb=>absurd (show b∈([]:List Addr) from hb) (by simp),hok,.of_eq hg⟩
  refine codeAny_mono ((F _ hKb (nsK hns)).run callerA [] aj H ⟨[.ref a],[]⟩ [.ref a] [.ref a] _ _ hr e0 (hbind aj (.ref a)) (.cons rfl .nil) (hsp H hO hS)) fun r s' h=>?_
  cases r with
  | error e=>exact (hCX H e s' h).elim
  | ok fl =>
   cases fl with
   | next=>exact False.elim h
   | brk=>exact False.elim h
   | cont=>exact False.elim h
   | ret u =>
    obtain ⟨v,H',os,bare,un,hok',r',q⟩:=h
    have q':v=.bl true:=q
    subst q'
    obtain rfl:u=Value.bool true:=r'
    refine ⟨rfl,OldK.of_keep fun b o e=>?_,os,bare⟩
    cases q:H b with
    | none=>exact un.keep b o e q (by intro z;exact absurd (show b∈([]:List Addr) from z) (by simp)) (by simp)
    | some u =>
     rcases hO b with z|⟨ob,xs,z⟩
     ·rw [q] at z;cases z
     ·have z2:=un.frzs b ob _ z
      obtain ⟨e1,_⟩:=hok b _ z
      obtain ⟨e2,_⟩:=hok' b _ z2
      rw [e] at e1;cases e1
      exact e2
 cases hk:K.lookup a with
 | some o =>
  have e:=KX a o hk
  rw [ha] at e
  cases e
  refine core (fun _=>none) (fun _=>.inl rfl) (.inr ⟨_,vs.toArray,_,hk,rfl,rfl,rfl,by rw [List.size_toArray,lenV];exact hl,by simpa using rv⟩) (fun b u z=>by have z':(none:Option HO)=some u:=z;cases z') (fun b z=>absurd rfl z) fun z=>absurd rfl z
 | none =>
  refine core (fun b=>if b=a then some (.frz { cls:=.type "list", data:=.seq vs.toArray } (.lst (ns.map V.int))) else none) (fun b=>?_) (.inl (.inr ⟨{ cls:=.type "list", data:=.seq vs.toArray },if_pos rfl⟩)) (fun b u z=>?_) (fun b z=>?_) fun _=>hk
  ·by_cases hb:b=a
   ·exact .inr ⟨_,_,if_pos hb⟩
   ·exact .inl (if_neg hb)
  ·by_cases hb:b=a
   ·have z':=(if_pos hb).symm.trans z
    cases z'
    subst hb
    exact ⟨ha,by rw [List.length_map];exact hl,vs,_,rv,ha⟩
   ·have z':=(if_neg hb).symm.trans z
    cases z'
  ·by_cases hb:b=a
   ·exact hb
   ·exact absurd (if_neg hb) z
abbrev KOf {K:PySem.W.Frag}{h:Heap}(_:K.In h):PySem.W.Frag:=K
theorem zj2 {l:PySem.W.OpenLaw}{n k:Nat}{q:Program}{loose:List Str}{XP:(Str->Option Value)->Heap->Prop}{YP:World->Heap->Prop}{d:DefRec}{K:Params->PySem.W.Frag}{CX:World->CXT}{sp:World->Sp}{x:Str}
  (hn:l.most=some n) (hn2:n<=sizeLine) (hdf:d.params.defaults=[]) (hr:Room k callerA)
  (hY:∀(w:World) (h:Heap),YP w h->(K w.params).In h)
  (F:∀(w:World) (mg:Str->Option Value) (fa:Addr) (h:Heap),(K w.params).In h->h.Ns mainGlobals mg->mg d.name=some (.ref fa) ->
   ∃fd:FuncData,(∀(s:Shared) (u:Value),BindsTo s fd ⟨[u],[]⟩ [(x,u)]) /\
    ∀base:Heap,(K w.params).In base->base.Ns mainGlobals mg->FnOk l.prog w (K w.params) mg base (CX w) k fa fd [x] (sp w))
  (hsp:∀(w:World) (H:Hp) (a:Addr) (ns:List Int),ns.length<=n->Only H->SqL (K w.params) H a (ns.map V.int)->sp w [.ref a] H (fun v _=>v=.bl true) fun _ _ _=>False)
  (hCX:∀(w:World) (H:Hp) (s:Shared) (e:Value) (s':Shared),CX w [] H s (fun _ _ _=>False) e s'->False) :
  PySem.W.WalkO q loose XP YP l.row.toRowW d [] (fun f vs=>PySem.call f vs):=by
 refine Att.attach_call hn hdf fun w s₀ aj mg mb fa o pm cd doc a vs ns G Y ho hd hcd hmg hobj hints hlen hg=>?_
 have KX:=hY w _ Y
 obtain ⟨fd,hb,hF⟩:=F w mg fa _ KX G.T.g hmg
 exact zj1 KX G.T.g G.T.b G.T.builtins G.T.nolimit hg hobj hints (Nat.le_trans hlen hn2) hr hF hb (fun H hO hS=>hsp w H a ns hlen hO hS) fun H e s'=>hCX w H aj e s'
def inClass (s:Stmt) (j:Nat):Stmt:=match s with
 | .ClassDef _ _ _ body _ _ _ _ _ _ _=>body.getD j (.Pass ⟨0,0,0,0⟩)
 | _=>.Pass ⟨0,0,0,0⟩
def jp (s:Stmt):Arguments:=match s with
 | .FunctionDef _ a _ _ _ _ _ _ _ _=>a
 | _=>{ posonlyargs:=[],args:=[],vararg:=none,kwonlyargs:=[],kw_defaults:=[],kwarg:=none,defaults:=[] }
def yI (s:Stmt):List Stmt:=match s with
 | .FunctionDef _ _ b _ _ _ _ _ _ _=>b
 | _=>[]
def zB (s:Stmt):Scope:=match s with
 | .FunctionDef _ _ _ _ _ _ sc _ _ _=>sc
 | _=>{ kind:=.function,names:=[],isGenerator:=false,isCoroutine:=false }
structure Fun (K:PySem.W.Frag) (x qual:Str) (st:Stmt) (f:Addr) (fd:FuncData):Prop where
 ex:∃(oc:Value) (od:Option Addr) (kV doc pm:Value) (an:Option Addr) (cdv ct:Value) (osl:Array (Option Value)),
  fd=PySem.W.fnOf x qual (jp st) (yI st) (zB st) .none kV doc pm an cdv ct/\K.lookup f=some ⟨oc,od,.func fd,osl⟩/\PySem.W.codeIn K cdv qual=true
 kp:PySem.W.keepIn K (.ref f)=true
section
variable {P:Program}{w:World}{K:PySem.W.Frag}{mg:Str->Option Value}{base:Heap}
theorem Fun.binds {x qual:Str}{st:Stmt}{f:Addr}{fd:FuncData}{ps:List Str}(F:Fun K x qual st f fd)
  (h:∀(kV doc pm:Value) (an:Option Addr) (cdv ct:Value) (us:List Value),us.length=ps.length->bindArgs (PySem.W.fnOf x qual (jp st) (yI st) (zB st) .none kV doc pm an cdv ct) ⟨us,[]⟩=pure (ps.zip us)):Binds K fd ps []:=by
 obtain ⟨oc,od,kV,doc,pm,an,cdv,ct,osl,rfl,lk,hcd⟩:=F.ex
 exact .all (h kV doc pm an cdv ct)
theorem w5 {x qual:Str}{st:Stmt}{f:Addr}{oc:Value}{od an:Option Addr}{osl:Array (Option Value)}{kV doc pm cdv ct:Value}(l:K.lookup f=some ⟨oc,od,.func (PySem.W.fnOf x qual (jp st) (yI st) (zB st) .none kV doc pm an cdv ct),osl⟩)
  (c:PySem.W.codeIn K cdv qual=true) (k:PySem.W.keepIn K (.ref f)=true):Fun K x qual st f (PySem.W.fnOf x qual (jp st) (yI st) (zB st) .none kV doc pm an cdv ct):=⟨⟨oc,od,kV,doc,pm,an,cdv,ct,osl,rfl,l,c⟩,k⟩
end
section
variable {X:Cx}
end
def Same (H H':Hp):Prop:=∀b o,H b=some o->H' b=some o
theorem Same.free {H H':Hp}(e:Same H H') {l:Addr}(h:H' l=Option.none):H l=Option.none:=by
 cases q:H l with
 | none=>rfl
 | some o =>
  rw [e l o q] at h
  cases h
end L2
set_option maxHeartbeats 4000000
namespace L2
open PySem PySem.Spec PyProof.Rows
theorem ar1 {l z D b:Nat}(h1:l<z) (h2:z=D) (h3:D<=b) (h4:b=l):False:=by omega
theorem wF {b D C:Nat}(h1:b<D) (h2:C=D+1) (h3:b=C):False:=by omega
theorem ar3 {b e d:Nat}(h1:b<e) (h2:e<=d) (h3:d<=b):False:=by omega
theorem ar4 {b D p:Nat}(h1:b<D) (h2:p=D) (h3:p=b):False:=by omega
theorem zcz (env:Env):∀(l:List (Str×NameKind)) (acc:List (Str×Addr)),(∀p∈l,p.2=.free->∃c,env.cells.lookup p.1=some c) ->
  ∃cl,(forIn l acc (fun (x:Str×NameKind) (cs:List (Str×Addr))=>if (x.snd==NameKind.free)=true then do
            let a <-cellOf env x.fst
            pure (ForInStep.yield ((x.fst,a)::cs))
      else pure (ForInStep.yield cs)):Sem (List (Str×Addr)))=pure cl /\
   (∀y c,(y,c)∈cl->(y,c)∈acc\/(env.cells.lookup y=some c/\(y,NameKind.free)∈l))/\(∀p∈acc,p∈cl)/\(∀y,(y,NameKind.free)∈l->∃c,(y,c)∈cl)
 | [],acc,_=>⟨acc,rfl,fun _ _ h=>.inl h,fun _ h=>h,fun _ h=>nomatch h⟩
 | (n,k)::r,acc,hall=>by
  by_cases hk:k=.free
  ·subst hk
   obtain ⟨c,hc⟩:=hall (n,.free) List.mem_cons_self rfl
   obtain ⟨cl,e,h1,h2,h3⟩:=zcz env r ((n,c)::acc) fun p hp=>hall p (List.mem_cons_of_mem _ hp)
   refine ⟨cl,?_,fun y d hy=>?_,fun p hp=>h2 p (List.mem_cons_of_mem _ hp),fun y hy=>?_⟩
   ·rw [List.forIn_cons]
    simp only [beq_self_eq_true,if_true]
    have:cellOf env n=pure c:=by unfold cellOf;rw [hc]
    rw [this]
    exact e
   ·rcases h1 y d hy with q|q
    ·rcases List.mem_cons.mp q with q|q
     ·cases q
      exact .inr ⟨hc,List.mem_cons_self⟩
     ·exact .inl q
    ·exact .inr ⟨q.1,List.mem_cons_of_mem _ q.2⟩
   ·rcases List.mem_cons.mp hy with q|q
    ·cases q
     exact ⟨c,h2 _ List.mem_cons_self⟩
    ·exact h3 y q
  ·obtain ⟨cl,e,h1,h2,h3⟩:=zcz env r acc fun p hp=>hall p (List.mem_cons_of_mem _ hp)
   refine ⟨cl,?_,fun y d hy=>?_,h2,fun y hy=>?_⟩
   ·rw [List.forIn_cons]
    have:(k==NameKind.free)=false:=by simpa using hk
    simp only [this,Bool.false_eq_true,if_false]
    exact e
   ·rcases h1 y d hy with q|q
    ·exact .inl q
    ·exact .inr ⟨q.1,List.mem_cons_of_mem _ q.2⟩
   ·rcases List.mem_cons.mp hy with q|q
    ·cases q
     exact absurd rfl hk
    ·exact h3 y q
theorem zeO {β:Type}{y:Str}:∀{l:List (Str×β)}{c:β},(y,c)∈l->∃d,l.lookup y=some d
 | (n,b)::r,c,h=>by
  rw [List.lookup_cons]
  cases e:y==n with
  | true=>exact ⟨b,rfl⟩
  | false =>
   rcases List.mem_cons.mp h with q|q
   ·cases q
    simp at e
   ·exact zeO q
theorem zeP (env:Env) (scope:Scope) (hall:∀p∈scope.names,p.2=.free->∃c,env.cells.lookup p.1=some c) :
  ∃cl,closureFor scope env=pure cl/\(∀y c,cl.lookup y=some c->env.cells.lookup y=some c)/\(∀y,(y,NameKind.free)∈scope.names->∃c,cl.lookup y=some c):=by
 obtain ⟨cl,e,h1,_,h3⟩:=zcz env scope.names [] hall
 refine ⟨cl,?_,fun y c hy=>?_,fun y hy=>?_⟩
 ·simp only [closureFor]
  rw [e]
  rfl
 ·rcases h1 y c (PySem.mem_of_lookup hy) with z|z
  ·cases z
  ·exact z.1
 ·obtain ⟨c,hc⟩:=h3 y hy
  exact zeO hc
structure CompSc (sc scope:Scope) (x:Str):Prop where
 kind:scope.kind=.function
 ncell:∀y∈scope.names,y.2 ≠ .cell
 names:∀y∈scope.names,y.2=.local->scope.names.lookup y.1=some .local/\(y.1=x\/y.1 = ".0")
 hx:scope.names.lookup x=some .local
 free:∀y∈scope.names,y.2=.free->sc.names.lookup y.1=some .cell
def cxH (X:Cx) (M:List Str) (scope:Scope) (cl:List (Str×Addr)) (x:Str) (C:Addr) (ae:Shared) (ai:Hp) (fp:List Addr) (E:Value->Shared->Prop):Cx :=
 { X with N:=x::M,s₀:=ae,H₀:=ai,env:=compEnvC scope cl C X.env,outer:=X.stack,ex:=fp,fn:=fun _=>false,pn:=[],xe:=E }
def Hid (scope:Scope) (M N:List Str):Prop:=M.length=N.length/\∀p∈M.zip N,p.1=p.2\/p.1∉scope.names.map Prod.fst
theorem Hid.refl {scope:Scope}{N:List Str}:Hid scope N N:=⟨rfl,fun p hp=>.inl (by
 obtain ⟨i,hi,e⟩:=List.getElem_of_mem hp
 rw [List.getElem_zip] at e
 rw [<-e])⟩
theorem Hid.get {scope:Scope}{M N:List Str}(h:Hid scope M N) {i:Nat}{y:Str}(e:M[i]?=some y):N[i]?=some y\/y∉scope.names.map Prod.fst:=by
 obtain ⟨hi,ei⟩:=List.getElem?_eq_some_iff.mp e
 have hj:i<N.length:=h.1▸hi
 have hm:(M[i],N[i])∈M.zip N:=List.mem_of_getElem? (i:=i) (by rw [List.getElem?_zip_eq_some];exact ⟨List.getElem?_eq_getElem hi,List.getElem?_eq_getElem hj⟩)
 rcases h.2 _ hm with q|q
 ·exact .inl (by rw [List.getElem?_eq_getElem hj,<-ei];exact congrArg some q.symm)
 ·exact .inr (by rw [<-ei];exact q)
def cxC (X:Cx) (scope:Scope) (cl:List (Str×Addr)) (x:Str) (C:Addr) (ae:Shared) (ai:Hp) (fp:List Addr) (E:Value->Shared->Prop):Cx :=
 { X with N:=x::X.N,s₀:=ae,H₀:=ai,env:=compEnvC scope cl C X.env,outer:=X.stack,ex:=fp,fn:=fun _=>false,pn:=[],xe:=E }
section
variable {X:Cx}{scope:Scope}{cl:List (Str×Addr)}{x:Str}
theorem j7 {env:Env}{y:Str}{k:NameKind}(h:(relabel scope env).names.lookup y=some k):∃k0,(y,k0)∈scope.names/\((k0=.free/\env.kindOf y=some .cell/\k=.cell)\/(k=k0/\¬(k0=.free/\env.scope.kind=.function/\env.kindOf y=some .cell))):=by
 have hm:=PySem.mem_of_lookup h
 obtain ⟨⟨n,k0⟩,hn,e⟩:=List.mem_map.mp hm
 by_cases hc:(k0==NameKind.free&&env.scope.kind == .function&&env.kindOf n==some .cell)=true
 ·have e':(n,NameKind.cell)=(y,k):=by rw [<-e];simp only [hc,if_true]
  cases e'
  simp only [Bool.and_eq_true,beq_iff_eq] at hc
  exact ⟨_,hn,.inl ⟨hc.1.1,hc.2,rfl⟩⟩
 ·have e':(n,k0)=(y,k):=by rw [<-e];simp only [hc,if_false];rfl
  cases e'
  refine ⟨_,hn,.inr ⟨rfl,fun ⟨a,b,c⟩=>hc ?_⟩⟩
  simp [a,b,c]
theorem zeQ (S:CompSc X.env.scope scope x) {y:Str} (h:(relabel scope X.env).names.lookup y=some .local):y=x\/y = ".0" := by
 obtain ⟨k0,hm,⟨_,_,e⟩|⟨e,_⟩⟩:=j7 h
 ·cases e
 ·subst e
  exact (S.names _ hm rfl).2
theorem zcA (S:CompSc X.env.scope scope x) (hk:X.env.scope.kind=.function) {y:Str}(h:(relabel scope X.env).names.lookup y=some .cell\/(relabel scope X.env).names.lookup y=some .free):(y,NameKind.free)∈scope.names:=by
 rcases h with h|h
 ·obtain ⟨k0,hm,⟨e,_,_⟩|⟨e,_⟩⟩:=j7 h
  ·subst e;exact hm
  ·subst e;exact absurd rfl (S.ncell _ hm)
 ·obtain ⟨k0,hm,⟨_,_,e⟩|⟨e,n⟩⟩:=j7 h
  ·cases e
  ·subst e
   exact hm
end
theorem zj3 {P:Program}{wd:World}{B:Around}{Z:Result->Shared->Prop}{u0:Shared}{el tg iter:Expr}{sc:Scope}{ps:Pos}{iv ac:Value}{ev:Env}(J0:Nat->Shared->Prop)
  (turn:∀k u,J0 k u->wpAny (model P wd) B (pyNext iv) (fun r u1=>match r with|none=>Z (.ok .next) u1|some v=>wpAny (model P wd) B (letOwnedTupleGo tg iv v) (fun _ u2 =>
   wpAny (model P wd) B (assign tg ev v) (fun _ u3=>wpAny (model P wd) B (eval el ev) (fun y u4=>wpAny (model P wd) B (call (.builtin "list.append") [ac,y]) (fun _ u5=>∃m,m<k/\J0 m u5)
    (notedBy (model P wd) B ev fun e u=>Z (.error e) u) u4) (notedBy (model P wd) B ev fun e u=>Z (.error e) u) u3) (notedBy (model P wd) B ev fun e u=>Z (.error e) u) u2) (notedBy (model P wd) B ev fun e u=>Z (.error e) u) u1)
   (notedBy (model P wd) B ev fun e u=>Z (.error e) u) u)
  (k0:Nat) (start0:J0 k0 u0):codeAny (model P wd) B (.compLoop (.ListComp el [⟨tg,iter,[],0⟩] sc ps) 0 iv ac ev) Z u0:=by
 refine codeAny_loop rfl J0 (fun k u hJ=>wpAny_noted (E:=fun e u=>Z (.error e) u) (env:=ev) (m:=compTurn (.ListComp el [⟨tg,iter,[],0⟩] sc ps) 0 iv ac ev) ?_) k0 start0
 rw [compTurn_list1]
 have one:=turn k u hJ
 refine wpAny_bind (wpAny_standAt (wpAny_bind (wpAny_mono one (fun r u1 q1=>?_) fun _ _ z=>z)))
 cases r with
 | none=>exact wpAny_pure q1
 | some v =>
  refine wpAny_bind (wpAny_mono q1 (fun _ u2 q2=>wpAny_bind (wpAny_mono q2 (fun _ u3 q3=>?_) fun _ _ z=>z)) fun _ _ z=>z)
  exact wpAny_bind (wpAny_bind (wpAny_mono q3 (fun y u4 q4=>wpAny_bind (wpAny_mono q4 (fun _ u5 q5=>wpAny_pure (wpAny_pure ⟨rfl,q5⟩)) fun _ _ z=>z)) fun _ _ z=>z))
def CompW (J:It) (te:TE) (U:St) (Q:VK) (H1:Hp):Prop:=∃W:Nat->Nat->List V->Hp->Prop,(∃m,W 0 m [] H1)/\∀i m ys H,W i m ys H ->
 (J.stop i H/\ys.length<=sizeLine/\∀l,H l=none->Q (.ref l) (upd H l (.lst ys))) \/
 (J.go i H/\ys.length<=sizeLine/\∀z H',J.yld i H z H'->te (some z::U) H' fun y H2=>∃m',m'<m/\W (i+1) m' (ys++[y]) H2)
def zcB (wi:TI) (te:TE):TE:=fun U H Q=>wi U H fun J H1=>CompW J te U Q H1
end L2
namespace L2
open PySem PySem.Spec PyProof.Rows PySem.W
structure CompSN (sc scope:Scope) (xs:List Str):Prop where
 kind:scope.kind=.function
 ncell:∀y∈scope.names,y.2 ≠ .cell
 names:∀y∈scope.names,y.2=.local->scope.names.lookup y.1=some .local/\(y.1∈xs\/y.1 = ".0")
 free:∀y∈scope.names,y.2=.free->sc.names.lookup y.1=some .cell
def cxN (X:Cx) (scope:Scope) (cl:List (Str×Addr)) (xs:List Str) (C:Addr) (ae:Shared) (ai:Hp) (fp:List Addr) (E:Value->Shared->Prop):Cx :=
 { X with N:=xs++X.N,s₀:=ae,H₀:=ai,env:=compEnvC scope cl C X.env,outer:=X.stack,ex:=fp,fn:=fun _=>false,pn:=[],xe:=E }
def cxNH (X:Cx) (M:List Str) (scope:Scope) (cl:List (Str×Addr)) (xs:List Str) (C:Addr) (ae:Shared) (ai:Hp) (fp:List Addr) (E:Value->Shared->Prop):Cx :=
 { X with N:=xs++M,s₀:=ae,H₀:=ai,env:=compEnvC scope cl C X.env,outer:=X.stack,ex:=fp,fn:=fun _=>false,pn:=[],xe:=E }
section
variable {X:Cx}{scope:Scope}{xs:List Str}
theorem zeR (S:CompSN X.env.scope scope xs) {y:Str} (h:(relabel scope X.env).names.lookup y=some .local):y∈xs\/y = ".0" := by
 obtain ⟨k0,hm,⟨_,_,e⟩|⟨e,_⟩⟩:=j7 h
 ·cases e
 ·subst e
  exact (S.names _ hm rfl).2
theorem zcC (S:CompSN X.env.scope scope xs) (hk:X.env.scope.kind=.function) {y:Str}(h:(relabel scope X.env).names.lookup y=some .cell\/(relabel scope X.env).names.lookup y=some .free):(y,NameKind.free)∈scope.names:=by
 rcases h with h|h
 ·obtain ⟨k0,hm,⟨e,_,_⟩|⟨e,_⟩⟩:=j7 h
  ·subst e;exact hm
  ·subst e;exact absurd rfl (S.ncell _ hm)
 ·obtain ⟨k0,hm,⟨_,_,e⟩|⟨e,n⟩⟩:=j7 h
  ·cases e
  ·subst e
   exact hm
end
def PTs (X:Cx) (ifs:List Expr) (t:TT):Prop:=∀(pins:List (Addr×Obj)) (s:Shared) (U:St) (H:Hp) (Q:Bool->Hp->Prop),Inv X pins U H s->t U H Q ->
 wpAny (model X.prog X.w) X.A (forIn ifs true fun c r=>if r=true then do let ok <-isTrue c X.env (eval c X.env);pure (ForInStep.yield ok) else pure (ForInStep.yield r)) (TP X pins U Q) X.xe s
def w6:TT:=fun _ H Q=>Q true H
theorem zeS {X:Cx}:PTs X [] w6:=fun pins s U H Q I h=>wpAny_tests_nil ⟨H,I,h⟩
theorem PTs.nox {X:Cx}{ifs:List Expr}{t:TT}(h:PTs X.nox ifs t):PTs X ifs t:=fun pins s U H Q I hw =>
 wpAny_mono (h pins s U H Q (I.wish _) hw) (fun b s' ⟨H',I',q⟩=>⟨H',I'.unwish,q⟩) fun _ _ z=>z.elim
theorem zj4 {P:Program}{wd:World}{B:Around}{Z:Result->Shared->Prop}{u0:Shared}{el tg iter:Expr}{ifs:List Expr}{sc:Scope}{ps:Pos}{iv ac:Value}{ev:Env}(J0:Nat->Shared->Prop)
  (turn:∀k u,J0 k u->wpAny (model P wd) B (pyNext iv) (fun r u1=>match r with|none=>Z (.ok .next) u1|some v=>wpAny (model P wd) B (letOwnedTupleGo tg iv v) (fun _ u2 =>
   wpAny (model P wd) B (assign tg ev v) (fun _ u3=>wpAny (model P wd) B (forIn ifs true fun c r=>if r=true then do let ok <-isTrue c ev (eval c ev);pure (ForInStep.yield ok) else pure (ForInStep.yield r)) (fun ok u4 =>
    if ok=true then wpAny (model P wd) B (eval el ev) (fun y u5=>wpAny (model P wd) B (call (.builtin "list.append") [ac,y]) (fun _ u6=>∃m,m<k/\J0 m u6)
    (notedBy (model P wd) B ev fun e u=>Z (.error e) u) u5) (notedBy (model P wd) B ev fun e u=>Z (.error e) u) u4 else ∃m,m<k/\J0 m u4) (notedBy (model P wd) B ev fun e u=>Z (.error e) u) u3) (notedBy (model P wd) B ev fun e u=>Z (.error e) u) u2) (notedBy (model P wd) B ev fun e u=>Z (.error e) u) u1)
   (notedBy (model P wd) B ev fun e u=>Z (.error e) u) u)
  (k0:Nat) (start0:J0 k0 u0):codeAny (model P wd) B (.compLoop (.ListComp el [⟨tg,iter,ifs,0⟩] sc ps) 0 iv ac ev) Z u0:=by
 refine codeAny_loop rfl J0 (fun k u hJ=>wpAny_noted (E:=fun e u=>Z (.error e) u) (env:=ev) (m:=compTurn (.ListComp el [⟨tg,iter,ifs,0⟩] sc ps) 0 iv ac ev) ?_) k0 start0
 rw [compTurn_list]
 have one:=turn k u hJ
 refine wpAny_bind (wpAny_standAt (wpAny_bind (wpAny_mono one (fun r u1 q1=>?_) fun _ _ z=>z)))
 cases r with
 | none=>exact wpAny_pure q1
 | some v =>
  refine wpAny_bind (wpAny_mono q1 (fun _ u2 q2=>wpAny_bind (wpAny_mono q2 (fun _ u3 q3=>wpAny_bind (wpAny_mono q3 (fun ok u4 q4=>?_) fun _ _ z=>z)) fun _ _ z=>z)) fun _ _ z=>z)
  cases ok with
  | true=>exact wpAny_bind (wpAny_bind (wpAny_mono q4 (fun y u4 q4=>wpAny_bind (wpAny_mono q4 (fun _ u5 q5=>wpAny_pure (wpAny_pure ⟨rfl,q5⟩)) fun _ _ z=>z)) fun _ _ z=>z))
  | false=>exact wpAny_bind (wpAny_pure (wpAny_pure ⟨rfl,q4⟩))
def CompWN (J:It) (gt:TG) (tt:TT) (te:TE) (n:Nat) (U:St) (Q:VK) (H1:Hp):Prop:=∃W:Nat->Nat->List V->Hp->Prop,(∃m,W 0 m [] H1)/\∀i m ys H,W i m ys H ->
 (J.stop i H/\ys.length<=sizeLine/\∀l,H l=none->Q (.ref l) (upd H l (.lst ys))) \/
 (J.go i H/\ys.length<=sizeLine/\∀z H',J.yld i H z H'->gt z (List.replicate n none++U) H' fun ap H1=>∃own:St,ap=own++U/\own.length=n/\tt ap H1 fun b H2 =>
  if b=true then te ap H2 fun y H3=>∃m',m'<m/\W (i+1) m' (ys++[y]) H3 else ∃m',m'<m/\W (i+1) m' ys H2)
def zeT (wi:TI) (gt:TG) (tt:TT) (te:TE) (n:Nat):TE:=fun U H Q=>wi U H fun J H1=>CompWN J gt tt te n U Q H1
theorem zeU {X:Cx} {elt iter tg:Expr} {ifs:List Expr} {xs:List Str} {pos:Pos} {scope:Scope} {wi:TI} {gt:TG} {tt:TT} {te:TE} {M:List Str} (hc:X.calm=true) (S:CompSN X.env.scope scope xs) (eN:Hid scope M X.N) (hN0:((".0" : Str)::(xs++M)).Nodup)
  (hi:PI X tg iter wi) (hgt:∀cl C ae ai fp E,PG (cxNH X M scope cl xs C ae ai fp E) tg gt) (hif:∀cl C ae ai fp,PTs (cxNH X M scope cl xs C ae ai fp (fun _ _=>False)) ifs tt) (he:∀cl C ae ai fp,PE (cxNH X M scope cl xs C ae ai fp (fun _ _=>False)) elt te)
  (hs:∀v,foldedSetIterable iter X.env v=pure v:=by intro _;rfl):PE X (.ListComp elt [⟨tg,iter,ifs,0⟩] scope pos) (zeT wi gt tt te xs.length):=by
 intro pins s U H Q I h
 have hN:(xs++M).Nodup:=(List.nodup_cons.mp hN0).2
 have h0N:(".0" : Str)∉M:=fun z=>(List.nodup_cons.mp hN0).1 (List.mem_append_right _ z)
 obtain ⟨cl,hclos,hcl1,hcl2⟩:=zeP X.env scope fun p hp hf=>I.ok.has p.1 (.inl (S.free p hp hf))
 have hkd:X.env.scope.kind=.function:=I.ok.kind
 rw [eval_ListComp]
 refine wpAny_comprehension_free (use:=none) rfl hs hclos S.kind (fun y hy hl=>(S.names y hy hl).1) ?_
 refine thn (hi pins s U H _ I h) fun v s1 h1=>thn h1 fun itv ae h2=>?_
 obtain ⟨it,fp,tn,J,H2,e,I2,T,st2,f2,W,⟨m0,w0⟩,turn⟩:=h2
 subst e
 refine wpAny_newObj_type (wpAny_newFunctionEnv S.ncell (by intro y hy;simp at hy) (fun av aw au=>?_) S.kind)
 dsimp only at aw au ⊢
 generalize hH2:ae.heap.push { cls:=.type "list", dict:=none,data:=.seq ([]:List Value).toArray }=G2 at aw au ⊢
 have hC:G2.objs.size=ae.heap.objs.size+1:=by rw [<-hH2,Heap.size_push]
 have hDC:ae.heap.objs.size≠G2.objs.size:=by rw [hC];exact Nat.ne_of_lt (Nat.lt_succ_self _)
 have hCle:ae.heap.objs.size<=G2.objs.size:=by rw [hC];exact Nat.le_succ _
 have old:∀b o,ae.heap.get? b=some o->av.get? b=some o:=fun b o e=>by
  have hb:b≠G2.objs.size:=by rw [hC];exact Nat.ne_of_lt (Nat.lt_succ_of_lt (Heap.lt_size e))
  exact au.extBut b o hb (Heap.get?_push_of_some _ (hH2▸Heap.get?_push_of_some _ e))
 have hacc:av.get? ae.heap.objs.size=some { cls:=.type "list", data:=.seq (#[]:Array Value) 0 }:=au.extBut _ _ hDC (Heap.get?_push_of_some _ (hH2▸Heap.get?_push_size _ rfl))
 generalize hD:ae.heap.objs.size=D at *
 generalize hCC:G2.objs.size=C at *
 have ltS:∀{b:Nat} {o:Obj},ae.heap.get? b=some o->b<D:=fun e=>by rw [<-hD];exact Heap.lt_size e
 have nofr:∀b,D<=b->b∉frs X.stack:=fun b hb z=>by
  rcases List.mem_cons.mp (I2.stkSub b z) with q|q
  ·exact ar1 I2.lt hD hb q
  ·exact I2.nofs (by rw [hD];exact hb) q
 let E':Value->Shared->Prop:=notedBy (model X.prog X.w) X.A (compEnvC scope cl C X.env) fun e s'=>compPost (model X.prog X.w) X.A X.xe none (EP X pins U Q) (.ref D) C (.error e) s'
 let Y:Cx:=cxNH X M scope cl xs C ae H2 fp E'
 have fpX:∀b∈fp,FpOk X pins H2 b:=f2
 have okY:Y.Ok:=by
  refine ⟨I2.ok.mod,S.kind,I2.ok.glob,I2.ok.blt,(by show ae.heap.objs.size<=C;omega),fun y z c h1 h2=>?_,fun y hy=>?_,fun y c hf=>?_,I2.ok.hd,I2.ok.frames,.inl rfl,fun b hb=>?_,I2.bs,Nat.le_trans I2.ok.bsz I2.sz,fun b o hb hx=>?_,fun b hb hx=>?_,I2.stack,I2.stkFree⟩
  ·exact I2.ok.inj y z c (hcl1 y c h1) (hcl1 z c h2)
  ·exact hcl2 y (zcC S hkd hy)
  ·cases hf
  ·refine ⟨fun z=>?_,fun y c hy=>(fpX b hb).2.2.2.2.1 y c (hcl1 y c hy)⟩
   obtain ⟨o,ho,_⟩:=T.obj 0 _ st2 b hb
   exact wF (ltS ho) hC z
  ·rcases (fpX b hx).2.2.2.1 with z|z
   ·exact I2.ok.noex b o hb z
   ·exact ar3 (Heap.lt_size hb) I2.ok.bsz z
  ·rcases List.mem_cons.mp (I2.stkSub b hx) with q|q
   ·exact (fpX b hb).2.1 q
   ·exact (fpX b hb).2.2.1 q
 have hpinD:∀{s':Shared} {H':Hp} {o:Obj},s'.heap.get? D=some o->H' D=none->(∀v,o.data ≠ .cell v)->∀p∈[(D,o)],s'.heap.get? p.1=some p.2/\H' p.1=none/\p.1≠Y.env.locals/\p.1∉Y.fs/\∀v,p.2.data ≠ .cell v:=fun {s' H' o} e1 e2 e3 p hp=>by
  have ep:p=(D,o):=by simpa using hp
  subst ep
  exact ⟨e1,e2,hDC,nofr D (Nat.le_refl _),e3⟩
 have I0:Inv Y [(D,{ cls:=.type "list", data:=.seq (#[]:Array Value) 0 })] (List.replicate xs.length none++U) H2 { ae with heap:=av,toks:=ae.toks+([]:List (Str×Value)).length }:=by
  have fresh:∀b,D<=b->H2 b=none:=fun b hb=>I2.hok.fresh (by rw [hD];exact hb)
  refine ⟨okY,rfl,I2.bare,Un.kept old,⟨_,aw,fun i y v e1 e2 e3=>?_⟩,fun y c hy=>?_,fresh C (by omega),fun y c hy=>I2.freeC y c (hcl1 y c hy),fun p hp=>hpinD hacc (fresh D (Nat.le_refl _)) (fun v z=>by cases z) p hp,I2.hok.kept old,?_⟩
  ·by_cases hlt:i<xs.length
   ·rw [List.getElem?_append_left (by simpa using hlt),List.getElem?_replicate] at e2
    simp [hlt] at e2
   ·obtain ⟨j,rfl⟩:∃j,i=xs.length+j:=⟨i-xs.length,by omega⟩
    have e0':M[j]?=some y:=by
     have:(xs++M)[xs.length+j]?=some y:=e1
     rw [List.getElem?_append_right (by omega)] at this
     simpa using this
    have e1':X.N[j]?=some y:=by
     rcases eN.get e0' with q|q
     ·exact q
     ·refine absurd ?_ q
      rcases e3 with e3|e3|e3<;>(obtain ⟨k0,hm,_⟩:=j7 e3;exact List.mem_map.mpr ⟨_,hm,rfl⟩)
    have e2':U[j]?=some (some v):=by
     rw [List.getElem?_append_right (by simp)] at e2
     simpa using e2
    have hyx:¬(y∈xs\/y = ".0"):=fun z=>by
     have hm:=List.mem_of_getElem? e0'
     rcases z with z|z
     ·exact (List.nodup_append.mp hN).2.2 y z y hm rfl
     ·rw [z] at hm
      exact h0N hm
    have hfr:(y,NameKind.free)∈scope.names:=by
     rcases e3 with e3|e3|e3
     ·exact absurd (zeR S e3) hyx
     ·exact zcC S hkd (.inl e3)
     ·exact zcC S hkd (.inr e3)
    have hkc:X.env.scope.names.lookup y=some .cell:=S.free _ hfr rfl
    obtain ⟨m,hn,hl⟩:=I2.loc
    obtain ⟨u,r,l⟩:=hl j y v e1' e2' (.inr (.inl hkc))
    refine ⟨u,r,?_⟩
    rcases l with ⟨hk,_⟩|⟨_,c,hcc,hcell⟩
    ·have:X.env.kindOf y=some .cell:=hkc
     rw [this] at hk;cases hk
    ·obtain ⟨c',hc'⟩:=hcl2 y hfr
     have:=hcl1 y c' hc'
     rw [hcc] at this
     cases this
     refine .inr ⟨?_,c,hc',?_⟩
     ·rcases e3 with e3|e3|e3
      ·exact absurd (zeR S e3) hyx
      ·exact .inl e3
      ·exact .inr e3
     ·obtain ⟨o,ho,hd⟩:=hcell
      exact ⟨o,old c o ho,hd⟩
  ·obtain ⟨v,o,ho,hd⟩:=I2.cell y c (hcl1 y c hy)
   exact ⟨v,o,old c o ho,hd⟩
  ·show (List.replicate xs.length none++U).length=(xs++M).length
   simp [I2.len,eN.1]
 have fpY:∀{pl:List (Addr×Obj)} {H':Hp},(∀p∈pl,p.1=D)->(∀b∈fp,H' b=none)->∀b∈fp,FpOk Y pl H' b:=fun {pl H'} hpl hn b hb=>by
  obtain ⟨o,ho,_⟩:=T.obj 0 _ st2 b hb
  refine ⟨hn b hb,fun z=>?_,?_,.inl hb,(okY.exf b hb).2,fun p hp z=>?_⟩
  ·exact wF (ltS ho) hC z
  ·exact okY.exfs b hb
  ·have hp':p∈pl:=by simpa [Y,cxNH] using hp
   exact ar4 (ltS ho) (hpl p hp') z
 have loop:codeAny (model X.prog X.w) X.A (.compLoop (.ListComp elt [⟨tg,iter,ifs,0⟩] scope pos) 0 (.ref it) (.ref D) (compEnvC scope cl C X.env))
   (compPost (model X.prog X.w) X.A X.xe none (EP X pins U Q) (.ref D) C) { ae with heap:=av,toks:=ae.toks+([]:List (Str×Value)).length }:=by
  refine zj4 (fun n s'=>∃i ys H' its k,Inv Y [(D,{ cls:=.type "list", data:=.seq (its:List Value).toArray k })] (List.replicate xs.length none++U) H' s'/\Vals ys its/\tn i s'.heap/\(∀b∈fp,H' b=none)/\W i n ys H') ?_ m0
   ⟨0,[],H2,[],0,I0,.nil,T.keep 0 _ _ st2 (fun b hb o e=>old b o e),fun b hb=>(fpX b hb).1,w0⟩
  rintro n s3 ⟨i,ys,H3,its,k,I3,rv,st3,fr3,w3⟩
  have pinl:∀{o:Obj},∀p∈[(D,o)],p.1=D:=fun {o} p hp=>by
   have ep:p=(D,o):=by simpa using hp
   rw [ep]
  obtain ⟨gD,nD,_,_,_⟩:=I3.pin (D,_) (List.mem_append_right _ List.mem_cons_self)
  rcases turn i n ys H3 w3 with ⟨stop,hz,q⟩|⟨go,hz,step⟩
  ·refine thn (T.done Y rfl rfl rfl hc i _ s3 _ H3 E' I3 (fpY pinl fr3) st3 stop) fun r s4 ⟨hr,I4⟩=>?_
   subst hr
   obtain ⟨gD4,nD4,_,_,_⟩:=I4.pin (D,_) (List.mem_append_right _ List.mem_cons_self)
   obtain ⟨m4,hn4,_⟩:=id I4.loc
   refine ⟨m4,hn4,fun h' hsb=>?_⟩
   refine ⟨.ref D,upd H3 D (.lst ys),?_,rfl,q D nD4⟩
   have neC:∀{b:Addr} {u:HO},H3 b=some u->b≠C:=fun e z=>by
    have:H3 C=none:=I4.free
    rw [z,this] at e;cases e
   refine I2.call' (s':={ s4 with heap:=h' }) (ch:=fp) (H':=upd H3 D (.lst ys)) I4.os ?_ ?_ I4.bare fun b hb=>⟨(fpX b hb).2.2.2.1,(fpX b hb).2.1,(fpX b hb).2.2.2.2.1,(fpX b hb).2.2.2.2.2⟩
   ·have B:=I4.base
    have ltC:∀{b:Nat} {o:Obj},ae.heap.get? b=some o->b≠C:=fun e z=>wF (ltS e) hC z
    have neD:∀{b:Addr} {u:HO},H3 b=some u->b≠D:=fun e z=>by rw [z,nD4] at e;cases e
    refine ⟨fun b o e nn hb hx=>(hsb.2 b (ltC e)).trans (B.keep b o e nn hb hx),fun b o e nn hb hx=>?_,fun b o e nn hx=>?_,fun b o e hx=>?_,fun b xs e=>?_,fun b o u e=>?_,fun b ps e=>?_⟩
    ·obtain ⟨sl,z⟩:=B.slot b o e nn hb hx
     exact ⟨sl,(hsb.2 b (ltC e)).trans z⟩
    ·have hbD:b≠D:=Nat.ne_of_lt (ltS e)
     rw [zD hbD]
     exact B.free b o e nn hx
    ·obtain ⟨o',z⟩:=B.there b o e hx
     exact ⟨o',(hsb.2 b (ltC e)).trans z⟩
    ·have z:=B.tups b xs e
     rw [zD (neD z)];exact z
    ·have z:=B.frzs b o u e
     rw [zD (neD z)];exact z
    ·obtain ⟨more,z⟩:=B.tbls b ps e
     exact ⟨more,by rw [zD (neD z)];exact z⟩
   ·intro a o e
    by_cases ha:a=D
    ·subst ha
     rw [yn] at e
     cases e
     exact ⟨hz,its,k,rv,(hsb.2 _ hDC).trans gD4⟩
    ·rw [zD ha] at e
     have keepNe:∀b u,H3 b=some u->(upd H3 D (.lst ys)) b=some u:=fun b u z=>by
      have hb:b≠D:=fun w=>by rw [w,nD4] at z;cases z
      rw [zD hb];exact z
     refine (I4.hok a o e).stay (fun b u hb z=>(hsb.2 b ?_).trans z) (fun b z=>keepNe b _ z) fun b xs z=>keepNe b _ z
     rcases hb with hb|hb
     ·rw [hb];exact neC e
     ·exact neC hb
  ·refine thn (T.item Y rfl rfl rfl hc i _ s3 _ H3 E' I3 (fpY pinl fr3) st3 go) fun r s4 ⟨u,hr,h4⟩=>?_
   subst hr
   refine thn h4 fun _ s5 ⟨z,H5,I5,r5,y5,st5,fr5⟩=>?_
   have I5':=I5.pinned (fpY pinl fr5) (T.obj _ _ st5)
   have pgx:PG Y tg gt:=hgt cl C ae H2 fp E'
   have peY:PE Y elt te:=PE.nox (X:=Y) (he cl C ae H2 fp)
   have ptY:PTs Y ifs tt:=PTs.nox (X:=Y) (hif cl C ae H2 fp)
   refine thn (pgx _ s5 (List.replicate xs.length none++U) H5 z u _ I5' r5 (step z _ y5)) fun _ s6 ⟨az,H6,I6,own,e1,e2,q6⟩=>?_
   subst e1
   have wk:∀(j:Nat) v,(List.replicate xs.length none++U)[j]?=some (some v)->(own++U)[j]?=some (some v):=fun j v e=>by
    by_cases hlt:j<xs.length
    ·rw [List.getElem?_append_left (by simpa using hlt),List.getElem?_replicate] at e
     simp [hlt] at e
    ·rw [List.getElem?_append_right (by simp;omega)] at e
     rw [List.getElem?_append_right (by omega),e2]
     simpa using e
   have wl:(List.replicate xs.length none++U).length=(own++U).length:=by simp [e2]
   refine thn (ptY _ s6 _ _ _ I6 q6) fun b s7 ⟨H7,I7,q7⟩=>?_
   cases b with
   | true =>
    refine thn (peY _ s7 _ _ _ I7 q7) fun uy s7 ⟨y,H7,I7,ry,m',hm,w7⟩=>?_
    obtain ⟨gD7,nD7,_,_,_⟩:=I7.pin (D,_) (List.mem_append_right _ (List.mem_append_left _ List.mem_cons_self))
    refine wpAny_list_append_plain ⟨k,gD7⟩ (fun h' hpl hsb=>?_) (by rw [List.size_toArray,<-rv.length];exact hz)
    obtain ⟨k',gD'⟩:=hpl
    have I8:Inv Y [] (own++U) H7 { s7 with heap:=h' }:=(I7.pins_of (pins':=[]) (fun p hp=>nomatch hp)).turned (it:=D) (t':=s7.toks) (fun b o hb e=>(hsb.2 b hb).trans e) nD7 hDC
     (.inr (by show ae.heap.objs.size<=D;omega)) (fun a c hy hz'=>by
      obtain ⟨v',o',ho',_⟩:=I2.cell a c (hcl1 a c hy)
      exact Nat.ne_of_lt (ltS ho') hz') (fun p hp=>by simp [Y,cxNH] at hp)
    have I9:Inv Y [] (List.replicate xs.length none++U) H7 { s7 with heap:=h' }:=I8.weak wl wk
    have pinOf:∀b∈fp,∃o,s5.heap.get? b=some o/\s7.heap.get? b=some o/\H7 b=none:=fun b hb=>by
     obtain ⟨o,e,_⟩:=T.obj _ _ st5 b hb
     have q:=I7.pin (b,o) (List.mem_append_right _ (List.mem_append_right _ (zaC hb e)))
     exact ⟨o,e,q.1,q.2.1⟩
    have fpD:∀b∈fp,b≠D:=fun b hb=>by
     obtain ⟨o,ho,_⟩:=T.obj 0 _ st2 b hb
     exact Nat.ne_of_lt (ltS ho)
    have eT:its.toArray.push uy=(its++[uy]).toArray:=by simp
    rw [eT] at gD'
    refine ⟨m',hm,i+1,ys++[y],H7,its++[uy],k',I9.pins_of (hpinD gD' nD7 fun v e=>by cases e),rv.append (.cons ry .nil),T.keep (i+1) _ _ st5 fun b hb o e=>?_,fun b hb=>?_,w7⟩
    ·obtain ⟨o',e1,e2,_⟩:=pinOf b hb
     rw [e] at e1
     cases e1
     exact (hsb.2 b (fpD b hb)).trans e2
    ·obtain ⟨_,_,_,q⟩:=pinOf b hb
     exact q
   | false =>
    obtain ⟨m',hm,w7⟩:=q7
    obtain ⟨gD7,nD7,_,_,_⟩:=I7.pin (D,_) (List.mem_append_right _ (List.mem_append_left _ List.mem_cons_self))
    have I9:Inv Y [] (List.replicate xs.length none++U) H7 s7:=(I7.pins_of (pins':=[]) (fun p hp=>nomatch hp)).weak wl wk
    have pinOf:∀b∈fp,∃o,s5.heap.get? b=some o/\s7.heap.get? b=some o/\H7 b=none:=fun b hb=>by
     obtain ⟨o,e,_⟩:=T.obj _ _ st5 b hb
     have q:=I7.pin (b,o) (List.mem_append_right _ (List.mem_append_right _ (zaC hb e)))
     exact ⟨o,e,q.1,q.2.1⟩
    refine ⟨m',hm,i+1,ys,H7,its,k,I9.pins_of (hpinD gD7 nD7 fun v e=>by cases e),rv,T.keep (i+1) _ _ st5 fun b hb o e=>?_,fun b hb=>?_,w7⟩
    ·obtain ⟨o',e1,e2,_⟩:=pinOf b hb
     rw [e] at e1
     cases e1
     exact e2
    ·obtain ⟨_,_,_,q⟩:=pinOf b hb
     exact q
 exact codeAny_compStart_list loop (T.self X.A 0 _ _ _ (T.keep 0 _ _ st2 (fun b hb o e=>old b o e)) loop)
theorem zj5 {X:Cx} {elt iter tg:Expr} {ifs:List Expr} {xs:List Str} {pos:Pos} {scope:Scope} {wi:TI} {gt:TG} {tt:TT} {te:TE} {N:List Str} (hc:X.calm=true) (S:CompSN X.env.scope scope xs) (eN:X.N=N) (hN0:((".0" : Str)::(xs++N)).Nodup)
  (hi:PI X tg iter wi) (hgt:∀cl C ae ai fp E,PG (cxN X scope cl xs C ae ai fp E) tg gt) (hif:∀cl C ae ai fp,PTs (cxN X scope cl xs C ae ai fp (fun _ _=>False)) ifs tt) (he:∀cl C ae ai fp,PE (cxN X scope cl xs C ae ai fp (fun _ _=>False)) elt te)
  (hs:∀v,foldedSetIterable iter X.env v=pure v:=by intro _;rfl):PE X (.ListComp elt [⟨tg,iter,ifs,0⟩] scope pos) (zeT wi gt tt te xs.length) :=
 zeU (M:=X.N) hc S Hid.refl (by rw [eN];exact hN0) hi hgt hif he hs
theorem zeV {X:Cx} {elt iter:Expr} {x:Str} {px pos:Pos} {scope:Scope} {wi:TI} {te:TE} {M:List Str} (hc:X.calm=true) (S:CompSc X.env.scope scope x) (eN:Hid scope M X.N) (hN0:((".0" : Str)::x::M).Nodup)
  (hi:PI X (.Name x px) iter wi) (he:∀cl C ae ai fp,PE (cxH X M scope cl x C ae ai fp (fun _ _=>False)) elt te)
  (hs:∀v,foldedSetIterable iter X.env v=pure v:=by intro _;rfl):PE X (.ListComp elt [⟨.Name x px,iter,[],0⟩] scope pos) (zcB wi te):=by
 have hN:([x]++M).Nodup:=(List.nodup_cons.mp hN0).2
 have S':CompSN X.env.scope scope [x]:=⟨S.kind,S.ncell,fun y hy h=>⟨(S.names y hy h).1,(S.names y hy h).2.imp (fun e=>by rw [e];exact List.mem_singleton_self _) id⟩,S.free⟩
 have pgx:∀cl C ae ai fp E,PG (cxNH X M scope cl [x] C ae ai fp E) (.Name x px) (j6 0):=fun cl C ae ai fp E=>zaA (X:=cxNH X M scope cl [x] C ae ai fp E) (i:=0) hN rfl (.inl (lookup_relabel_local S.hx)) (.inr (lookup_relabel_local S.hx))
 have e:∀U Q,(fun J H1=>CompW J te U Q H1)=fun J H1=>CompWN J (j6 0) w6 te 1 U Q H1:=fun U Q=>by
  funext J H1
  exact propext (exists_congr fun W=>and_congr Iff.rfl (forall_congr' fun i=>forall_congr' fun m=>forall_congr' fun ys=>forall_congr' fun H=>imp_congr Iff.rfl (or_congr Iff.rfl (and_congr Iff.rfl (and_congr Iff.rfl (forall_congr' fun z=>forall_congr' fun H'=>imp_congr Iff.rfl
   ⟨fun h=>⟨[some z],rfl,rfl,h⟩,fun ⟨_,_,_,h⟩=>h⟩))))))
 intro pins s U H Q I h
 refine zeU (te:=te) (tt:=w6) hc S' eN hN0 hi pgx (fun cl C ae ai fp=>zeS) (fun cl C ae ai fp=>he cl C ae ai fp) hs pins s U H Q I ?_
 show wi U H fun J H1=>CompWN J (j6 0) w6 te 1 U Q H1
 rw [<-e]
 exact h
end L2
namespace L2
open PySem PySem.Spec PyProof.Rows
theorem zj6 {X:Cx} {elt iter:Expr} {x:Str} {px pos:Pos} {scope:Scope} {wi:TI} {te:TE} {N:List Str} (hc:X.calm=true) (S:CompSc X.env.scope scope x) (eN:X.N=N) (hN0:((".0" : Str)::x::N).Nodup)
  (hi:PI X (.Name x px) iter wi) (he:∀cl C ae ai fp,PE (cxC X scope cl x C ae ai fp (fun _ _=>False)) elt te)
  (hs:∀v,foldedSetIterable iter X.env v=pure v:=by intro _;rfl):PE X (.ListComp elt [⟨.Name x px,iter,[],0⟩] scope pos) (zcB wi te) :=
 zeV hc S Hid.refl (eN▸hN0) hi he hs
def Its (z:Str):It:=⟨fun i _=>i<z.cps.size,fun i H v H'=>H'=H/\∃c,z.cps[i]?=some c/\v=.str ⟨#[c]⟩,fun i _=>z.cps.size<=i⟩
theorem zeW {P:Program} {w:World} {K:PySem.W.Frag} {tg:Expr} (z:Str) (t:Tok) (it:Addr) (ty:String) (hty:ty = "str_ascii_iterator" \/ ty = "str_iterator"):Turn P w K tg (Its z) [it] it (fun i h=>h.IsStrIter it ty z t i) where
 mem:=by simp
 obj:=fun i h st b hb=>by
  have e:b=it:=by simpa using hb
  subst e
  obtain ⟨o,e,c,d⟩:=st
  exact ⟨o,e,fun v z=>by rw [d] at z;cases z⟩
 keep:=fun i h h' st k=>by
  obtain ⟨o,e,r⟩:=st
  exact ⟨o,k it (by simp) o e,r⟩
 item:=by
  intro X hP hw hK hc i pins s U H E I hf st hg
  subst hP hw hK
  obtain ⟨f0,f1,f2,f3,f4,f5⟩:=hf it (by simp)
  have W:Walks X.prog X.w X.A it [it] [it] z.cps.size (SignAt z) (fun i h=>h.IsStrIter it ty z t i):=by
   rcases hty with e|e
   ·rw [e];exact Walks.strAscii (I.ok.hd hc) it z t
   ·rw [e];exact Walks.strWide (I.ok.hd hc) it z t
  refine W.item i s _ _ hg st fun v h' tk hv st' kk=>?_
  obtain ⟨c,u,hcx,rfl⟩:=hv
  have I1:Inv X pins U H { s with heap:=h',toks:=tk }:=I.turned (fun b o hb e=>kk b o (by simpa using hb) e) f0 f1 f3 f4 f5
  obtain ⟨o,e,cc,d⟩:=id st'
  exact ⟨_,rfl,zaB (s:={ s with heap:=h',toks:=tk }) e cc d (by rcases hty with e|e<;>rw [e]<;>decide) ⟨.str ⟨#[c]⟩,H,I1,⟨u,rfl⟩,⟨rfl,c,hcx,rfl⟩,st',fun b hb=>(hf b hb).1⟩⟩
 done:=by
  intro X hP hw hK hc i pins s U H E I hf st hg
  subst hP hw hK
  obtain ⟨f0,f1,f2,f3,f4,f5⟩:=hf it (by simp)
  have hn:z.cps[i]?=none:=by
   have hg':z.cps.size<=i:=hg
   simpa using hg'
  rcases hty with e|e
  ·rw [e] at st
   exact wpAny_pyNext_ascii_end (I.ok.hd hc) st hn fun h' eb=>⟨rfl,I.turned (t':=s.toks) (fun b o hb e=>eb b o hb e) f0 f1 f3 f4 f5⟩
  ·rw [e] at st
   exact wpAny_pyNext_wide_end (I.ok.hd hc) st hn fun h' eb=>⟨rfl,I.turned (t':=s.toks) (fun b o hb e=>eb b o hb e) f0 f1 f3 f4 f5⟩
 self:=fun A i s Q E st h=>by
  rcases hty with e|e
  ·rw [e] at st;exact wpAny_pyIter_striter_ascii st h
  ·rw [e] at st;exact wpAny_pyIter_striter_wide st h
section
variable {X:Cx}
theorem zj7:SlR X (fun x lo hi H Q=>∃z,x=.str z/\z.length<=sizeLine/\Q (.str (Txt.slice z lo hi)) H):=by
 intro pins s U H x v vl vu lo hi sl Q I rx hs pl pu h
 obtain ⟨z,rfl,hz,q⟩:=h
 obtain ⟨t,rfl⟩:=rx
 refine ⟨"str", _,F.slot_str_getitem.lookup,typeIs_str _ _ _,?_⟩
 have fin:∀t' k,EP X pins U Q (.str (Txt.slice z lo hi) t') { s with toks:=k }:=fun t' k=>⟨.str _,H,I.tok _,⟨_,rfl⟩,q⟩
 cases pl with
 | none =>
  cases pu with
  | none=>exact wpAny_getItem_str_slice (l:=none) (u:=none) (st:=none) hs rfl (post_val_or_str ⟨Nat.le_trans (Txt.slice_le z _ _) hz,fin⟩)
  | int j uj=>exact wpAny_getItem_str_slice (l:=none) (u:=some (j,uj)) (st:=none) hs rfl (post_val_or_str ⟨Nat.le_trans (Txt.slice_le z _ _) hz,fin⟩)
 | int i ui =>
  cases pu with
  | none=>exact wpAny_getItem_str_slice (l:=some (i,ui)) (u:=none) (st:=none) hs rfl (post_val_or_str ⟨Nat.le_trans (Txt.slice_le z _ _) hz,fin⟩)
  | int j uj=>exact wpAny_getItem_str_slice (l:=some (i,ui)) (u:=some (j,uj)) (st:=none) hs rfl (post_val_or_str ⟨Nat.le_trans (Txt.slice_le z _ _) hz,fin⟩)
theorem zeX:∀{bs:List Bool}{us:List Value},Vals (bs.map V.bl) us->us=bs.map Value.bool
 | [],us,r=>by rw [List.map_nil] at r;cases r;rfl
 | b::bs,us,r=>by
  rw [List.map_cons] at r
  cases r with
  | cons r1 r2 =>
   have e:_=Value.bool b:=r1
   rw [List.map_cons,<-zeX r2,e]
theorem vals_strs:∀{ys:List Str}{us:List Value},Vals (ys.map V.str) us->StrsAre us ys
 | [],us,r=>by rw [List.map_nil] at r;cases r;exact .nil
 | y::ys,us,r=>by
  rw [List.map_cons] at r
  cases r with
  | cons r1 r2 =>
   obtain ⟨t,e⟩:=r1
   subst e
   exact .cons y t (vals_strs r2)
theorem zj8 (hc:X.calm=true):CallR X (.builtin "all") (fun xs H Q=>∃(a:Addr) (bs:List Bool),xs=[.ref a]/\SqL X.K H a (bs.map V.bl)/\Q (.bl (bs.all id)) H):=by
 intro pins s U H xs us Q I r h
 obtain ⟨a,bs,rfl,hl,q⟩:=h
 obtain ⟨u,rfl,ru⟩:=wE r
 cases ru
 obtain ⟨its,rv,pl,hz⟩:=I.list hl
 have e:=zeX rv
 subst e
 refine call_all_walk (wpAny_pyIter_list pl.isList ?_)
 have hh:X.A.in1.handled=none:=I.ok.hd hc
 have hlt:a<s.heap.objs.size:=by
  obtain ⟨o,e,_⟩:=pl.isList
  exact Heap.lt_size e
 have hne:a≠s.heap.objs.size:=Nat.ne_of_lt hlt
 refine ⟨s.heap.objs.size,_,_,_,_,_,fun i=>(bs[i]?).getD true,rfl,Walks.list hh s.heap.objs.size a hne (bs.map Value.bool).toArray,⟨⟨_,Heap.get?_push_size _ rfl,rfl,rfl⟩,pl.isList.at fun o e=>Heap.get?_push_of_some _ e⟩,?_,fun h' tk kk=>?_⟩
 ·intro i v s' Q' E' hp hq
  have hp':(bs.map Value.bool)[i]?=some v:=by simpa using hp
  rw [List.getElem?_map] at hp'
  cases eb:bs[i]? with
  | none=>rw [eb] at hp';cases hp'
  | some b =>
   rw [eb] at hp'
   have:Value.bool b=v:=Option.some.inj hp'
   subst this
   refine wpAny_truthy_bool ?_
   dsimp only at hq
   rw [eb] at hq
   exact hq
 ·have e1:(List.range (bs.map Value.bool).toArray.size).all (fun i=>(bs[i]?).getD true)=bs.all id:=by
   rw [List.size_toArray,List.length_map]
   rw [Bool.eq_iff_iff,List.all_eq_true,List.all_eq_true]
   constructor
   ·intro hh b hb
    obtain ⟨i,hi,e⟩:=List.getElem_of_mem hb
    have:=hh i (List.mem_range.mpr hi)
    rw [List.getElem?_eq_getElem hi,e] at this
    exact this
   ·intro hh i hi
    have hi':=List.mem_range.mp hi
    rw [List.getElem?_eq_getElem hi']
    exact hh _ (List.getElem_mem hi')
  rw [e1]
  refine ⟨.bl (bs.all id),H,?_,rfl,q⟩
  exact I.kept (t':=tk) fun b o e=>kk b o (fun z=>by
   have z':b=s.heap.objs.size:=by simpa using z
   exact absurd (Heap.lt_size e) (by rw [z'];exact Nat.lt_irrefl _)) (Heap.get?_push_of_some _ e)
theorem zj9:MtR X "str.join" (fun x xs H Q=>∃(z:Str) (a:Addr) (ys:List Str),x=.str z/\xs=[.ref a]/\SqL X.K H a (ys.map V.str)/\(ys.map (·.length)).sum+ys.length*z.length<=16777216/\Q (.str (Txt.join z ys)) H):=by
 intro pins s U H x xs v us Q I rx r h
 obtain ⟨z,a,ys,rfl,rfl,hl,hz,q⟩:=h
 obtain ⟨t,rfl⟩:=rx
 obtain ⟨u,rfl,ru⟩:=wE r
 cases ru
 obtain ⟨its,rv,pl,_⟩:=I.list hl
 exact join_list pl.isList (by simpa using vals_strs rv) hz fun t' k=>⟨.str _,H,I.tok _,⟨_,rfl⟩,q⟩
theorem zka:CallR X (.type "int") (fun xs H Q=>∃z n,xs=[.str z]/\PySem.intText? z=some n/\z.length<=640/\Q (.int n) H):=by
 intro pins s U H xs us Q I r h
 obtain ⟨z,n,rfl,hn,hz,q⟩:=h
 obtain ⟨u,rfl,t,rfl⟩:=wE r
 exact PySem.W.KIN.call_text hn hz ⟨.int n,H,I.tok _,⟨_,rfl⟩,q⟩
theorem zkb:OpR X (compareOp .In) (fun x y H Q=>∃(c:Nat) (z:Str),x=.str ⟨#[c]⟩/\y=.str z/\Q (.bl (decide (c∈z.cps.toList))) H):=by
 intro pins s U H x y v u Q I rx ry h
 obtain ⟨c,z,rfl,rfl,q⟩:=h
 refine ziT pins s U H _ _ v u Q I rx ry ⟨_,_,rfl,rfl,?_⟩
 rw [StrLaws.found_one]
 exact q
end
section
variable {κ:Type} [DecidableEq κ]
def valV (kvs:List (κ×V)) (k:κ):Option V:=(kvs.find? fun kv=>decide (kv.1=k)).map (·.2)
def putK (kvs:List (κ×V)) (k:κ) (v:V):List (κ×V) :=
 if (kvs.any fun kv=>decide (kv.1=k))=true then kvs.map (fun kv=>if kv.1=k then (kv.1,v) else kv) else kvs++[(k,v)]
theorem zbi {p:κ×V}{r:List (κ×V)}{k:κ}(e:p.1=k):valV (p::r) k=some p.2:=by simp [valV,List.find?_cons,e]
theorem zbj {p:κ×V}{r:List (κ×V)}{k:κ}(e:¬p.1=k):valV (p::r) k=valV r k:=by simp [valV,List.find?_cons,e]
theorem zeY (k:κ):∀kvs:List (κ×V),(kvs.any fun kv=>decide (kv.1=k))=(valV kvs k).isSome
 | []=>rfl
 | p::r=>by
  rw [List.any_cons]
  by_cases e:p.1=k
  ·simp only [zbi e,decide_eq_true e,Bool.true_or,Option.isSome_some]
  ·rw [zbj e,decide_eq_false e,Bool.false_or];exact zeY k r
theorem zcD (kvs:List (κ×V)) (k:κ) (v:V):(putK kvs k v).length<=kvs.length+1:=by
 unfold putK
 split
 ·rw [List.length_map];omega
 ·rw [List.length_append,List.length_cons,List.length_nil];omega
theorem RelO.isSome_eq {o:Option V}{u:Option Value}(r:RelO o u):o.isSome=u.isSome:=by
 cases o with
 | none=>cases u with
  | none=>rfl
  | some _=>exact (show False from r).elim
 | some _=>cases u with
  | none=>exact (show False from r).elim
  | some _=>rfl
theorem RelO.getD {o:Option V}{u:Option Value}{d:V}{d':Value}(r:RelO o u) (rd:RelV d d'):RelV (o.getD d) (u.getD d'):=by
 cases o with
 | none=>cases u with
  | none=>exact rd
  | some _=>exact (show False from r).elim
 | some _=>cases u with
  | none=>exact (show False from r).elim
  | some _=>exact r
theorem KV.val {kvs:List (κ×V)}{vs:List (κ×Value)}(r:KV kvs vs) (k:κ):RelO (valV kvs k) (valueAt vs k):=by
 unfold KV at r
 induction r with
 | nil=>exact True.intro
 | @cons p q ps qs h t ih =>
  obtain ⟨h1,h2⟩:=h
  by_cases e:p.1=k
  ·have e':q.1=k:=h1.symm.trans e
   have b:valueAt (q::qs) k=some q.2:=by simp [valueAt,List.find?_cons,e']
   rw [zbi e,b];exact h2
  ·have e':¬q.1=k:=fun z=>e (h1.trans z)
   have b:valueAt (q::qs) k=valueAt qs k:=by simp [valueAt,List.find?_cons,e']
   rw [zbj e,b];exact ih
theorem KV.any {kvs:List (κ×V)}{vs:List (κ×Value)}(r:KV kvs vs) (k:κ):(kvs.any fun kv=>decide (kv.1=k))=vs.any fun kv=>decide (kv.1=k):=by
 unfold KV at r
 induction r with
 | nil=>rfl
 | cons h t ih=>rw [List.any_cons,List.any_cons,ih,h.1]
theorem KV.repl {kvs:List (κ×V)}{vs:List (κ×Value)}(r:KV kvs vs) (k:κ) {y:V}{u:Value}(ry:RelV y u) :
  KV (kvs.map fun kv=>if kv.1=k then (kv.1,y) else kv) (vs.map fun kv=>if kv.1=k then (kv.1,u) else kv):=by
 unfold KV at r ⊢
 induction r with
 | nil=>exact .nil
 | @cons p q ps qs h t ih =>
  rw [List.map_cons,List.map_cons]
  refine .cons ?_ ih
  obtain ⟨h1,h2⟩:=h
  by_cases e:p.1=k
  ·rw [if_pos e,if_pos (h1.symm.trans e)];exact ⟨h1,ry⟩
  ·rw [if_neg e,if_neg (fun z=>e (h1.trans z))];exact ⟨h1,h2⟩
theorem KV.put {kvs:List (κ×V)}{vs:List (κ×Value)}(r:KV kvs vs) (k:κ) {y:V}{u:Value}(ry:RelV y u):KV (putK kvs k y) (stored vs k u):=by
 unfold putK stored
 rw [r.any k]
 by_cases e:(vs.any fun kv=>decide (kv.1=k))=true
 ·rw [if_pos e,if_pos e];exact r.repl k ry
 ·rw [if_neg e,if_neg e];exact Paired.snoc r ⟨rfl,ry⟩
theorem KV.keys {kvs:List (κ×V)}{vs:List (κ×Value)}(r:KV kvs vs):kvs.map (·.1)=vs.map (·.1):=by
 unfold KV at r
 induction r with
 | nil=>rfl
 | cons h t ih=>rw [List.map_cons,List.map_cons,ih,h.1]
theorem KV.length {kvs:List (κ×V)}{vs:List (κ×Value)}(r:KV kvs vs):kvs.length=vs.length:=Paired.length r
end
theorem zaE {P:Program}{w:World}{k:Key}{u:Value}(r:RelV (kV k) u):(mixKind P w).is k u=true:=by
 cases k with
 | inl i=>obtain ⟨t,e⟩:=(show ∃t,u=Value.int i t from r);subst e;exact zhK P w i t
 | inr x=>obtain ⟨t,e⟩:=(show ∃t,u=Value.str x t from r);subst e;exact zhL P w x t
theorem zeZ {P:Program}{w:World}:∀{ks:List Key}{us:List Value},Vals (ks.map kV) us->ItemsAre (mixKind P w) ks us
 | [],_,r=>by rw [List.map_nil] at r;cases r;exact .nil
 | k::ks,_,r=>by
  rw [List.map_cons] at r
  cases r with
  | cons h t=>exact .cons (zaE h) (zeZ t)
abbrev KT (H:Hp):List (List Key×V)->List (List Key×Addr×Value)->Prop:=Paired fun p q=>p.1=q.1/\H q.2.1=some (.tup (p.1.map kV))/\RelV p.2 q.2.2
theorem KT.val {H:Hp}{kvs:List (List Key×V)}{xs:List (List Key×Addr×Value)}(r:KT H kvs xs) (k:List Key):RelO (valV kvs k) ((atKey xs k).map (·.2)):=by
 induction r with
 | nil=>exact True.intro
 | @cons p q ps qs h t ih =>
  obtain ⟨h1,_,h2⟩:=h
  by_cases e:p.1=k
  ·have e':q.1=k:=h1.symm.trans e
   have b:atKey (q::qs) k=some q.2:=by simp [atKey,List.find?_cons,e']
   rw [zbi e,b];exact h2
  ·have e':¬q.1=k:=fun z=>e (h1.trans z)
   have b:atKey (q::qs) k=atKey qs k:=by simp [atKey,List.find?_cons,e']
   rw [zbj e,b];exact ih
theorem KT.repl {H:Hp}{kvs:List (List Key×V)}{xs:List (List Key×Addr×Value)}(r:KT H kvs xs) (k:List Key) {y:V}{u:Value}(ry:RelV y u) :
  KT H (kvs.map fun kv=>if kv.1=k then (kv.1,y) else kv) (xs.map (putAt k u)):=by
 induction r with
 | nil=>exact .nil
 | @cons p q ps qs h t ih =>
  rw [List.map_cons,List.map_cons]
  refine .cons ?_ ih
  obtain ⟨h1,h2,h3⟩:=h
  unfold putAt
  by_cases e:p.1=k
  ·rw [if_pos e,if_pos (h1.symm.trans e)];exact ⟨h1,h2,ry⟩
  ·rw [if_neg e,if_neg (fun z=>e (h1.trans z))];exact ⟨h1,h2,h3⟩
theorem KT.put {H:Hp}{kvs:List (List Key×V)}{xs:List (List Key×Addr×Value)}(r:KT H kvs xs) (k:List Key) {b:Addr}{y:V}{u:Value}(hb:H b=some (.tup (k.map kV))) (ry:RelV y u) :
  KT H (putK kvs k y) (storedH xs k b u):=by
 have e:(kvs.any fun kv=>decide (kv.1=k))=(atKey xs k).isSome:=by
  rw [zeY,(r.val k).isSome_eq,Option.isSome_map]
 unfold putK storedH
 rw [e]
 by_cases q:(atKey xs k).isSome=true
 ·rw [if_pos q,if_pos q];exact r.repl k ry
 ·rw [if_neg q,if_neg q];exact Paired.snoc r ⟨rfl,hb,ry⟩
theorem KT.keeps {H H':Hp}{kvs:List (List Key×V)}{xs:List (List Key×Addr×Value)}(r:KT H kvs xs) (ht:∀b ys,H b=some (.tup ys)->H' b=some (.tup ys)):KT H' kvs xs :=
 Paired.mapP r fun _ _ z=>⟨z.1,ht _ _ z.2.1,z.2.2⟩
section
variable {P:Program}{w:World}{H:Hp}{h:Heap}{a:Addr}
theorem ze0 {u:HO}(ok:HOk P w H h) (e:Rd H a u):ObjOk P w H h a u:=e.ok ok
theorem yL {kvs:List (Key×V)}(ok:HOk P w H h) (e:Rd H a (.dK kvs)):kvs.length<=sizeLine/\(a==sysModules)=false/\∃vs,KV kvs vs/\h.DictOf (mixKind P w) a vs :=
 show ObjOk P w H h a (.dK kvs) from ze0 ok e
theorem ze1 {kvs:List (Key×V)}(ok:HOk P w H h) (e:H a=some (.dK kvs)):kvs.length<=sizeLine/\(a==sysModules)=false/\∃vs,KV kvs vs/\h.DictOf (mixKind P w) a vs:=yL ok (.inl e)
theorem zbk {ks:List Key}(ok:HOk P w H h) (e:H a=some (.tup (ks.map kV))):(tupleKind (mixKind P w)).is h ks a:=by
 obtain ⟨_,its,r,o,h1,h2,n,h3⟩:=(show ObjOk P w H h a (.tup (ks.map kV)) from ok a _ e)
 exact ⟨o,its.toArray,n,h1,h2,h3,by simpa using zeZ r⟩
theorem zbl {kvs:List (List Key×V)}(ok:HOk P w H h) (e:Rd H a (.dT kvs)):kvs.length<=sizeLine/\(a==sysModules)=false /\
  ∃xs,KT H kvs xs/\h.DictOfH (tupleKind (mixKind P w)) a xs:=by
 obtain ⟨z,y,xs,r,o,es,ep,h1,h2,h3,h4,h5⟩:=(show ObjOk P w H h a (.dT kvs) from ze0 ok e)
 refine ⟨z,y,xs,r,o,es,ep,h1,h2,h3,h4,fun x hx=>?_,h5⟩
 have all:∀{l:List (List Key×V)} {m:List (List Key×Addr×Value)},KT H l m->∀x∈m,(tupleKind (mixKind P w)).is h x.1 x.2.1:=by
  intro l m q
  induction q with
  | nil=>intro x hx;exact nomatch hx
  | @cons p q ps qs hq t ih =>
   intro x hx
   rcases List.mem_cons.mp hx with e|hx
   ·subst e
    exact zbk ok (by rw [<-hq.1];exact hq.2.1)
   ·exact ih x hx
 exact all r x hx
theorem zkc {kvs:List (List Key×V)}(ok:HOk P w H h) (e:H a=some (.dT kvs)):kvs.length<=sizeLine/\(a==sysModules)=false /\
  ∃xs,KT H kvs xs/\h.DictOfH (tupleKind (mixKind P w)) a xs:=zbl ok (.inl e)
end
def DGet (H:Hp) (a:Addr) (y:V) (r:Option V):Prop :=
 (∃kvs k,Rd H a (.dK kvs)/\y=kV k/\r=valV kvs k)\/∃kvs k b,Rd H a (.dT kvs)/\y=.ref b/\H b=some (.tup (k.map kV))/\r=valV kvs k
def DPut (H:Hp) (a:Addr) (y v:V) (H':Hp):Prop :=
 (∃kvs k,H a=some (.dK kvs)/\y=kV k/\kvs.length<sizeLine/\H'=upd H a (.dK (putK kvs k v))) \/
 ∃kvs k b,H a=some (.dT kvs)/\y=.ref b/\H b=some (.tup (k.map kV))/\kvs.length<sizeLine/\H'=upd H a (.dT (putK kvs k v))
theorem DGet.k {H:Hp}{a:Addr}{kvs:List (Key×V)}{k:Key}(e:H a=some (.dK kvs)):DGet H a (kV k) (valV kvs k):=.inl ⟨kvs,k,.inl e,rfl,rfl⟩
theorem DGet.t {H:Hp}{a b:Addr}{kvs:List (List Key×V)}{k:List Key}(e:H a=some (.dT kvs)) (eb:H b=some (.tup (k.map kV))):DGet H a (.ref b) (valV kvs k):=.inr ⟨kvs,k,b,.inl e,rfl,eb,rfl⟩
theorem DPut.k {H:Hp}{a:Addr}{kvs:List (Key×V)}{k:Key}{v:V}(e:H a=some (.dK kvs)) (hl:kvs.length<sizeLine):DPut H a (kV k) v (upd H a (.dK (putK kvs k v))):=.inl ⟨kvs,k,e,rfl,hl,rfl⟩
theorem DPut.t {H:Hp}{a b:Addr}{kvs:List (List Key×V)}{k:List Key}{v:V}(e:H a=some (.dT kvs)) (eb:H b=some (.tup (k.map kV))) (hl:kvs.length<sizeLine) :
  DPut H a (.ref b) v (upd H a (.dT (putK kvs k v))):=.inr ⟨kvs,k,b,e,rfl,eb,hl,rfl⟩
section
variable {X:Cx}{pins:List (Addr×Obj)}{U:St}{H:Hp}{s:Shared}{a:Addr}{y v:V}{u r:Value}{o:Option V}{A:Around}{E:Value->Shared->Prop}
theorem Inv.big (I:Inv X pins U H s):sysModules<s.heap.objs.size:=by
 have h:mainGlobals<s.heap.objs.size:=(I.mod.glob.keeps I.bk).lt
 exact Nat.lt_trans (by decide) h
theorem zkd {Q:Value->Shared->Prop}(hu:A.units+1<cLine) (I:Inv X pins U H s) (g:DGet H a y (some v)) (ry:RelV y u) (h:∀w' s',Inv X pins U H s'->RelV v w'->Q w' s') :
  wpAny (model X.prog X.w) A (getItem (.ref a) u) Q E s:=by
 rcases g with ⟨kvs,k,e,ey,l⟩|⟨kvs,k,b,e,ey,eb,l⟩
 ·subst ey
  obtain ⟨z,hd,vs,rel,dd⟩:=yL I.hok e
  obtain ⟨w',hw,rw'⟩:=RelO.some_of (v:=v) (o:=valueAt vs k) (by rw [l];exact rel.val k)
  exact wpAny_getItem_of (zaE ry) dd.mapOf hw (h w' _ (I.tok _) rw')
 ·subst ey
  cases (show u=Value.ref b from ry)
  obtain ⟨z,hd,xs,rel,dd⟩:=zbl I.hok e
  obtain ⟨w',hw,rw'⟩:=RelO.some_of (v:=v) (o:=(atKey xs k).map (·.2)) (by rw [l];exact rel.val k)
  obtain ⟨p,hp,hp2⟩:=Option.map_eq_some_iff.mp hw
  refine wpAny_getItem_heap (tupleKind_room_in1 hu) (zbk I.hok eb) dd hp ?_
  rw [hp2]
  exact h w' _ (I.tok _) rw'
theorem zke {Q:Value->Shared->Prop}(hu:A.units+1<cLine) (I:Inv X pins U H s) (g:DGet H a y o) (ry:RelV y u) (h:∀s',Inv X pins U H s'->Q (.bool o.isSome) s') :
  wpAny (model X.prog X.w) A (compareOp .In u (.ref a)) Q E s:=by
 rcases g with ⟨kvs,k,e,ey,l⟩|⟨kvs,k,b,e,ey,eb,l⟩
 ·subst ey
  obtain ⟨z,hd,vs,rel,dd⟩:=yL I.hok e
  refine wpAny_in_of (zaE ry) hd dd.mapOf ?_
  rw [<-(rel.val k).isSome_eq,<-l]
  exact h _ (I.tok _)
 ·subst ey
  cases (show u=Value.ref b from ry)
  obtain ⟨z,hd,xs,rel,dd⟩:=zbl I.hok e
  refine wpAny_in_heap (tupleKind_room_in1 hu) (zbk I.hok eb) hd dd ?_
  have q:=(rel.val k).isSome_eq
  rw [Option.isSome_map] at q
  rw [<-q,<-l]
  exact h _ (I.tok _)
theorem zcE {h':Heap}{t':Nat}{ob:HO}(I:Inv X pins U H s) (mu:Mut (H a)) (hs:Heap.SameBut a s.heap h') (he:∃q,h'.get? a=some q) (new:ObjOk X.prog X.w (upd H a ob) h' a ob) :
  Inv X pins U (upd H a ob) { s with heap:=h',toks:=t' } :=
 I.write (x:=a) (e:=a) mu (.inl rfl) (fun b q hb z=>(hs.2 b hb).trans z) he new
theorem ze2 {P:Program}{w:World}{H':Hp}{h':Heap}{kvs:List (Key×V)}{vs:List (Key×Value)}(z:kvs.length<=sizeLine) (hd:(a==sysModules)=false) (rel:KV kvs vs) (dd:h'.DictOf (mixKind P w) a vs) :
  ObjOk P w H' h' a (.dK kvs):=⟨z,hd,vs,rel,dd⟩
theorem zkf {H':Hp}{Q:Unit->Shared->Prop}(hu:A.units+1<cLine) (I:Inv X pins U H s) (g:DPut H a y v H') (ry:RelV y u) (rv:RelV v r) (h:∀s',Inv X pins U H' s'->Q () s') :
  wpAny (model X.prog X.w) A (setItem (.ref a) u r) Q E s:=by
 rcases g with ⟨kvs,k,e,ey,l,eH⟩|⟨kvs,k,b,e,ey,eb,l,eH⟩
 ·subst ey eH
  obtain ⟨z,hd,vs,rel,dd⟩:=ze1 I.hok e
  have hz:vs.length<=sizeLine:=by rw [<-rel.length];exact z
  have hl:(putK kvs k v).length<=sizeLine:=by have:=zcD kvs k v;omega
  refine wpAny_setItem_pairs (hsz:=hz) (zaE ry) dd fun h' dd' hs=>h _ ?_
  have he:∃q,h'.get? a=some q:=let ⟨q,_,_,hq,_⟩:=dd';⟨q,hq⟩
  exact zcE I (by rw [e];exact True.intro) hs he (ze2 hl hd (rel.put k rv) dd')
 ·subst ey eH
  cases (show u=Value.ref b from ry)
  obtain ⟨z,hd,xs,rel,dd⟩:=zkc I.hok e
  have hz:xs.length<=sizeLine:=by rw [<-Paired.length rel];exact z
  have hl:(putK kvs k v).length<=sizeLine:=by have:=zcD kvs k v;omega
  refine wpAny_setItem_heap (hsz:=hz) (tupleKind_room_in1 hu) (zbk I.hok eb) dd fun h' dd' hs=>h _ ?_
  obtain ⟨q,es,ep,hq,h2,h3,h4,_,h5⟩:=dd'
  refine zcE I (by rw [e];exact True.intro) hs ⟨q,hq⟩ ⟨hl,hd,_,(rel.put k eb rv).keeps fun c ys ec=>?_,q,es,ep,hq,h2,h3,h4,h5⟩
  rw [zD (zhM ec e (fun z=>nomatch z))]
  exact ec
end
section
variable {X:Cx}{pins:List (Addr×Obj)}{U:St}{H:Hp}{s:Shared}{a:Addr}{kvs:List (Key×V)}{k:Key}{u:Value}{A:Around}{E:Value->Shared->Prop}
theorem zkg {Q:Value->Shared->Prop} (I:Inv X pins U H s) (e:Rd H a (.dK kvs)) (h:∀t s',Inv X pins U H s'->Q (.int kvs.length t) s'):wpAny (model X.prog X.w) A (call (.builtin "len") [.ref a]) Q E s:=by
 obtain ⟨z,hd,vs,rel,dd⟩:=yL I.hok e
 refine call_len_dict hd dd (by rw [<-rel.length];rw [sizeLine_eq] at z;omega) ?_
 rw [<-rel.length]
 exact h _ _ (I.tok _)
end
theorem zkh {X:Cx} {pins:List (Addr×Obj)} {U:St} {H:Hp} {s:Shared} {a:Addr} {y:V} {o:Option V} (I:Inv X pins U H s) (g:DGet H a y o):s.TypeIs (.ref a) "dict" := by
 rcases g with ⟨kvs,k,e,_,_⟩|⟨kvs,k,b,e,_,_,_⟩
 ·obtain ⟨_,_,vs,_,dd⟩:=yL I.hok e
  exact dd.typeIs
 ·obtain ⟨_,_,xs,_,dd⟩:=zbl I.hok e
  exact dd.typeIs
def zki (td ty tv:TE):TS:=fun D U H=>tv U H fun v H1=>td U H1 fun x H2=>ty U H2 fun y H3=>∃a H4,x=.ref a/\DPut H3 a y v H4/\D.nx U H4
section
variable {X:Cx}{o i e value:Expr}{pos pos' tpos:Pos}{td ty tv:TE}
theorem zkj (hu:X.A.units+1<cLine) (ho:PE X o td) (hi:PE X i ty) (hv:PE X value tv) (hs:swapsWith value (some (.Subscript o i pos')) pos.line X.env=pure false) :
  PS X (.Assign [.Subscript o i pos'] value pos) (zki td ty tv):=by
 intro pins s U H D I h
 refine wpAny_Assign_Subscript (thn (hv pins s U H _ I h) fun r s1 ⟨v,H1,I1,rv,q1⟩=>thn (ho pins s1 U H1 _ I1 q1) fun u s2 ⟨x,H2,I2,rx,q2⟩=>thn (hi pins s2 U H2 _ I2 q2) fun iv s3 ⟨y,H3,I3,ry,a,H4,ex,g,q3⟩=>?_) hs
 subst ex
 obtain rfl:u=Value.ref a:=rx
 exact zkf hu I3 g ry rv fun s4 I4=>⟨U,H4,I4,q3⟩
end
theorem ze3 {P:Program} {w:World} {H:Hp} (h:Heap) (hb:sysModules<h.objs.size):ObjOk P w H (h.push { cls:=.type "dict", data:=.dict #[] }) h.objs.size (.dK []) :=
 ⟨Nat.zero_le _,beq_eq_false_iff_ne.mpr (Ne.symm (Nat.ne_of_lt hb)),[],.nil,Heap.DictOf.new h⟩
def zkk:TE:=fun _ H Q=>∀p,H p=none->Q (.ref p) (upd H p (.dK []))
section
variable {X:Cx}{pos:Pos}
theorem zkl:PE X (.Dict [] [] pos) zkk:=fun pins s U H Q I h =>
 wpAny_Dict_empty ⟨.ref s.heap.objs.size,_,I.laid (a:=s.heap.objs.size) (o:=.dK []) (t':=s.toks) (fun _ _ q=>Heap.get?_push_of_some _ q) (Nat.le_refl _) (ze3 s.heap I.big),rfl,h _ (I.hok.fresh (Nat.le_refl _))⟩
end
def zbm:List (TE×TE)->St->Hp->(List (V×V)->Hp->Prop)->Prop
 | [],_,H,Q=>Q [] H
 | (tk,tv)::r,U,H,Q=>tk U H fun x H1=>tv U H1 fun y H2=>zbm r U H2 fun ps H3=>Q ((x,y)::ps) H3
abbrev VV:List (V×V)->List (Value×Value)->Prop:=Paired fun p q=>RelV p.1 q.1/\RelV p.2 q.2
def PPs (X:Cx) (pos:Pos) (keys:List (Option Expr)) (values:List Expr) (trs:List (TE×TE)):Prop :=
 ∀(pins:List (Addr×Obj)) (s:Shared) (U:St) (H:Hp) (Q:List (V×V)->Hp->Prop),Inv X pins U H s->zbm trs U H Q ->
  wpAny (model X.prog X.w) X.A (evalPairs (pairTrees keys values X.env pos)) (fun vs s'=>∃ps H',Inv X pins U H' s'/\VV ps vs/\Q ps H') X.xe s
theorem zkm {X:Cx}{pos:Pos}:PPs X pos [] [] []:=fun pins s U H Q I h=>pairTrees_nil_walk ⟨[],H,I,.nil,h⟩
theorem zkn {X:Cx}{pos:Pos}{k v:Expr}{ks:List (Option Expr)}{vs:List Expr}{tk tv:TE}{trs:List (TE×TE)}(hk:PE X k tk) (hv:PE X v tv) (hr:PPs X pos ks vs trs) :
  PPs X pos (some k::ks) (v::vs) ((tk,tv)::trs):=fun pins s U H Q I h =>
 pairTrees_cons_walk (thn (hk pins s U H _ I h) fun u s1 ⟨x,H1,I1,rx,q1⟩=>thn (hv pins s1 U H1 _ I1 q1) fun w2 s2 ⟨y,H2,I2,ry,q2⟩ =>
  thn (hr pins s2 U H2 _ I2 q2) fun ws s3 ⟨ps,H3,I3,rel,q3⟩=>⟨(x,y)::ps,H3,I3,.cons ⟨rx,ry⟩ rel,q3⟩)
def mergeK (kvs more:List (Key×V)):List (Key×V):=more.foldl (fun acc kv=>putK acc kv.1 kv.2) kvs
theorem KV.merge:∀{more:List (Key×V)}{rs:List (Key×Value)}{kvs:List (Key×V)}{vs:List (Key×Value)},KV more rs->KV kvs vs->KV (mergeK kvs more) (merged vs rs):=by
 intro more rs kvs vs r
 unfold KV at r
 induction r generalizing kvs vs with
 | nil=>intro q;exact q
 | @cons p q ps qs h t ih =>
  intro r0
  have e:KV (putK kvs p.1 p.2) (stored vs q.1 q.2):=by
   have:=r0.put p.1 h.2
   rw [<-h.1];exact this
  exact ih e
theorem ze4:∀(more kvs:List (Key×V)),(mergeK kvs more).length<=kvs.length+more.length
 | [],kvs=>by show kvs.length<=kvs.length+0;omega
 | p::r,kvs=>by
  have h1:=ze4 r (putK kvs p.1 p.2)
  have h2:=zcD kvs p.1 p.2
  show (mergeK (putK kvs p.1 p.2) r).length<=_
  rw [List.length_cons];omega
theorem ze5 {P:Program}{w:World}:∀{kvs:List (Key×V)}{ws:List (Value×Value)},VV (kvs.map fun kv=>(kV kv.1,kv.2)) ws->∃rs,Carries (mixKind P w) ws rs/\KV kvs rs
 | [],_,r=>by rw [List.map_nil] at r;cases r;exact ⟨[],True.intro,.nil⟩
 | p::kvs,_,r=>by
  rw [List.map_cons] at r
  cases r with
  | @cons a b as bs h t =>
   obtain ⟨rs,c,q⟩:=ze5 (P:=P) (w:=w) t
   obtain ⟨b1,b2⟩:=b
   exact ⟨(p.1,b2)::rs,⟨zaE h.1,rfl,c⟩,.cons ⟨rfl,h.2⟩ q⟩
def zko (trs:List (TE×TE)):TE:=fun U H Q=>∀p,H p=none->zbm trs U (upd H p (.dK [])) fun ps H2=>H2 p=some (.dK [])/\∃kvs:List (Key×V),ps=kvs.map (fun kv=>(kV kv.1,kv.2))/\kvs.length<=15/\Q (.ref p) (upd H2 p (.dK (mergeK [] kvs)))
theorem zkp {X:Cx}{pos:Pos}{keys:List (Option Expr)}{values:List Expr}{trs:List (TE×TE)}(h:PPs X pos keys values trs) (hall:keys.all (·.isSome)=true) (hl:keys.length=values.length) (h0:keys≠[])
  (h15:keys.length<=15):PE X (.Dict keys values pos) (zko trs):=by
 intro pins s U H Q I q
 have hn:=I.hok.fresh (Nat.le_refl s.heap.objs.size)
 have I1:=I.laid (a:=s.heap.objs.size) (o:=.dK []) (h':=s.heap.push { cls:=.type "dict", data:=.dict #[] }) (t':=s.toks) (fun _ _ q=>Heap.get?_push_of_some _ q) (Nat.le_refl _) (ze3 s.heap I.big)
 refine wpAny_Dict_walk (knd:=mixKind X.prog X.w) hall hl h0 h15 (thn (h pins _ U _ _ I1 (q _ hn)) fun ws s2 ⟨ps,H2,I2,rel,e,kvs,ep,lk,q2⟩=>?_)
 subst ep
 obtain ⟨rs,c,rk⟩:=ze5 (P:=X.prog) (w:=X.w) rel
 obtain ⟨z,hd,vs0,r0,dd⟩:=ze1 I2.hok e
 cases r0
 refine ⟨rs,c,dd,fun h' dd' hs=>⟨.ref s.heap.objs.size,_,?_,rfl,q2⟩⟩
 have hz:(mergeK [] kvs).length<=sizeLine:=by
  have h1:=ze4 kvs []
  rw [List.length_nil] at h1
  rw [sizeLine_eq];omega
 have he:∃q,h'.get? s.heap.objs.size=some q:=let ⟨q,_,_,hq,_⟩:=dd';⟨q,hq⟩
 exact zcE I2 (by rw [e];exact True.intro) hs he (ze2 hz hd (rk.merge .nil) dd')
structure M1 (X:Cx) (o:Expr) (m:Str) (apos:Pos) (e:Expr) (cpos:Pos):Prop where
 base:attributeBase o m X.env (eval o X.env)=eval o X.env
 few:((backTo cpos (starEach [e] X.env)).all (fun x=>!x.1)&&(backToKw cpos (keywordEach [] X.env)).all (fun x=>x.1.isSome)
  && decide (([e]:List Expr).length+([]:List Keyword).length+(if ([]:List Keyword).isEmpty then 0 else 1)<30))=true
 line:(apos.endLine==cpos.line)=true
 trees:backTo cpos (starEach [e] X.env)=[(false,eval e X.env)]
structure M2 (X:Cx) (o:Expr) (m:Str) (apos:Pos) (e f:Expr) (cpos:Pos):Prop where
 base:attributeBase o m X.env (eval o X.env)=eval o X.env
 few:((backTo cpos (starEach [e,f] X.env)).all (fun x=>!x.1)&&(backToKw cpos (keywordEach [] X.env)).all (fun x=>x.1.isSome)
  && decide (([e,f]:List Expr).length+([]:List Keyword).length+(if ([]:List Keyword).isEmpty then 0 else 1)<30))=true
 line:(apos.endLine==cpos.line)=true
 trees:backTo cpos (starEach [e,f] X.env)=[(false,eval e X.env),(false,eval f X.env)]
section
variable {X:Cx}{pins:List (Addr×Obj)}{U:St}{H:Hp}{s:Shared}{a:Addr}{y d:V}{u r:Value}{o:Option V}{A:Around}{E:Value->Shared->Prop}
end
section
variable {X:Cx}{o e f:Expr}{apos cpos:Pos}{td ty tx:TE}
end
section
variable {X:Cx}{pins:List (Addr×Obj)}{U:St}{H:Hp}{s:Shared}{a:Addr}{kvs:List (Key×V)}{A:Around}{E:Value->Shared->Prop}
end
section
variable {X:Cx}{pins:List (Addr×Obj)}{U:St}{H:Hp}{s:Shared}{a:Addr}{y:V}{u:Value}{A:Around}{E:Value->Shared->Prop}
end
def XO (h:Heap) (a:Addr) (C:Value) (d:Option Addr) (head:Value):Prop :=
 ∃oe vs,h.get? a=some oe/\oe.cls=C/\oe.dict=d/\oe.data=.fields vs/\vs.size=6/\vs[1]?=some head
def TB (h:Heap) (T:Addr) (fl:Value):Prop:=∃oT ts,h.get? T=some oT/\oT.data=.fields ts/\ts[3]?=some fl
theorem zkq (o:Obj) (f):(o.mapFields f).dict=o.dict:=by
 obtain ⟨c,d,dt,sl⟩:=o
 cases dt<;>rfl
theorem XO.keeps {h h':Heap}{a:Addr}{C:Value}{d:Option Addr}{head:Value}(x:XO h a C d head) (k:∀o,h.get? a=some o->h'.get? a=some o):XO h' a C d head:=by
 obtain ⟨oe,vs,e,r⟩:=x
 exact ⟨oe,vs,k _ e,r⟩
theorem TB.keeps {h h':Heap}{T:Addr}{fl:Value}(x:TB h T fl) (k:∀o,h.get? T=some o->h'.get? T=some o):TB h' T fl:=by
 obtain ⟨oT,ts,e,r⟩:=x
 exact ⟨oT,ts,k _ e,r⟩
theorem XO.set1 {h:Heap}{a:Addr}{C:Value}{d:Option Addr}{head:Value}(x:XO h a C d head) (u:Value):XO (h.update a (Obj.mapFields (·.setIfInBounds 1 u))) a C d u:=by
 obtain ⟨oe,vs,e,hc,hdi,hd,hz,h1⟩:=x
 have hd':=Obj.data_mapFields hd (·.setIfInBounds 1 u)
 refine ⟨_,_,Heap.get?_update_self _ e (Obj.isFreed_of_fields hd'),(Obj.cls_mapFields _ _).trans hc,(zkq _ _).trans hdi,hd',?_,?_⟩
 ·rw [Array.size_setIfInBounds];exact hz
 ·have:1<vs.size:=by omega
  simp [this]
theorem TB.set3 {h:Heap}{T:Addr}{fl:Value}(x:TB h T fl) (u:Value):TB (h.update T (Obj.mapFields (·.setIfInBounds 3 u))) T u:=by
 obtain ⟨oT,ts,e,hd,h3⟩:=x
 have hd':=Obj.data_mapFields hd (·.setIfInBounds 3 u)
 refine ⟨_,_,Heap.get?_update_self _ e (Obj.isFreed_of_fields hd'),hd',?_⟩
 have:3<ts.size:=(Array.getElem?_eq_some_iff.mp h3).1
 simp [this]
section
variable {M:Model}{A:Around}{E:Value->Shared->Prop}{s:Shared}{base:Heap}{env:Env}{outer:List Env}{L a:Addr}{C:Value}{d:Option Addr}{head:Value}{Q:Unit->Shared->Prop}
theorem ze6 {b2:Bool}(hfr:A.frames=some (env::outer)) (hl:s.heap.FunFrames base (env::outer)) (hf:env.frame=some L) (x:XO s.heap a C d head)
  (h:∀h' T,s.heap.objs.size<=T->XO h' a C d (.ref T)->TB h' T (rawInt L)->(∀b o,b≠a->b∉frs (env::outer)->s.heap.get? b=some o->h'.get? b=some o) ->
   (∀b o,b≠a->b∈frs (env::outer)->s.heap.get? b=some o->∃sl,h'.get? b=some { o with slots:=sl })->Q () { s with heap:=h' }) :
  wpAny M A (do let fr <-frameOf env;let pl <-entryPlaceOf L b2;let tb <-EntryCells.newEntry head fr .none (rawInt L) .none pl;setField (.ref a) 1 tb) Q E s:=by
 obtain ⟨oe,vs,e,hc,hdi,hd,hz,h1⟩:=id x
 have aN:a∉frs (env::outer):=fun hm=>by
  obtain ⟨_,o,ho,nf⟩:=hl.mem hm
  rw [e] at ho
  cases ho
  exact nf vs hd
 refine wpAny_bind (wpAny_frameOf_fun hfr hl hf fun g1 sl1=>wpAny_bind (wpAny_entryPlaceOf fun pl ipl=>?_))
 unfold EntryCells.newEntry newFields
 refine wpAny_bind (wpAny_newObj_type ?_ (ipl.sizeOk5 _ _ _ _ _))
 have x1:XO g1 a C d head:=⟨oe,vs,(sl1.2.1 a aN).trans e,hc,hdi,hd,hz,h1⟩
 generalize hob:({ cls:=.type "traceback", dict:=none,data:=.fields ([head,.ref L,.none,rawInt L,.none]++(if pl.isEmpty then List.replicate 6 Value.none else pl)).toArray }:Obj)=ob
 have x2:XO (g1.push ob) a C d head:=x1.keeps fun o q=>Heap.get?_push_of_some _ q
 obtain ⟨oe2,vs2,e2,_,_,hd2,hz2,_⟩:=id x2
 refine wpAny_setField e2 hd2 (by omega) ?_
 have aT:g1.objs.size≠a:=fun z=>by
  obtain ⟨_,_,q,_⟩:=x1
  have:=Heap.lt_size q
  rw [<-z] at this
  exact Nat.lt_irrefl _ this
 have szle:s.heap.objs.size<=g1.objs.size:=Nat.le_of_eq sl1.1.symm
 refine h _ g1.objs.size szle (x2.set1 _) ?_ (fun b o nb nf q=>?_) (fun b o nb nf q=>?_)
 ·have t0:TB (g1.push ob) g1.objs.size (rawInt L):=by
   refine ⟨ob,_,Heap.get?_push_size _ (by rw [<-hob];rfl),by rw [<-hob],?_⟩
   rcases ipl with rfl|⟨_,_,_,_,_,_,_,rfl⟩<;>simp
  exact t0.keeps fun o q=>(Heap.get?_update_other _ _ (Ne.symm aT)).trans q
 ·exact (Heap.get?_update_other _ _ (Ne.symm nb)).trans (Heap.get?_push_of_some _ ((sl1.2.1 b nf).trans q))
 ·obtain ⟨sl,z⟩:=sl1.2.2 b o q
  exact ⟨sl,(Heap.get?_update_other _ _ (Ne.symm nb)).trans (Heap.get?_push_of_some _ z)⟩
theorem zkr (hfr:A.frames=some (env::outer)) (hl:s.heap.FunFrames base (env::outer)) (hf:env.frame=some L) (x:XO s.heap a C d head)
  (ht:head=.none\/∃T0,head=.ref T0/\T0≠a/\TB s.heap T0 .none)
  (h:∀h' T,s.heap.objs.size<=T->XO h' a C d (.ref T)->TB h' T (rawInt L)->(∀b o,b≠a->.ref b≠head->b∉frs (env::outer)->s.heap.get? b=some o->h'.get? b=some o) ->
   (∀b o,b∈frs (env::outer)->s.heap.get? b=some o->∃sl,h'.get? b=some { o with slots:=sl })->Q () { s with heap:=h' }) :
  wpAny M A (noteFrame (.ref a) env) Q E s:=by
 obtain ⟨oe,vs,e,hc,hdi,hd,hz,h1⟩:=id x
 have aN:a∉frs (env::outer):=fun hm=>by
  obtain ⟨_,o,ho,nf⟩:=hl.mem hm
  rw [e] at ho
  cases ho
  exact nf vs hd
 unfold noteFrame
 simp only [hf]
 refine wpAny_bind (wpAny_field e hd h1 ?_)
 rcases ht with rfl|⟨T0,rfl,nT,t0⟩
 ·rw [if_neg (by decide)]
  exact ze6 hfr hl hf x fun h' T k1 k2 k3 k4 k5=>h h' T k1 k2 k3 (fun b o nb _ nf q=>k4 b o nb nf q) fun b o hb q=>k5 b o (fun z=>aN (z▸hb)) hb q
 ·obtain ⟨oT,ts,eT,hdT,h3⟩:=id t0
  have TN:T0∉frs (env::outer):=fun hm=>by
   obtain ⟨_,o,ho,nf⟩:=hl.mem hm
   rw [eT] at ho
   cases ho
   exact nf ts hdT
  rw [if_pos (show (Value.ref T0 != Value.none)=true from by simp)]
  refine wpAny_bind (wpAny_field eT hdT h3 ?_)
  rw [if_neg (show ¬((Value.none==rawInt L)=true) from by simp [rawInt])]
  refine wpAny_bind (wpAny_setField eT hdT (Array.getElem?_eq_some_iff.mp h3).1 ?_)
  have oth:∀b,b≠T0->(s.heap.update T0 (Obj.mapFields (·.setIfInBounds 3 Value.none))).get? b=s.heap.get? b:=fun b hb=>Heap.get?_update_other _ _ (Ne.symm hb)
  refine ze6 (s:={ s with heap:=s.heap.update T0 (Obj.mapFields (·.setIfInBounds 3 Value.none)) }) hfr (hl.of_keeps fun b o hb nf=>⟨o,(oth b fun q=>?_).trans hb,rfl⟩) hf (x.keeps fun o q=>(oth a (Ne.symm nT)).trans q) fun h' T k1 k2 k3 k4 k5 =>
   h h' T (by simpa using k1) k2 k3 (fun b o nb nh nf q=>k4 b o nb nf ((oth b fun z=>nh (by rw [z])).trans q)) fun b o hb q=>k5 b o (fun z=>aN (z▸hb)) hb ((oth b fun z=>TN (z▸hb)).trans q)
  rw [q,eT] at hb
  cases hb
  exact nf ts hdT
theorem zks {T:Addr}{fl:Value}(x:XO s.heap a C d (.ref T)) (t:TB s.heap T fl) (ne:T≠a)
  (h:∀h',XO h' a C d (.ref T)->TB h' T .none->(∀b o,b≠T->s.heap.get? b=some o->h'.get? b=some o)->h'.objs.size=s.heap.objs.size->Q () { s with heap:=h' }):wpAny M A (setFlight (.ref a) none) Q E s:=by
 obtain ⟨oe,vs,e,_,_,hd,_,h1⟩:=id x
 obtain ⟨oT,ts,eT,hdT,h3⟩:=id t
 unfold setFlight
 refine wpAny_bind (wpAny_field e hd h1 ?_)
 rw [if_pos (show (Value.ref T != Value.none)=true from by simp)]
 refine wpAny_setField eT hdT (Array.getElem?_eq_some_iff.mp h3).1 ?_
 exact h _ (x.keeps fun o q=>(Heap.get?_update_other _ _ ne).trans q) (t.set3 _) (fun b o nb q=>(Heap.get?_update_other _ _ (Ne.symm nb)).trans q) (by simp)
end
def OwnRec (X:Cx) (pins:List (Addr×Obj)) (H:Hp) (b:Addr):Prop :=
 H b=none/\X.s₀.heap.objs.size<=b/\b≠X.env.locals/\(∀x c,X.env.cells.lookup x=some c->c≠b)/\∀p∈X.pn++pins,p.1≠b
theorem OwnRec.new {X:Cx}{pins:List (Addr×Obj)}{U:St}{H H':Hp}{s:Shared}{b:Addr}(I:Inv X pins U H s) (hb:s.heap.objs.size<=b) (hn:H' b=none):OwnRec X pins H' b:=by
 obtain ⟨f0,f1,f2,f3,f4,f5⟩:=I.fpOk (H':=H') hb hn
 exact ⟨hn,Nat.le_trans I.sz hb,f1,f4,f5⟩
def Fly (X:Cx) (pins:List (Addr×Obj)) (H:Hp) (h:Heap) (a C:Addr) (d:Option Addr):Prop :=
 ∃head,XO h a (.ref C) d head/\OwnRec X pins H a/\(head=.none\/∃T,head=.ref T/\T≠a/\TB h T .none/\OwnRec X pins H T)
def Throws (X:Cx) (E:XK):Prop:=∀(pins:List (Addr×Obj)) (U:St) (H:Hp) (s:Shared) (a C:Addr) (d:Option Addr),Inv X pins U H s->Fly X pins H s.heap a C d->E (.ref C) d H->X.xe (.ref a) s
def CXe (P:Program) (w:World):CXT:=fun outer H s E e s'=>∃(a C T:Addr) (d:Option Addr) (H':Hp),e=.ref a/\s'.os=s.os/\AllBare s'.gens/\Un (frs outer) [] H H' s.heap s'.heap/\HOk P w H' s'.heap /\
 XO s'.heap a (.ref C) d (.ref T)/\T≠a/\TB s'.heap T .none/\(s.heap.objs.size<=a/\H' a=none)/\(s.heap.objs.size<=T/\H' T=none)/\E (.ref C) d H'
theorem zkt {X:Cx}{E:XK}(t:Throws X E):Passes (CXe X.prog X.w) X E:=by
 rintro pins U H s e s' I ⟨a,C,T,d,H',rfl,os,bare,un,hok,x,ne,tb,⟨a1,a2⟩,⟨t1,t2⟩,q⟩
 have I':Inv X pins U H' s':=I.call' (ch:=[]) os un hok bare fun b z=>absurd z (by simp)
 exact t pins U H' s' a C d I' ⟨_,x,OwnRec.new I a1 a2,.inr ⟨T,rfl,ne,tb,OwnRec.new I t1 t2⟩⟩ q
def chOf (a:Addr):Value->List Addr
 | .ref T0=>[a,T0]
 | _=>[a]
theorem ze7 (a:Addr) (v:Value):a∈chOf a v:=by cases v<;>simp [chOf]
theorem ze8 (a T0:Addr):T0∈chOf a (.ref T0):=by simp [chOf]
section
variable {X:Cx}{pins:List (Addr×Obj)}{U:St}{H:Hp}{s:Shared}{a C:Addr}{d:Option Addr}{A:Around}{E:Value->Shared->Prop}{Q:Unit->Shared->Prop}
theorem zku (I:Inv X pins U H s) (hfr:A.frames=some X.stack) (hst:X.stack=X.env::X.outer) (hf:X.env.frame=some X.env.locals) (F:Fly X pins H s.heap a C d)
  (h:∀s' T,Inv X pins U H s'->XO s'.heap a (.ref C) d (.ref T)->T≠a->TB s'.heap T (rawInt X.env.locals)->OwnRec X pins H a->OwnRec X pins H T->Q () s'):wpAny (model X.prog X.w) A (noteFrame (.ref a) X.env) Q E s:=by
 obtain ⟨head,x,oa,ht⟩:=F
 have hl:s.heap.FunFrames X.base (X.env::X.outer):=hst▸I.stack
 have hfr':A.frames=some (X.env::X.outer):=hfr.trans (congrArg some hst)
 have efr:frs (X.env::X.outer)=X.env.locals::X.fs:=by
  unfold frs
  rw [List.filterMap_cons,hf]
  rfl
 have hfree:∀b∈X.env.locals::X.fs,H b=none:=fun b hb=>I.stkFree b (by rw [hst,efr];exact hb)
 have headN:∀b u,H b=some u->Value.ref b≠head:=fun b u e z=>by
  rcases ht with rfl|⟨T0,rfl,_,_,r⟩
  ·cases z
  ·cases z
   rw [r.1] at e
   cases e
 refine zkr hfr' hl hf x (ht.imp id fun ⟨T0,e1,e2,e3,_⟩=>⟨T0,e1,e2,e3⟩) fun h' T k1 k2 k3 k4 k5=>?_
 rw [efr] at k4 k5
 have oT:OwnRec X pins H T:=OwnRec.new I k1 (I.hok.fresh k1)
 have neT:T≠a:=fun z=>by
  obtain ⟨_,_,e,_⟩:=x
  have:=Heap.lt_size e
  rw [<-z] at this
  exact Nat.lt_irrefl _ (Nat.lt_of_lt_of_le this k1)
 refine h { s with heap:=h' } T ?_ k2 neT k3 oa oT
 refine I.step (g':=s.gens) (t':=s.toks) (d':=s.drawn) (ch:=chOf a head) (fun b hb=>?_) (fun b o n1 n2 n3 e n=>k4 b o (fun z=>n3 ?_) (fun z=>n3 ?_) (fun z=>(List.mem_cons.mp z).elim n1 n2) e)
  (fun b o n1 n2 n3 e n=>k5 b o (List.mem_cons_of_mem _ n2) e) (fun _ _ _ _ n=>n) (fun b o n3 e=>?_) (fun _ _ e=>e) (fun _ _ _ e=>e) (fun b ps e=>⟨#[],by rw [e];simp⟩) (fun m hm=>?_) (fun b u e=>?_) I.bare
 ·have own:OwnRec X pins H b:=by
   rcases ht with rfl|⟨T0,rfl,_,_,r⟩
   ·have z:b=a:=by simpa [chOf] using hb
    rw [z];exact oa
   ·have z:b=a\/b=T0:=by simpa [chOf] using hb
    rcases z with z|z
    ·rw [z];exact oa
    ·rw [z];exact r
  exact ⟨.inr own.2.1,own.2.2.1,own.2.2.2.1,own.2.2.2.2⟩
 ·rw [z]
  exact ze7 a head
 ·rw [<-z]
  exact ze8 a b
 ·by_cases hb:b∈X.env.locals::X.fs
  ·obtain ⟨sl,z⟩:=k5 b o hb e
   exact ⟨_,z⟩
  ·exact ⟨o,k4 b o (fun z=>n3 (by rw [z];exact ze7 a head)) (fun z=>n3 (by rw [<-z];exact ze8 a b)) hb e⟩
 ·obtain ⟨o,es,ep,ho,r⟩:=hm
  obtain ⟨sl,z⟩:=k5 _ o List.mem_cons_self ho
  exact ⟨_,es,ep,z,r⟩
 ·refine (I.hok b u e).stay (fun c v hc q=>?_) (fun _ q=>q) fun _ _ q=>q
  have tr:∃u',H c=some u':=by
   rcases hc with z|z
   ·exact ⟨u,by rw [z];exact e⟩
   ·exact ⟨_,z⟩
  obtain ⟨u',eu⟩:=tr
  exact k4 c v (fun z=>by rw [z,oa.1] at eu;cases eu) (headN c u' eu) (fun z=>by rw [hfree c z] at eu;cases eu) q
theorem zkv {T:Addr}{fl:Value}(I:Inv X pins U H s) (x:XO s.heap a (.ref C) d (.ref T)) (ne:T≠a) (tb:TB s.heap T fl) (oa:OwnRec X pins H a) (oT:OwnRec X pins H T)
  (h:∀s',Inv X pins U H s'->XO s'.heap a (.ref C) d (.ref T)->TB s'.heap T .none->Q () s'):wpAny (model X.prog X.w) A (setFlight (.ref a) none) Q E s:=by
 refine zks x tb ne fun h' k1 k2 k3 _=>h { s with heap:=h' } ?_ k1 k2
 exact I.turned (t':=s.toks) (it:=T) (fun b o nb e=>k3 b o nb e) oT.1 oT.2.2.1 (.inr oT.2.1) oT.2.2.2.1 oT.2.2.2.2
end
section
variable {P:Program}{w:World}{K:PySem.W.Frag}{mg:Str->Option Value}{base:Heap}
theorem Fun.okX {x qual:Str}{st:Stmt}{f:Addr}{fd:FuncData}{N ps:List Str}{k:Nat}{sp:Sp}(F:Fun K x qual st f fd) (S:FnScope N ps (zB st)) (len:∀vs H Q E,sp vs H Q E->vs.length=ps.length)
  (hbody:∀(cdv:Value) (A:Around) (outer:List Env) (s:Shared) (H:Hp) (vs:List V) (Q:VK) (E:XK),Room k (A.deeper (envOfC qual (zB st) s.heap.objs.size f cdv))->sp vs H Q E ->
   ∃t,PSs (cxOf (CXe P w) P w K mg base N qual (zB st) f cdv A outer s H E) (yI st) t/\t { nx:=fun _ H'=>Q .non H',rt:=Q } (start N vs) H):FnOk P w K mg base (CXe P w) (k+1) f fd ps sp:=by
 obtain ⟨oc,od,kV,doc,pm,an,cdv,ct,osl,rfl,lk,hcd⟩:=F.ex
 exact zjo lk hcd S len fun A outer s H vs Q E hr hsp=>hbody cdv A outer s H vs Q E hr hsp
end
end L2
namespace L2
open PySem PySem.Spec PyProof.Rows PySem.W PySem.Builtin PySem.Builtin.ObjectAttr
def valLine:List Value->Bool
 | [.type a,.type b,.type c,.type d]=>a == "ValueError" && b == "Exception" && c == "BaseException" && d == "object"
 | .ref _::r=>valLine r
 | _=>false
def lineIn (K:Frag) (C:Addr):Bool:=(clsIn K C).any fun cd=>valLine cd.mro
section
variable {prog:Program}{w:World}{A:Around}{E:Value->Shared->Prop}{K:Frag}{x C:Addr}{s:Shared}{R:Result->Shared->Prop}
end
section
variable {prog:Program}{w:World}{A:Around}{h:Heap}{g:Array GenState}{d:Drawn}{t:Nat}{os:OsState}{R:Result->Shared->Prop}
variable {nm q:Str}{C N f:Addr}{bs bm bmB:List Value}{hdct:Bool}{sn:List Str}{sub:List Value}{ab:Bool}{col:Option Bool}{dd:Option Addr}{k0 k1 k2 k3 k5:Option Value}{B newId initId:String}
end
structure ExCls (K:PySem.W.Frag) (C:Addr) (f:Str):Prop where
 sa:PySem.W.findIn K (.ref C) "__setattr__" = some (some (.builtin "object.__setattr__"))
 line:lineIn K C=true
 no:PySem.W.takerIn K C f=some none
 hd:PySem.W.hasDictIn K C=true
abbrev veLine:List Value:=[.type "ValueError", .type "Exception", .type "BaseException", .type "object"]
structure ExOf (K:Frag) (C:Addr):Prop where
 ob:∃nm q N bs bm hdct sn sub ab col dd k0 k1 k2 k3 k5,K.lookup C=some (excClassObj nm q C N bs bm hdct sn sub ab col dd k0 k1 k2 k3 k5 "ValueError.__new__")/\tailIn K veLine bm=true/\nsOkIn K N=true
 kp:keepIn K (.ref C)=true
structure ExMk (K:Frag) (C f:Addr):Prop where
 ob:∃nm q N bs bm hdct sn sub ab col dd k0 k1 k2 k3 k5,K.lookup C=some (excClassObj nm q C N bs bm hdct sn sub ab col dd k0 k1 k2 k3 k5 "ValueError.__new__")/\tailIn K veLine bm=true/\nsOkIn K N=true/\nsIn K N "__init__" = some (some (.ref f))
 fn:isFn K (.ref f)=true
 kp:keepIn K (.ref C)=true
section
variable {M:Model}{A:Around}{E:Value->Shared->Prop}{env:Env}{s:Shared}
end
section
variable {X:Cx}{CX:CXT}{k:Nat}{f C:Addr}{fd:FuncData}{ps:List Str}{sp:Sp}{E:XK}
end
def XP (X:Cx) (pins:List (Addr×Obj)) (U:St) (E:XK) (u:Value) (s':Shared):Prop:=∃(a C:Addr) (d:Option Addr) (H':Hp),u=.ref a/\Inv X pins U H' s'/\Fly X pins H' s'.heap a C d/\E (.ref C) d H'
section
variable {X:Cx}{k:Nat}{f C:Addr}{fd:FuncData}{ps:List Str}{sp:Sp}{dvs:List V}{ds:List Value}{E:XK}{x m:Str}{p pos apos:Pos}{e o:Expr}{es:List Expr}{ta:TE}{t:TA}
end
def exC (C:Addr) (d:Option Addr) (a:Addr):HO:=.ext fun h=>∃T:Addr,XO h a (.ref C) d (.ref T)
section
variable {X:Cx}{pins:List (Addr×Obj)}{U:St}{H:Hp}{s:Shared}{a C:Addr}{d:Option Addr}
end
section
variable {X:Cx}{pins:List (Addr×Obj)}{U:St}{H:Hp}{s:Shared}{a C d:Addr}{fs:List (Str×V)}{A:Around}{E:Value->Shared->Prop}
theorem ze9 (I:Inv X pins U H s) (ha:H a=some (exC C (some d) a)) (hd:H d=some (.xd fs)):∃ox od,InstAt s.heap a ox C (some od)/\∀n,∃o,lookIn n od=some o/\RelO (fs.lookup n) o:=by
 obtain ⟨T,oe,vs,e,hc,hdi,hdt,_⟩:=(show ObjOk X.prog X.w H s.heap a (exC C (some d) a) from I.hok a _ ha).1
 obtain ⟨mA,hn,r⟩:=(show ObjOk X.prog X.w H s.heap d (.xd fs) from I.hok d _ hd)
 obtain ⟨od,ho,hl⟩:=zeo hn
 refine ⟨oe,od,⟨e,hc,by unfold notCls;rw [hdt],by rw [hdi];exact ho⟩,fun n=>⟨mA n,hl n,r n⟩⟩
end
section
variable {prog:Program}{w:World}{A:Around}{E:Value->Shared->Prop}{h:Heap}{g:Array GenState}{d:Drawn}{t:Nat}{os:OsState}
variable {nm q:Str}{C N:Addr}{bs bm bmB:List Value}{hdct:Bool}{sn:List Str}{sub:List Value}{ab:Bool}{col:Option Bool}{dd:Option Addr}{k0 k1 k2 k3 k5:Option Value}{B newId initId:String}
end
def sRaise0 (C:Addr) (Er:XK):TS:=fun _ _ H=>Er (.ref C) none H
end L2
namespace L2
open PySem PySem.Spec PyProof.Rows PySem.W
def Noted (X:Cx) (pins:List (Addr×Obj)) (H:Hp) (h:Heap) (a C:Addr) (d:Option Addr):Prop :=
 ∃T,XO h a (.ref C) d (.ref T)/\T≠a/\TB h T (rawInt X.env.locals)/\OwnRec X pins H a/\OwnRec X pins H T
def zcF (X:Cx) (pins:List (Addr×Obj)) (H:Hp) (h:Heap) (a C:Addr) (d:Option Addr):Prop:=Fly X pins H h a C d\/Noted X pins H h a C d
def jq (X:Cx) (E:XK):Prop:=∀(pins:List (Addr×Obj)) (U:St) (H:Hp) (s:Shared) (a C:Addr) (d:Option Addr),Inv X pins U H s->zcF X pins H s.heap a C d->E (.ref C) d H->X.xe (.ref a) s
theorem jq.one {X:Cx}{E:XK}(t:jq X E):Throws X E:=fun pins U H s a C d I F q=>t pins U H s a C d I (.inl F) q
def XA (X:Cx) (Er:XK) (e:Value) (s:Shared):Prop:=∃(pins:List (Addr×Obj)) (U:St) (H:Hp) (a C:Addr) (d:Option Addr),e=.ref a/\Inv X pins U H s/\zcF X pins H s.heap a C d/\Er (.ref C) d H
section
variable {X:Cx}{pins:List (Addr×Obj)}{U:St}{H:Hp}{s:Shared}{a C:Addr}{d:Option Addr}{A:Around}{E:Value->Shared->Prop}{Q:Unit->Shared->Prop}{Er:XK}
theorem zA:jq (X.wish (XA X Er)) Er:=fun pins U H s a C d I F q=>⟨pins,U,H,a,C,d,rfl,I.unwish,F,q⟩
theorem zfa (I:Inv X pins U H s) (hfr:A.frames=some X.stack) (hst:X.stack=X.env::X.outer) (hf:X.env.frame=some X.env.locals) (F:zcF X pins H s.heap a C d)
  (h:∀s' T,Inv X pins U H s'->XO s'.heap a (.ref C) d (.ref T)->T≠a->TB s'.heap T (rawInt X.env.locals)->OwnRec X pins H a->OwnRec X pins H T->Q () s'):wpAny (model X.prog X.w) A (noteFrame (.ref a) X.env) Q E s:=by
 rcases F with F|⟨T,x,ne,tb,oa,oT⟩
 ·exact zku I hfr hst hf F h
 ·obtain ⟨oe,vs,e,_,_,hd,_,h1⟩:=id x
  obtain ⟨ot,ts,et,hdt,h3⟩:=id tb
  unfold noteFrame
  simp only [hf]
  refine wpAny_bind (wpAny_field e hd h1 ?_)
  rw [if_pos (show (Value.ref T != Value.none)=true by simp)]
  refine wpAny_bind (wpAny_field et hdt h3 ?_)
  rw [if_pos (by simp)]
  exact wpAny_pure (h s T I x ne tb oa oT)
theorem zkw {T f:Addr}{fl:Value}(x:XO s.heap a (.ref C) d (.ref T)) (t:TB s.heap T fl) (ne:T≠a)
  (h:∀h',XO h' a (.ref C) d (.ref T)->TB h' T (rawInt f)->(∀b o,b≠T->s.heap.get? b=some o->h'.get? b=some o)->Q () { s with heap:=h' }) {M:Model}:wpAny M A (setFlight (.ref a) (some f)) Q E s:=by
 obtain ⟨oe,vs,e,_,_,hd,_,h1⟩:=id x
 obtain ⟨oT,ts,eT,hdT,h3⟩:=id t
 unfold setFlight
 refine wpAny_bind (wpAny_field e hd h1 ?_)
 rw [if_pos (show (Value.ref T != Value.none)=true by simp)]
 refine wpAny_setField eT hdT (Array.getElem?_eq_some_iff.mp h3).1 ?_
 exact h _ (x.keeps fun o q=>(Heap.get?_update_other _ _ ne).trans q) (t.set3 _) fun b o nb q=>(Heap.get?_update_other _ _ (Ne.symm nb)).trans q
theorem jF (hst:X.stack=X.env::X.outer) (hf:X.env.frame=some X.env.locals):PassesOwn (model X.prog X.w) X.A X.env (XA X Er):=by
 rintro e s ⟨pins,U,H,a,C,d,rfl,I,F,q⟩
 unfold notedBy
 refine zfa I I.ok.frames hst hf F fun s2 T I2 x2 ne tb2 oa oT=>?_
 unfold cameBackBy
 obtain ⟨oe,vs,e2,_,_,hd,_,h1⟩:=id x2
 refine wpAny_bind (wpAny_field e2 hd h1 ?_)
 rw [if_neg (show ¬((Value.ref T==Value.none)=true) by simp),hf]
 refine zkw x2 tb2 ne fun h' x3 tb3 k3=>⟨pins,U,H,a,C,d,rfl,?_,.inr ⟨T,x3,ne,tb3,oa,oT⟩,q⟩
 exact I2.turned (t':=s2.toks) (it:=T) (fun b o nb e=>k3 b o nb e) oT.1 oT.2.2.1 (.inr oT.2.1) oT.2.2.2.1 oT.2.2.2.2
theorem PSs.throwing {st:List Stmt}{t:TS}(h:PSs (X.wish (XA X Er)) st t) (ht:jq X Er):PSs X st t:=fun pins s U H D I hw =>
 wpAny_mono (h pins s U H D (I.wish _) hw) (fun _ _ q=>q.unwish) fun e s' ⟨pins,U,H,a,C,d,ee,I1,F,q⟩=>ee▸ht pins U H s' a C d I1 F q
theorem zbn (t:jq X Er):Passes (CXe X.prog X.w) X Er:=zkt t.one
end
theorem zkx {P:Program}{w:World}{K:PySem.W.Frag}{mg:Str->Option Value}{base:Heap}{N:List Str}{qual:Str}{scope:Scope}{f:Addr}{cd:Value}{A:Around}{outer:List Env}{s:Shared}{H:Hp}{E:XK} :
  jq (cxOf (CXe P w) P w K mg base N qual scope f cd A outer s H E) E:=by
 intro pins U H1 s1 a C d I F q
 show wpAny (model P w) (A.deeper (envOfC qual scope s.heap.objs.size f cd)) (leaving (envOfC qual scope s.heap.objs.size f cd) (.ref a)) _ _ s1
 unfold leaving
 refine wpAny_bind (zfa I I.ok.frames rfl rfl F fun s2 T I2 x ne tb oa oT=>zkv I2 x ne tb oa oT fun s3 I3 x3 tb3=>?_)
 exact ⟨a,C,T,d,H1,rfl,I3.os,I3.bare,I3.base,I3.hok,x3,ne,tb3,⟨oa.2.1,oa.1⟩,⟨oT.2.1,oT.1⟩,q⟩
section
variable {P:Program}{w:World}{K:PySem.W.Frag}{mg:Str->Option Value}{base:Heap}
theorem Fun.okT {x qual:Str}{st:Stmt}{f:Addr}{fd:FuncData}{N ps:List Str}{k:Nat}{sp:Sp}(F:Fun K x qual st f fd) (S:FnScope N ps (zB st)) (len:∀vs H Q E,sp vs H Q E->vs.length=ps.length)
  (hbody:∀(cdv:Value) (A:Around) (outer:List Env) (s:Shared) (H:Hp) (vs:List V) (Q:VK) (E:XK),Room k (A.deeper (envOfC qual (zB st) s.heap.objs.size f cdv))->sp vs H Q E ->
   ∃t,PSs ((cxOf (CXe P w) P w K mg base N qual (zB st) f cdv A outer s H E).wish (XA (cxOf (CXe P w) P w K mg base N qual (zB st) f cdv A outer s H E) E)) (yI st) t/\t { nx:=fun _ H'=>Q .non H',rt:=Q } (start N vs) H):FnOk P w K mg base (CXe P w) (k+1) f fd ps sp :=
 Fun.okX F S len fun cdv A outer s H vs Q E hr hs=>let ⟨t,h1,h2⟩:=hbody cdv A outer s H vs Q E hr hs;⟨t,PSs.throwing h1 zkx,h2⟩
end
end L2
namespace L2
open PySem PySem.Spec PyProof.Rows PySem.W PySem.Builtin PySem.Builtin.ObjectAttr
section
variable {prog:Program}{w:World}{A:Around}{E:Value->Shared->Prop}{K:Frag}{x C:Addr}{s:Shared}{ox:Obj}{od:Option Obj}{name:Str}{tk:Tok}
structure ExGa (K:Frag) (C:Addr):Prop where
 ga:findIn K (.ref C) "__getattribute__" = some (some (.builtin "BaseException.__getattribute__"))
 hk:findIn K (.ref C) "__getattr__" = some none
 hB:mroIn K C (.type "BaseException")=some true
theorem zfb {fill expr:Bool}{Q:Value->Shared->Prop}(X:K.In s.heap) (I:InstAt s.heap x ox C od) (G:ExGa K C)
  (h:wpAny (model prog w) A.in1 (Builtin.«object.__getattribute__» ⟨[.ref x,.str name tk],[]⟩) (fun fin s'=>∃v,fin=.done (.ret v)/\handedIn v=true/\Q v s') (fun _ _=>False) s) :
  wpAny (model prog w) A (getAttrBy (.ref x) (.str name tk) fill expr) Q E s:=by
 have L0:=I.type (M:=model prog w)
 have L1:=looks_findIn (M:=model prog w) X G.ga
 have L2:=looks_findIn (M:=model prog w) X G.hk
 have isB:Looks (model prog w) s.heap (isInstance (.ref x) (.type "BaseException")) true:=I.type.andThen (looks_mroIn X G.hB)
 unfold getAttrBy
 refine wpAny_holding (wpAny_bind (L0.here (wpAny_bind (L1.here ?_))))
 dsimp only
 rw [if_neg (show ¬((onTheHeap (Value.ref C)&&Value.builtin "BaseException.__getattribute__" == Value.builtin "object.__getattribute__")=true) by
  rw [show (Value.builtin "BaseException.__getattribute__" == Value.builtin "object.__getattribute__")=false by decide +kernel,Bool.and_false];exact Bool.false_ne_true)]
 unfold getAttrByItsOwn hookBefore
 rw [if_pos (show onTheHeap (Value.ref C)=true from rfl)]
 refine wpAny_bind (L2.here (wpAny_bind (wpAny_attempt (wpAny_holding ?_))))
 unfold callGetattribute
 rw [if_neg (show ¬((expr&&onTheHeap (Value.builtin "BaseException.__getattribute__"))=true) by cases expr<;>exact Bool.false_ne_true)]
 unfold boundAndCalled
 refine wpAny_bind (wpAny_of_eq (PySem.F.excAttr_ValueError.ga.bind (.ref x)) ?_)
 refine wpAny_call (codeAny_call_builtin PySem.F.excAttr_ValueError.ga.plain PySem.F.entry_bexc_ga (@check_slot (model prog w) _ _ s "BaseException.__getattribute__" "BaseException" "__getattribute__" (.ref x) [.str name tk] [] _ (by decide +kernel) (by decide +kernel) isB (PySem.F.args_bexc_ga (.ref x) (.str name tk)) ?_))
 refine wpAny_mono h (fun fin s' ⟨v,ef,hv,q⟩=>?_) fun _ _ z=>z.elim
 subst ef
 show wpAny _ _ (handedOut v) _ _ _
 rw [handedOut_of hv]
 exact wpAny_pure q
theorem zky {v:Value}{Q:Fin->Shared->Prop}(X:K.In s.heap) (I:InstAt s.heap x ox C od) (hf:findObj K C od name=some (.value v)) (h:Q (.done (.ret v)) s) :
  wpAny (model prog w) A (Builtin.«object.__getattribute__» ⟨[.ref x,.str name tk],[]⟩) Q E s:=by
 have L0:=I.type (M:=model prog w)
 have L1:=looks_find (M:=model prog w) X I hf
 exact wpAny_bind (wpAny_pure (wpAny_bind (wpAny_pure (wpAny_bind (L0.here (wpAny_bind (L1.here (wpAny_pure h))))))))
theorem zkz {Q:Fin->Shared->Prop} (X:K.In s.heap) (I:InstAt s.heap x ox C od) (hf:findObj K C od "__class__" = some (.bind (.builtin "getset_descriptor.__get__") (.builtin "object.__class__"))) (hm:mroIn K C (.type "object")=some true)
  (h:Q (.done (.ret (.ref C))) s):wpAny (model prog w) A (Builtin.«object.__getattribute__» ⟨[.ref x,.str "__class__" tk],[]⟩) Q E s:=by
 have L0:=I.type (M:=model prog w)
 have L1:=looks_find (M:=model prog w) X I hf
 refine wpAny_bind (wpAny_pure (wpAny_bind (wpAny_pure (wpAny_bind (L0.here (wpAny_bind (L1.here ?_)))))))
 show wpAny _ _ (holding [.builtin "object.__class__"] (call (.builtin "getset_descriptor.__get__") [.builtin "object.__class__", .ref x,.ref C]) >>= ret) _ _ _
 exact wpAny_bind (wpAny_holding (wpAny_call (class_get (ox:=ox) (od:=od) X I hm (wpAny_pure h))))
end
theorem zkA {K:Frag} {x D:Addr} {ox:Obj} {od:Option Obj} (G:ExGa K D) (hcl:(clsIn K D).isSome=true) (hf:findObj K D od "__class__" = some (.bind (.builtin "getset_descriptor.__get__") (.builtin "object.__class__"))) (hm:mroIn K D (.type "object")=some true) :
  KitX K (.ref x) (.ref D) (fun h=>InstAt h x ox D od):=by
 obtain ⟨cd,hc⟩:=Option.isSome_iff_exists.mp hcl
 unfold clsIn at hc
 split at hc
 ·rename_i c' d' cd' sl' ho
  refine ⟨fun _ _ _ I=>I.type,fun M h X _=>?_,fun h tp dd its n sl X htp=>?_,fun {prog w A E Q s} X I k=>?_⟩
  ·intro A' Q' E' s' k q
   unfold isType loadHead
   exact wpAny_bind (wpAny_loadPart (k _ _ (X _ _ ho)) (wpAny_pure q))
  ·refine Bool.eq_false_iff.mpr fun q=>?_
   obtain rfl:D=tp:=Value.ref.inj (beq_iff_eq.mp q)
   have z:=(X _ _ ho).symm.trans htp
   cases z
  ·unfold getAttr? getAttrBy?
   refine wpAny_bind (wpAny_mkText (wpAny_bind (wpAny_attempt ?_)))
   exact zfb (s:={ s with toks:=s.toks+1 }) X I G (zkz (s:={ s with toks:=s.toks+1 }) X I hf hm ⟨_,rfl,rfl,wpAny_pure k⟩)
 ·cases hc
structure ExIs (K:Frag) (C:Addr):Prop where
 g:ExGa K C
 hd:hasDictIn K C=true
 ha:findIn K (.ref C) "__class__" = some (some (.builtin "object.__class__"))
 hn:specialIn K (.builtin "object.__class__") "__get__" = some (some (.builtin "getset_descriptor.__get__"))
 tk:takesIn K (.builtin "object.__class__")=some true
 hm:mroIn K C (.type "object")=some true
section
variable {X:Cx}{pins:List (Addr×Obj)}{U:St}{H:Hp}{s:Shared}{a C d:Addr}{fs:List (Str×V)}{A:Around}{E:Value->Shared->Prop}
theorem zkB {b:Bool}{f:Str}{v:V}{Q:Value->Shared->Prop}(I:Inv X pins U H s) (ha:H a=some (exC C (some d) a)) (hd:H d=some (.xd fs)) (g:ExGa X.K C) (hh:hasDictIn X.K C=true) (no:findIn X.K (.ref C) f=some none) (l:fs.lookup f=some v)
  (h:∀u s',Inv X pins U H s'->RelV v u->Q u s'):wpAny (model X.prog X.w) A (getAttr (.ref a) f b) Q E s:=by
 obtain ⟨ox,od,J,hl⟩:=ze9 I ha hd
 obtain ⟨o,ho,r⟩:=hl f
 rw [l] at r
 obtain ⟨u,rfl,ru⟩:=RelO.some_of (v:=v) (o:=o) r
 unfold getAttr
 refine wpAny_bind (wpAny_mkText ?_)
 exact zfb (s:={ s with toks:=s.toks+1 }) I.kIn J g (zky (s:={ s with toks:=s.toks+1 }) I.kIn J (findObj_own hh no rfl ho) ⟨u,rfl,zer ru,h u _ (I.tok _) ru⟩)
theorem zkC {c:Value}{b:Bool}{Q:Value->Shared->Prop}(I:Inv X pins U H s) (ha:H a=some (exC C (some d) a)) (hd:H d=some (.xd fs)) (k:ExIs X.K C) (e:kitOne X.K (.ref C) c=some b) (h:∀tk,Q (.bool b) { s with toks:=tk }) :
  wpAny (model X.prog X.w) A (call (.builtin "isinstance") [.ref a,c]) Q E s:=by
 obtain ⟨ox,od,J,_⟩:=ze9 I ha hd
 have cl:(clsIn X.K C).isSome=true:=by obtain ⟨cd,hc,_⟩:=any_some k.hd;rw [hc];rfl
 exact kia_one (zkA k.g cl (findObj_data cl k.ha k.hn k.tk) k.hm) I.kIn J e (fun z=>nomatch z) h
end
end L2
namespace L2
open PySem PySem.Spec PyProof.Rows PySem.W
structure Ste (prog:Program) (w:World) (it src:Addr) (xs:Array Value) (St:Nat->Heap->Prop):Prop where
 at_:∀{k h h'},St k h->(∀o,h.get? it=some o->h'.get? it=some o)->(∀o,h.get? src=some o->h'.get? src=some o)->St k h'
 lt:∀{k h},St k h->it<h.objs.size
 item:∀{A:Around} {E:Value->Shared->Prop} {s:Shared} {k:Nat} {x:Value} {Q:Value->Shared->Prop},St k s.heap->xs[k]?=some x->(∀h',St (k+1) h'->Heap.SameBut it s.heap h'->Q x { s with heap:=h' }) ->
  wpAny (model prog w) A (Builtin.SmallTypes.nextOf (.ref it)) Q E s
 stop:∀{A:Around} {E:Value->Shared->Prop} {s:Shared} {k:Nat} {Q:Value->Shared->Prop},A.handled=none->St k s.heap->xs[k]?=none ->
  (∀h' e,Heap.ExtBut it s.heap h'->(∃o,h'.get? e=some o/\o.cls=.type "StopIteration")->E (.ref e) { s with heap:=h' })->wpAny (model prog w) A (Builtin.SmallTypes.nextOf (.ref it)) Q E s
def StT (it t:Addr) (xs:Array Value) (k:Nat) (h:Heap):Prop:=IsTupIter h it t k/\IsTup h t xs
theorem zbo {prog:Program}{w:World}{it t:Addr}{xs:Array Value}(ne:t≠it):Ste prog w it t xs (StT it t xs) where
 at_:=fun {k h h'} q k1 k2=>by
  obtain ⟨⟨o,ho,r⟩,⟨o',ho',r'⟩⟩:=q
  exact ⟨⟨o,k1 o ho,r⟩,⟨o',k2 o' ho',r'⟩⟩
 lt:=fun q=>let ⟨⟨_,ho,_⟩,_⟩:=q;Heap.lt_size ho
 item:=fun {A E s k x Q} q hx hQ=>by
  obtain ⟨hit,ht⟩:=q
  obtain ⟨o,ho,hc,hd⟩:=id hit
  obtain ⟨ol,hol,_,nl,hdl⟩:=id ht
  unfold Builtin.SmallTypes.nextOf
  refine wpAny_bind (wpAny_callSpecial?_slot (name:=Str.ofString "__next__") hit.typeIs slot_tupleiter_next (wpAny_call_entry slot_tupleiter_next hit.typeIs entry_tupleiter_next ?_ (args_tupleiter_next _)))
  change wpAny _ _ (field (.ref it) 0 >>= _) _ _ s
  refine wpAny_bind (wpAny_field ho hd (x:=.ref t) rfl ?_)
  rw [if_neg (by simp)]
  change wpAny _ _ (field (.ref it) 1 >>= _) _ _ s
  refine wpAny_bind (wpAny_field ho hd (x:=.int k 0) rfl ?_)
  change wpAny _ _ (seqItems? (.ref t) >>= _) _ _ s
  refine wpAny_bind (wpAny_seqItems hol hdl ?_)
  simp only [hx,Int.toNat_natCast]
  have fl:=Obj.data_mapFields hd (·.setIfInBounds 1 (rawInt (k+1)))
  refine wpAny_bind (wpAny_setField ho hd (by simp) (wpAny_pure ⟨x,rfl,wpAny_pure (hQ _ ⟨⟨_,Heap.get?_update_self _ ho (Obj.isFreed_of_fields fl),(Obj.cls_mapFields ..).trans hc,?_⟩,?_⟩ (Heap.SameBut.update ..))⟩))
  ·rw [fl];simp [rawInt]
  ·exact ht.extBut (Heap.SameBut.update ..).extBut ne
 stop:=fun {A E s k Q} hh q hx hE=>by
  obtain ⟨hit,ht⟩:=q
  obtain ⟨o,ho,hc,hd⟩:=id hit
  obtain ⟨ol,hol,_,nl,hdl⟩:=id ht
  unfold Builtin.SmallTypes.nextOf
  refine wpAny_bind (wpAny_callSpecial?_slot (name:=Str.ofString "__next__") hit.typeIs slot_tupleiter_next (wpAny_call_entry slot_tupleiter_next hit.typeIs entry_tupleiter_next ?_ (args_tupleiter_next _)))
  change wpAny _ _ (field (.ref it) 0 >>= _) _ _ s
  refine wpAny_bind (wpAny_field ho hd (x:=.ref t) rfl ?_)
  rw [if_neg (by simp)]
  change wpAny _ _ (field (.ref it) 1 >>= _) _ _ s
  refine wpAny_bind (wpAny_field ho hd (x:=.int k 0) rfl ?_)
  change wpAny _ _ (seqItems? (.ref t) >>= _) _ _ s
  refine wpAny_bind (wpAny_seqItems hol hdl ?_)
  simp only [hx,Int.toNat_natCast]
  refine wpAny_bind (wpAny_rule (wpAny_bind (wpAny_setField ho hd (by simp) ?_)))
  change wpAny _ _ (newExc (.type "StopIteration") [] >>= _) _ _ _
  refine wpAny_bind ?_
  simp only [newExc,newTuple]
  refine wpAny_bind (wpAny_newObj_type (wpAny_bind (m:=firstArgMember _ _) (wpAny_of_eq (a:=Value.none) (by first|rfl|(simp only [firstArgMember];rfl)) (wpAny_newObj_type ?_ (by size_fits)))) (by size_fits))
  simp only [raiseNew]
  refine wpAny_bind (wpAny_handled ?_)
  first|rw [show A.in1.handled=none from hh]|rw [hh]
  exact wpAny_bind (wpAny_pure (wpAny_throw (hE _ _ (((Heap.SameBut.update ..).extBut.push _).push _) ⟨_,Heap.get?_push_size _ rfl,rfl⟩)))
section
variable {prog:Program}{w:World}{A:Around}{E:Value->Shared->Prop}{s:Shared}{z TI TO i1 i2 t1 t2:Addr}{k:Nat}{xs ys:Array Value}{x y a b:Value}{S1 S2:Nat->Heap->Prop}
theorem Ste.by_same (S:Ste prog w i1 t1 xs S1) {h h':Heap}{c:Addr}(q:S1 k h) (hs:Heap.SameBut c h h') (n1:i1≠c) (n2:t1≠c):S1 k h' :=
 S.at_ q (fun o e=>hs.extBut _ _ n1 e) fun o e=>hs.extBut _ _ n2 e
theorem zkD {Q:Value->Shared->Prop}(D:ZipApart z TI TO i1 i2 t1 t2) (U1:Ste prog w i1 t1 xs S1) (U2:Ste prog w i2 t2 ys S2) (hz:IsZip s.heap z TI TO .none) (hTI:IsPair s.heap TI (.ref i1) (.ref i2)) (hTO:IsPair s.heap TO a b)
  (q1:S1 k s.heap) (q2:S2 k s.heap) (hx:xs[k]?=some x) (hy:ys[k]?=some y)
  (hQ:∀h',IsZip h' z TI TO (rawInt s.heap.objs.size)->IsPair h' TO x y->S1 (k+1) h'->S2 (k+1) h'->IsPair h' s.heap.objs.size x y ->
   (∀c o,c≠z->c≠TO->c≠i1->c≠i2->s.heap.get? c=some o->h'.get? c=some o)->Q (.ref s.heap.objs.size) { s with heap:=h' }) :
  wpAny (model prog w) A (Builtin.«zip.__next__» ⟨[.ref z],[]⟩) (fun fin s'=>∃v,fin=.done (.ret v)/\Q v s') E s:=by
 change wpAny _ _ (field (.ref z) 2 >>= _) _ _ _
 refine wpAny_bind (wpAny_field hz rfl (x:=.bool false) rfl ?_)
 change wpAny _ _ (field (.ref z) 3 >>= _) _ _ _
 refine wpAny_bind (wpAny_field hz rfl (x:=.ref TI) rfl (wpAny_bind (wpAny_seqItems hTI rfl ?_)))
 change wpAny _ _ (Builtin.SmallTypes.ownedTupleIsFree (.ref z) >>= _) _ _ _
 refine wpAny_bind ?_
 unfold Builtin.SmallTypes.ownedTupleIsFree
 refine wpAny_bind (wpAny_field hz rfl (x:=.none) rfl (wpAny_pure ?_))
 rw [if_pos rfl]
 refine wpAny_bind (wpAny_rule (wpAny_bind (wpAny_field hz rfl (x:=.ref TO) rfl (wpAny_bind (wpAny_setField_rec hz (by simp) fun h1 z1 e1=>?_)))))
 replace z1:IsZip h1 z TI TO .ellipsis:=z1
 refine wpAny_bind ?_
 simp only [List.zipIdx_cons,List.zipIdx_nil,List.forIn_cons,List.forIn_nil]
 refine wpAny_bind (wpAny_bind (wpAny_onRaise ?_))
 change wpAny _ _ (Builtin.SmallTypes.nextOf (.ref i1) >>= _) _ _ _
 refine wpAny_bind (U1.item (U1.by_same q1 e1 D.i1z D.l1z) hx fun h2 p2 e2=>wpAny_pure ?_)
 have o2:IsPair h2 TO a b:=e2.extBut _ _ D.TOi1 (e1.extBut _ _ D.TOz hTO)
 refine wpAny_bind (wpAny_seqItems o2 rfl (wpAny_bind (wpAny_updateSeq_pair o2 fun h3 o3 e3=>?_)))
 replace o3:IsPair h3 TO x b:=o3
 refine wpAny_bind (wpAny_letGo (wpAny_pure (wpAny_bind (wpAny_bind (wpAny_onRaise ?_)))))
 change wpAny _ _ (Builtin.SmallTypes.nextOf (.ref i2) >>= _) _ _ _
 have r3:S2 k h3:=U2.by_same (U2.by_same (U2.by_same q2 e1 D.i2z D.l2z) e2 D.i12.symm D.l2i1) e3 D.TOi2.symm D.l2TO
 refine wpAny_bind (U2.item r3 hy fun h4 p4 e4=>wpAny_pure ?_)
 have o4:IsPair h4 TO x b:=e4.extBut _ _ D.TOi2 o3
 refine wpAny_bind (wpAny_seqItems o4 rfl (wpAny_bind (wpAny_updateSeq_pair o4 fun h5 o5 e5=>?_)))
 replace o5:IsPair h5 TO x y:=o5
 refine wpAny_bind (wpAny_letGo (wpAny_pure (wpAny_pure (wpAny_bind (wpAny_seqItems o5 rfl (wpAny_bind (wpAny_newTuple ?_)))))))
 have sz:h5.objs.size=s.heap.objs.size:=by rw [e5.1,e4.1,e3.1,e2.1,e1.1]
 have z5:IsZip h5 z TI TO .ellipsis:=e5.extBut _ _ D.TOz.symm (e4.extBut _ _ D.i2z.symm (e3.extBut _ _ D.TOz.symm (e2.extBut _ _ D.i1z.symm z1)))
 have k5:∀c o,c≠z->c≠TO->c≠i1->c≠i2->s.heap.get? c=some o->h5.get? c=some o:=fun c o c1 c2 c3 c4 e=>e5.extBut _ _ c2 (e4.extBut _ _ c4 (e3.extBut _ _ c2 (e2.extBut _ _ c3 (e1.extBut _ _ c1 e))))
 have f1:S1 (k+1) h5:=U1.by_same (U1.by_same (U1.by_same p2 e3 D.TOi1.symm D.l1TO) e4 D.i12 D.l1i2) e5 D.TOi1.symm D.l1TO
 have f2:S2 (k+1) h5:=U2.by_same p4 e5 D.TOi2.symm D.l2TO
 change wpAny _ _ (Builtin.SmallTypes.ownedTupleHandOut (.ref z) (.ref h5.objs.size) >>= _) _ _ _
 refine wpAny_bind ?_
 unfold Builtin.SmallTypes.ownedTupleHandOut
 have z6:IsZip (h5.push { cls:=.type "tuple", data:=.seq #[x,y] }) z TI TO .ellipsis:=Heap.get?_push_of_some _ z5
 refine wpAny_bind (wpAny_setField_rec z6 (by simp) fun h7 z7 e7=>?_)
 replace z7:IsZip h7 z TI TO (rawInt h5.objs.size):=z7
 refine wpAny_setField_rec z7 (by simp) fun h8 z8 e8=>?_
 replace z8:IsZip h8 z TI TO (rawInt h5.objs.size):=z8
 have up:∀c o,c≠z->h5.get? c=some o->h8.get? c=some o:=fun c o c1 e=>e8.extBut _ _ c1 (e7.extBut _ _ c1 (Heap.get?_push_of_some _ e))
 have nz:h5.objs.size≠z:=Nat.ne_of_gt (Heap.lt_size z5)
 have pT:IsPair h8 h5.objs.size x y:=e8.extBut _ _ nz (e7.extBut _ _ nz (Heap.get?_push_size _ rfl))
 rw [sz] at z8 pT
 refine wpAny_pure ⟨_,rfl,?_⟩
 change Q (.ref h5.objs.size) _
 rw [sz]
 exact hQ h8 z8 (up _ _ D.TOz o5) (U1.at_ f1 (fun o e=>up _ o D.i1z e) fun o e=>up _ o D.l1z e) (U2.at_ f2 (fun o e=>up _ o D.i2z e) fun o e=>up _ o D.l2z e) pT fun c o c1 c2 c3 c4 e=>up c o c1 (k5 c o c1 c2 c3 c4 e)
theorem zkE {Q:Fin->Shared->Prop}(hh:A.handled=none) (D:ZipApart z TI TO i1 i2 t1 t2) (U1:Ste prog w i1 t1 xs S1) (U2:Ste prog w i2 t2 ys S2) (hz:IsZip s.heap z TI TO .none) (hTI:IsPair s.heap TI (.ref i1) (.ref i2)) (hTO:IsPair s.heap TO a b)
  (q1:S1 k s.heap) (q2:S2 k s.heap) (he:xs[k]?=none\/ys[k]?=none)
  (hE:∀h' e,(∀c o,c≠z->c≠TO->c≠i1->c≠i2->s.heap.get? c=some o->h'.get? c=some o)->(∃o,h'.get? e=some o/\o.cls=.type "StopIteration")->E (.ref e) { s with heap:=h' }) :
  wpAny (model prog w) A (Builtin.«zip.__next__» ⟨[.ref z],[]⟩) Q E s:=by
 change wpAny _ _ (field (.ref z) 2 >>= _) _ _ _
 refine wpAny_bind (wpAny_field hz rfl (x:=.bool false) rfl ?_)
 change wpAny _ _ (field (.ref z) 3 >>= _) _ _ _
 refine wpAny_bind (wpAny_field hz rfl (x:=.ref TI) rfl (wpAny_bind (wpAny_seqItems hTI rfl ?_)))
 change wpAny _ _ (Builtin.SmallTypes.ownedTupleIsFree (.ref z) >>= _) _ _ _
 refine wpAny_bind ?_
 unfold Builtin.SmallTypes.ownedTupleIsFree
 refine wpAny_bind (wpAny_field hz rfl (x:=.none) rfl (wpAny_pure ?_))
 rw [if_pos rfl]
 refine wpAny_bind (wpAny_rule (wpAny_bind (wpAny_field hz rfl (x:=.ref TO) rfl (wpAny_bind (wpAny_setField_rec hz (by simp) fun h1 z1 e1=>?_)))))
 replace z1:IsZip h1 z TI TO .ellipsis:=z1
 refine wpAny_bind ?_
 simp only [List.zipIdx_cons,List.zipIdx_nil,List.forIn_cons,List.forIn_nil]
 refine wpAny_bind (wpAny_bind (wpAny_onRaise ?_))
 change wpAny _ _ (Builtin.SmallTypes.nextOf (.ref i1) >>= _) _ _ _
 have p1:=U1.by_same q1 e1 D.i1z D.l1z
 have nez:∀{h:Heap} {e:Addr} {oe:Obj},IsZip h z TI TO .ellipsis->h.get? e=some oe->oe.cls=.type "StopIteration" -> e≠z:=fun iz ho hc x=>by
  rw [x,iz] at ho
  cases ho
  simp at hc
 cases hx:xs[k]? with
 | none =>
  refine wpAny_bind (U1.stop hh p1 hx fun h2 e e2 ⟨oe,hoe,hce⟩=>?_)
  have z2:IsZip h2 z TI TO .ellipsis:=e2 _ _ D.i1z.symm z1
  exact wpAny_setField_rec z2 (by simp) fun h3 _ e3=>hE h3 e (fun c o c1 _ c3 _ x=>e3.extBut _ _ c1 (e2 _ _ c3 (e1.extBut _ _ c1 x))) ⟨oe,e3.extBut _ _ (nez z2 hoe hce) hoe,hce⟩
 | some x =>
  have hy:ys[k]?=none:=by
   rcases he with h|h
   ·rw [hx] at h;cases h
   ·exact h
  refine wpAny_bind (U1.item p1 hx fun h2 p2 e2=>wpAny_pure ?_)
  have o2:IsPair h2 TO a b:=e2.extBut _ _ D.TOi1 (e1.extBut _ _ D.TOz hTO)
  refine wpAny_bind (wpAny_seqItems o2 rfl (wpAny_bind (wpAny_updateSeq_pair o2 fun h3 o3 e3=>?_)))
  refine wpAny_bind (wpAny_letGo (wpAny_pure (wpAny_bind (wpAny_bind (wpAny_onRaise ?_)))))
  change wpAny _ _ (Builtin.SmallTypes.nextOf (.ref i2) >>= _) _ _ _
  have r3:S2 k h3:=U2.by_same (U2.by_same (U2.by_same q2 e1 D.i2z D.l2z) e2 D.i12.symm D.l2i1) e3 D.TOi2.symm D.l2TO
  refine wpAny_bind (U2.stop hh r3 hy fun h4 e e4 ⟨oe,hoe,hce⟩=>?_)
  have z4:IsZip h4 z TI TO .ellipsis:=e4 _ _ D.i2z.symm (e3.extBut _ _ D.TOz.symm (e2.extBut _ _ D.i1z.symm z1))
  exact wpAny_setField_rec z4 (by simp) fun h5 _ e5=>hE h5 e (fun c o c1 c2 c3 c4 x=>e5.extBut _ _ c1 (e4 _ _ c4 (e3.extBut _ _ c2 (e2.extBut _ _ c3 (e1.extBut _ _ c1 x))))) ⟨oe,e5.extBut _ _ (nez z4 hoe hce) hoe,hce⟩
end
section
variable {X:Cx}{pins:List (Addr×Obj)}{U:St}{H:Hp}{s:Shared}{h':Heap}
theorem Inv.turnL {ch:List Addr}{t':Nat}(I:Inv X pins U H s) (hc:∀b∈ch,FpOk X pins H b) (k:∀b o,b∉ch->s.heap.get? b=some o->h'.get? b=some o):Inv X pins U H { s with heap:=h',toks:=t' }:=by
 have nch:∀b u,H b=some u->b∉ch:=fun b u e z=>by rw [(hc b z).1] at e;cases e
 refine I.step (g':=s.gens) (d':=s.drawn) (ch:=ch) (fun b hb=>?_) (fun b o _ _ nb e _=>k b o nb e) (fun b o _ _ nb e _=>⟨o.slots,k b o nb e⟩) (fun _ _ _ _ n=>n)
  (fun b o nb e=>⟨o,k b o nb e⟩) (fun _ _ e=>e) (fun _ _ _ e=>e) (fun b ps e=>⟨#[],by rw [e];simp⟩) (fun m hm=>?_) (fun b u e=>?_) I.bare
 ·obtain ⟨_,f1,_,f3,f4,f5⟩:=hc b hb
  exact ⟨f3,f1,f4,f5⟩
 ·obtain ⟨o,es,ep,ho,r⟩:=hm
  exact ⟨o,es,ep,k _ o (fun z=>(hc _ z).2.1 rfl) ho,r⟩
 ·refine (I.hok b u e).stay (fun c v hc' q=>k c v ?_ q) (fun _ q=>q) fun _ _ q=>q
  rcases hc' with z|z
  ·rw [z];exact nch b u e
  ·exact nch c _ z
theorem Inv.turnN {ch:List Addr}{T:Addr}{o:HO}{t':Nat}(I:Inv X pins U H s) (hc:∀b∈ch,FpOk X pins H b) (k:∀b o,b∉ch->s.heap.get? b=some o->h'.get? b=some o) (hT:s.heap.objs.size<=T)
  (new:ObjOk X.prog X.w (upd H T o) h' T o):Inv X pins U (upd H T o) { s with heap:=h',toks:=t' }:=by
 have fT:H T=none:=I.hok.fresh hT
 have nch:∀b u,H b=some u->b∉ch:=fun b u e z=>by rw [(hc b z).1] at e;cases e
 have nT:∀b u,H b=some u->b≠T:=fun b u e z=>by rw [z,fT] at e;cases e
 refine I.step (g':=s.gens) (d':=s.drawn) (ch:=ch) (fun b hb=>?_) (fun b o _ _ nb e _=>k b o nb e) (fun b o _ _ nb e _=>⟨o.slots,k b o nb e⟩) (fun b u _ e n=>?_)
  (fun b o nb e=>⟨o,k b o nb e⟩) (fun b xs e=>?_) (fun b u v e=>?_) (fun b ps e=>⟨#[],?_⟩) (fun m hm=>?_) (fun b u e=>?_) I.bare
 ·obtain ⟨_,f1,_,f3,f4,f5⟩:=hc b hb
  exact ⟨f3,f1,f4,f5⟩
 ·rw [zD (Nat.ne_of_lt (Nat.lt_of_lt_of_le (Heap.lt_size e) hT))];exact n
 ·rw [zD (nT b _ e)];exact e
 ·rw [zD (nT b _ e)];exact e
 ·rw [zD (nT b _ e),e];simp
 ·obtain ⟨o,es,ep,ho,r⟩:=hm
  exact ⟨o,es,ep,k _ o (fun z=>(hc _ z).2.1 rfl) ho,r⟩
 ·by_cases z:b=T
  ·rw [z] at e ⊢
   rw [yn] at e
   cases e
   exact new
  ·rw [zD z] at e
   refine (I.hok b u e).stay (fun c v hc' q=>k c v ?_ q) (fun c q=>by rw [zD (nT c _ q)];exact q) fun c xs q=>by rw [zD (nT c _ q)];exact q
   rcases hc' with z|z
   ·rw [z];exact nch b u e
   ·exact nch c _ z
end
def Itz (K:Frag) (a b:Addr):It :=
 ⟨fun i H=>∃xs ys x y,SqT K H a xs/\SqT K H b ys/\xs[i]?=some x/\ys[i]?=some y,
  fun i H v H'=>∃T x y,H T=none/\v=.ref T/\H'=upd H T (.tup [x,y])/\(∀xs,SqT K H a xs->xs[i]?=some x)/\∀ys,SqT K H b ys->ys[i]?=some y,
  fun i H=>∃xs ys,SqT K H a xs/\SqT K H b ys/\(xs.length<=i\/ys.length<=i)⟩
def Zst (z TI TO i1 i2 a b:Addr) (k:Nat) (h:Heap):Prop:=IsZip h z TI TO .none/\IsPair h TI (.ref i1) (.ref i2)/\(∃u v,IsPair h TO u v)/\IsTupIter h i1 a k/\IsTupIter h i2 b k
theorem zbp {X:Cx}{pins:List (Addr×Obj)}{U:St}{H:Hp}{s:Shared}{a c:Addr}{xs:List V}(I:Inv X pins U H s) (hf:FpOk X pins H c) (hq:SqT X.K H a xs):a≠c:=by
 rintro rfl
 rcases hq with q|⟨o,its,n,hl,_⟩
 ·rcases q with q|⟨ob,q⟩<;>(rw [hf.1] at q;cases q)
 ·have e:=I.ok.mod.kin _ _ hl
  rcases hf.2.2.2.1 with z|z
  ·exact I.ok.noex _ _ e z
  ·exact absurd (Nat.lt_of_lt_of_le (Heap.lt_size (I.ok.bs _ _ e).1) z) (Nat.lt_irrefl _)
structure Five (z TI TO i1 i2:Addr):Prop where
 TIz:TI≠z
 TOz:TO≠z
 i1z:i1≠z
 i2z:i2≠z
 TITO:TI≠TO
 TIi1:TI≠i1
 TIi2:TI≠i2
 TOi1:TO≠i1
 TOi2:TO≠i2
 i12:i1≠i2
theorem zkF {P:Program}{w:World}{K:Frag}{elts:List Expr}{kt:Nat}{pos:Pos}{z TI TO i1 i2 a b:Addr}(V5:Five z TI TO i1 i2):Turn P w K (.Tuple elts kt pos) (Itz K a b) [z,TI,TO,i1,i2] z (Zst z TI TO i1 i2 a b) where
 mem:=by simp
 obj:=fun i h st c hc=>by
  obtain ⟨hz,hTI,⟨u,v,hTO⟩,⟨o1,e1,_,d1⟩,⟨o2,e2,_,d2⟩⟩:=st
  simp only [List.mem_cons,List.not_mem_nil,or_false] at hc
  rcases hc with q|q|q|q|q<;>rw [q]
  ·exact ⟨_,hz,fun v z=>by cases z⟩
  ·exact ⟨_,hTI,fun v z=>by cases z⟩
  ·exact ⟨_,hTO,fun v z=>by cases z⟩
  ·exact ⟨_,e1,fun v z=>by rw [d1] at z;cases z⟩
  ·exact ⟨_,e2,fun v z=>by rw [d2] at z;cases z⟩
 keep:=fun i h h' st k=>by
  obtain ⟨hz,hTI,⟨u,v,hTO⟩,⟨o1,e1,r1⟩,⟨o2,e2,r2⟩⟩:=st
  exact ⟨k z (by simp) _ hz,k TI (by simp) _ hTI,⟨u,v,k TO (by simp) _ hTO⟩,⟨o1,k i1 (by simp) _ e1,r1⟩,⟨o2,k i2 (by simp) _ e2,r2⟩⟩
 item:=by
  intro X hP hw hK hc i pins s U H E I hf st hg
  subst hP hw hK
  obtain ⟨xs,ys,x,y,hq1,hq2,hx,hy⟩:=hg
  obtain ⟨hz,hTI,⟨u0,v0,hTO⟩,hi1,hi2⟩:=st
  obtain ⟨its1,rv1,p1,_⟩:=I.tuple hq1
  obtain ⟨its2,rv2,p2,_⟩:=I.tuple hq2
  obtain ⟨u,hu,ru⟩:=rv1.get hx
  obtain ⟨v,hv,rv⟩:=rv2.get hy
  have n1:∀c∈[z,TI,TO,i1,i2],a≠c:=fun c h=>zbp I (hf c h) hq1
  have n2:∀c∈[z,TI,TO,i1,i2],b≠c:=fun c h=>zbp I (hf c h) hq2
  have D:ZipApart z TI TO i1 i2 a b:=⟨V5.TIz,V5.TOz,V5.i1z,V5.i2z,V5.TITO,V5.TIi1,V5.TIi2,V5.TOi1,V5.TOi2,V5.i12,n1 z (by simp),n1 TO (by simp),n1 i1 (by simp),n1 i2 (by simp),n2 z (by simp),n2 TO (by simp),n2 i1 (by simp),n2 i2 (by simp)⟩
  have hT:s.TypeIs (.ref z) "zip" := ⟨_,hz,rfl⟩
  unfold pyNext
  refine wpAny_bind (wpAny_attempt (wpAny_callSpecial?_slot (name:=Str.ofString "__next__") hT F.slot_zip_next (wpAny_call_entry F.slot_zip_next hT F.entry_zip_next
   (zkD D (zbo D.l1i1) (zbo D.l2i2) hz hTI hTO ⟨hi1,p1⟩ ⟨hi2,p2⟩ (by simpa using hu) (by simpa using hv) fun h1 z1 o1 f1 f2 pT kk=>wpAny_pure ⟨_,rfl,?_⟩) (F.args_zip_next_1 _))))
  refine wpAny_letOwnedTupleGo_zip (s:={ s with heap:=h1 }) z1 fun h2 z2 e2=>?_
  have fr:H s.heap.objs.size=none:=I.hok.fresh (Nat.le_refl _)
  have up:∀c o,c≠z->h1.get? c=some o->h2.get? c=some o:=fun c o n e=>e2.extBut _ _ n e
  have nz:s.heap.objs.size≠z:=Nat.ne_of_gt (Heap.lt_size hz)
  have k2:∀c o,c∉[z,TI,TO,i1,i2]->s.heap.get? c=some o->h2.get? c=some o:=fun c o nc e =>
   up c o (fun q=>nc (by simp [q])) (kk c o (fun q=>nc (by simp [q])) (fun q=>nc (by simp [q])) (fun q=>nc (by simp [q])) (fun q=>nc (by simp [q])) e)
  refine ⟨.ref s.heap.objs.size,upd H s.heap.objs.size (.tup [x,y]),?_,rfl,⟨s.heap.objs.size,x,y,fr,rfl,rfl,fun xs' h'=>by rw [I.tuple_inj h' hq1];exact hx,fun ys' h'=>by rw [I.tuple_inj h' hq2];exact hy⟩,?_,fun c hc'=>?_⟩
  ·exact Inv.turnN (s:=s) (h':=h2) (t':=s.toks) I hf k2 (Nat.le_refl _) ⟨show 2<=sizeLine by decide,[u,v],.cons ru (.cons rv .nil),_,up _ _ nz pT,rfl,_,rfl⟩
  ·exact ⟨z2,up _ _ D.TIz (kk _ _ D.TIz D.TITO D.TIi1 D.TIi2 hTI),⟨_,_,up _ _ D.TOz o1⟩,(let ⟨o,e,r⟩:=f1.1;⟨o,up _ _ D.i1z e,r⟩),(let ⟨o,e,r⟩:=f2.1;⟨o,up _ _ D.i2z e,r⟩)⟩
  ·have q:c≠s.heap.objs.size:=by
    have lt:∃o,s.heap.get? c=some o:=by
     simp only [List.mem_cons,List.not_mem_nil,or_false] at hc'
     rcases hc' with q|q|q|q|q<;>rw [q]
     ·exact ⟨_,hz⟩
     ·exact ⟨_,hTI⟩
     ·exact ⟨_,hTO⟩
     ·exact let ⟨o,e,_⟩:=hi1;⟨o,e⟩
     ·exact let ⟨o,e,_⟩:=hi2;⟨o,e⟩
    obtain ⟨o,e⟩:=lt
    exact Nat.ne_of_lt (Heap.lt_size e)
   rw [zD q]
   exact (hf c hc').1
 done:=by
  intro X hP hw hK hc i pins s U H E I hf st hg
  subst hP hw hK
  obtain ⟨xs,ys,hq1,hq2,hx⟩:=hg
  obtain ⟨hz,hTI,⟨u0,v0,hTO⟩,hi1,hi2⟩:=st
  obtain ⟨its1,rv1,p1,_⟩:=I.tuple hq1
  obtain ⟨its2,rv2,p2,_⟩:=I.tuple hq2
  have l1:=rv1.length
  have l2:=rv2.length
  have n1:∀c∈[z,TI,TO,i1,i2],a≠c:=fun c h=>zbp I (hf c h) hq1
  have n2:∀c∈[z,TI,TO,i1,i2],b≠c:=fun c h=>zbp I (hf c h) hq2
  have D:ZipApart z TI TO i1 i2 a b:=⟨V5.TIz,V5.TOz,V5.i1z,V5.i2z,V5.TITO,V5.TIi1,V5.TIi2,V5.TOi1,V5.TOi2,V5.i12,n1 z (by simp),n1 TO (by simp),n1 i1 (by simp),n1 i2 (by simp),n2 z (by simp),n2 TO (by simp),n2 i1 (by simp),n2 i2 (by simp)⟩
  have hT:s.TypeIs (.ref z) "zip" := ⟨_,hz,rfl⟩
  unfold pyNext
  refine wpAny_bind (wpAny_attempt (wpAny_callSpecial?_slot (name:=Str.ofString "__next__") hT F.slot_zip_next (wpAny_call_entry F.slot_zip_next hT F.entry_zip_next
   (zkE (I.ok.hd hc) D (zbo D.l1i1) (zbo D.l2i2) hz hTI hTO ⟨hi1,p1⟩ ⟨hi2,p2⟩ (hx.imp (fun h=>by simp;omega) fun h=>by simp;omega) fun h1 e kk he=>?_) (F.args_zip_next_1 _))))
  obtain ⟨o,ho,hco⟩:=he
  refine wpAny_bind (wpAny_isInstance (T := "StopIteration") (b:=true) ⟨o,ho,hco⟩ isSubtype_stop ?_)
  exact wpAny_pure ⟨rfl,Inv.turnL (t':=s.toks) I hf fun c o nc e=>kk c o (fun q=>nc (by simp [q])) (fun q=>nc (by simp [q])) (fun q=>nc (by simp [q])) (fun q=>nc (by simp [q])) e⟩
 self:=fun _ _ _ _ _ st h=>wpAny_pyIter_zip st.1 h
abbrev zt1 (h:Heap) (a:Addr):Heap:=h.push { cls:=.type "tuple_iterator", data:=.fields #[.ref a,.int 0 0] }
abbrev zt2 (h:Heap) (a b:Addr):Heap:=(zt1 h a).push { cls:=.type "tuple_iterator", data:=.fields #[.ref b,.int 0 0] }
abbrev zt3 (h:Heap) (a b:Addr):Heap:=(zt2 h a b).push { cls:=.type "tuple", data:=.seq #[.ref h.objs.size,.ref (zt1 h a).objs.size] }
abbrev zt4 (h:Heap) (a b:Addr):Heap:=(zt3 h a b).push { cls:=.type "tuple", data:=.seq #[.none,.none] }
abbrev jY (h:Heap) (a b:Addr):Heap:=(zt4 h a b).push { cls:=.type "zip", data:=.fields #[.none,.bool false,.bool false,.ref (zt2 h a b).objs.size,.ref (zt3 h a b).objs.size] }
theorem zkG (a b:Addr) (xs ys:Array Value) :
  Meets (Builtin.«zip.__new__» ⟨[.type "zip", .ref a,.ref b],[]⟩) (fun _ R s=>IsTup s.heap a xs/\IsTup s.heap b ys/\R (.ok (.ret (.ref (zt4 s.heap a b).objs.size))) { s with heap:=jY s.heap a b }) :=
 .of_wp fun prog w A R s h=>by
  obtain ⟨hp,g,d,tk,os⟩:=s
  obtain ⟨h1,h2,h⟩:=h
  have hsub:=sub_zip
  have H1:IsTup (Shared.heap ⟨hp,g,d,tk,os⟩) a xs:=h1
  have H2:IsTup (Shared.heap ⟨hp.push { cls:=.type "tuple_iterator", data:=.fields #[.ref a,.int 0 0] },g,d,tk,os⟩) b ys:=h2.push _
  wp_walk using iter_tuple H1,iter_tuple H2
  exact ⟨_,rfl,h⟩
section
variable {prog:Program}{w:World}{A:Around}{E:Value->Shared->Prop}{s:Shared}
theorem zkH {a b:Addr}{xs ys:Array Value}{Q:Value->Shared->Prop}(h1:IsTup s.heap a xs) (h2:IsTup s.heap b ys)
  (h:Zst (s.heap.objs.size+4) (s.heap.objs.size+2) (s.heap.objs.size+3) s.heap.objs.size (s.heap.objs.size+1) a b 0 (jY s.heap a b)->Q (.ref (s.heap.objs.size+4)) { s with heap:=jY s.heap a b }) :
  wpAny (model prog w) A (call (.type "zip") [.ref a,.ref b]) Q E s:=by
 refine callType_new F.called_zip (by decide) (F.typeCall_zip_2 _ _) (F.newCall_zip_2 _ _) (fun obj=>F.args_object_init_3 obj _ _) F.entry_zip_new (zkG a b xs ys) ⟨h1,h2,?_⟩
 have z1:(zt1 s.heap a).objs.size=s.heap.objs.size+1:=Heap.size_push ..
 have z2:(zt2 s.heap a b).objs.size=s.heap.objs.size+2:=by rw [Heap.size_push,z1]
 have z3:(zt3 s.heap a b).objs.size=s.heap.objs.size+3:=by rw [Heap.size_push,z2]
 have z4:(zt4 s.heap a b).objs.size=s.heap.objs.size+4:=by rw [Heap.size_push,z3]
 have g5:(jY s.heap a b).get? (zt4 s.heap a b).objs.size=some _:=Heap.get?_push_size _ rfl
 have g4:(jY s.heap a b).get? (zt3 s.heap a b).objs.size=some _:=Heap.get?_push_of_some _ (Heap.get?_push_size _ rfl)
 have g3:(jY s.heap a b).get? (zt2 s.heap a b).objs.size=some _:=Heap.get?_push_of_some _ (Heap.get?_push_of_some _ (Heap.get?_push_size _ rfl))
 have g2:(jY s.heap a b).get? (zt1 s.heap a).objs.size=some _:=Heap.get?_push_of_some _ (Heap.get?_push_of_some _ (Heap.get?_push_of_some _ (Heap.get?_push_size _ rfl)))
 have g1:(jY s.heap a b).get? s.heap.objs.size=some _:=Heap.get?_push_of_some _ (Heap.get?_push_of_some _ (Heap.get?_push_of_some _ (Heap.get?_push_of_some _ (Heap.get?_push_size _ rfl))))
 show _/\_
 rw [z2,z3,z4] at g5
 rw [z1,z2] at g3
 rw [z3] at g4
 rw [z1] at g2
 rw [z4]
 exact ⟨⟨_,g5,rfl⟩,h ⟨g5,g3,⟨_,_,g4⟩,⟨_,g1,rfl,rfl⟩,⟨_,g2,rfl,rfl⟩⟩⟩
end
theorem zkI:bootBuiltins "zip" = some (.type "zip"):=by decide +kernel
def zkJ (K:Frag) (ta:TA):TI:=fun U H R=>ta U H fun vs H1=>∃a b,vs=[.ref a,.ref b]/\(∃xs,SqT K H1 a xs)/\(∃ys,SqT K H1 b ys)/\R (Itz K a b) H1
theorem zkK {X:Cx} {elts:List Expr} {kt:Nat} {tp:Pos} {x y:Expr} {ta:TA} {p pos:Pos} (hg:Gl X "zip") (hm:X.mg "zip" = none) (ha:PA X [x,y] ta) (hs:starEach [x,y] X.env=[(false,eval x X.env),(false,eval y X.env)]:=by rfl) (hs2:starEach [y] X.env=[(false,eval y X.env)]:=by rfl) :
  PI X (.Tuple elts kt tp) (.Call (.Name "zip" p) [x,y] [] pos) (zkJ X.K ta):=by
 intro pins s U H R I h
 refine Call_ (wZ I hg hm zkI (PyProof.Rows.callWith_type1 (thn (ha pos pins s U H _ I h) fun us s1 ⟨vs,H1,I1,r1,q1⟩=>?_) (by rw [hs,hs2]) (by rw [hs2];rfl)))
 obtain ⟨a,b,e,⟨xs,hq1⟩,⟨ys,hq2⟩,q⟩:=q1
 subst e
 obtain ⟨u,v,rfl,ru,rv⟩:=zen r1
 obtain rfl:u=Value.ref a:=ru
 obtain rfl:v=Value.ref b:=rv
 obtain ⟨its1,_,p1,_⟩:=I1.tuple hq1
 obtain ⟨its2,_,p2,_⟩:=I1.tuple hq2
 refine zkH p1 p2 fun st=>wpAny_pyIter_zip st.1 ?_
 have kk:∀c o,s1.heap.get? c=some o->(jY s1.heap a b).get? c=some o:=fun c o e=>Heap.get?_push_of_some _ (Heap.get?_push_of_some _ (Heap.get?_push_of_some _ (Heap.get?_push_of_some _ (Heap.get?_push_of_some _ e))))
 refine ⟨_,[s1.heap.objs.size+4,s1.heap.objs.size+2,s1.heap.objs.size+3,s1.heap.objs.size,s1.heap.objs.size+1],_,_,H1,rfl,I1.kept (t':=s1.toks) kk,zkF ?_,st,fun c hc=>?_,q⟩
 ·have ne:∀(n i j:Nat),i≠j->n+i≠n+j:=fun n i j h z=>h (Nat.add_left_cancel z)
  have ne0:∀(n i:Nat),i≠0->n+i≠n:=fun n i h z=>h (by omega)
  exact ⟨ne _ 2 4 (by decide),ne _ 3 4 (by decide),(ne0 _ 4 (by decide)).symm,ne _ 1 4 (by decide),ne _ 2 3 (by decide),ne0 _ 2 (by decide),ne _ 2 1 (by decide),ne0 _ 3 (by decide),ne _ 3 1 (by decide),(ne0 _ 1 (by decide)).symm⟩
 ·have le:s1.heap.objs.size<=c:=by
   simp only [List.mem_cons,List.not_mem_nil,or_false] at hc
   rcases hc with q|q|q|q|q<;>rw [q]<;>first|exact Nat.le_refl _|exact Nat.le_add_right _ _
  exact I1.fpOk le (I1.hok.fresh le)
structure KD (X:Cx) (a:Addr):Prop where
 ob:∃es n,X.K.lookup a=some ⟨.type "dict", none,.dict es n,#[]⟩/\KeysLit X.w.params es.toList
 no:(a==sysModules)=false
section
variable {X:Cx}
end
end L2
namespace Mi
open PySem L2 PySem.W
inductive PV where
 | non|bl (b:Bool)|int (i:Int)|str (x:Str)|ty (n:String)
 | tup (xs:List PV)|frl (xs:List PV)|ref (n:Nat)|fn (x:Str)|kd (ks:List Str) (xs:List PV)|exo (c:Str) (ks:List Str) (xs:List PV)
inductive SO where
 | lst (xs:List PV)|dic (ks:List Str) (xs:List PV)|ins (c:Str) (ks:List Str) (xs:List PV)|fdi (ks:List Str) (xs:List PV)
abbrev Sto:=List SO
inductive Res (α:Type) where
 | ok (a:α) (st:Sto)|err (c:Str) (ks:List Str) (xs:List PV) (st:Sto)|stuck
abbrev Mo (α:Type):=Sto->Res α
def Res.bind {α β:Type}:Res α->(α->Mo β)->Res β
 | .ok a st,f=>f a st
 | .err c ks xs st,_=>.err c ks xs st
 | .stuck,_=>.stuck
abbrev zc:=List (Option PV)
def KDs (K:Frag) (a:Addr) (ks:List Str) (us:List Value):Prop:=∀z,nsIn K a z=some ((ks.zip us).lookup z)
def FrL (K:Frag) (H:Hp) (a:Addr) (vs:List V):Prop :=
 (∃o,H a=some (.frz o (.lst vs)))\/∃(o:Obj) (its:Array Value) (n:Nat),K.lookup a=some o/\o.cls=.type "list" /\ o.dict=none/\o.data=.seq its n/\its.size<=sizeLine/\Vals vs its.toList
theorem FrL.sq {K:Frag}{H:Hp}{a:Addr}{vs:List V}(h:FrL K H a vs):SqL K H a vs:=by
 rcases h with ⟨o,h⟩|h
 ·exact .inl (.inr ⟨o,h⟩)
 ·exact .inr h
section
variable (K:Frag) (mg:Str->Option Value)
mutual
def R (ρ:List Addr) (H:Hp):PV->V->Prop
 | .non,v=>v=.non
 | .bl b,v=>v=.bl b
 | .int i,v=>v=.int i
 | .str x,v=>v=.str x
 | .ty n,v=>v=.ty n
 | .tup xs,v=>∃a vs,v=.ref a/\SqT K H a vs/\Rs ρ H xs vs
 | .frl xs,v=>∃a vs,v=.ref a/\FrL K H a vs/\Rs ρ H xs vs
 | .ref n,v=>∃a,v=.ref a/\ρ[n]?=some a
 | .fn x,v=>∃f,v=.ref f/\mg x=some (.ref f)
 | .kd ks xs,v=>∃a us vs,v=.ref a/\KDs K a ks us/\Vals vs us/\Rs ρ H xs vs
 | .exo c ks xs,v=>∃a C d vs,v=.ref a/\mg c=some (.ref C)/\H a=some (exC C (some d) a)/\H d=some (.xd (ks.zip vs))/\Rs ρ H xs vs/\ks.length=vs.length
def Rs (ρ:List Addr) (H:Hp):List PV->List V->Prop
 | [],vs=>vs=[]
 | x::xs,vs=>∃v r,vs=v::r/\R ρ H x v/\Rs ρ H xs r
end
def SoR (ρ:List Addr) (H:Hp):SO->Addr->Prop
 | .lst xs,a=>∃vs,H a=some (.lst vs)/\Rs K mg ρ H xs vs
 | .dic ks xs,a=>∃vs,H a=some (.dK ((ks.map Sum.inr).zip vs))/\Rs K mg ρ H xs vs/\ks.length=vs.length
 | .ins c ks xs,a=>∃C dx vs,mg c=some (.ref C)/\H a=some (.ins C dx (ks.zip vs))/\Rs K mg ρ H xs vs/\ks.length=vs.length
 | .fdi ks xs,a=>∃o vs,H a=some (.frz o (.dK ((ks.map Sum.inr).zip vs)))/\Rs K mg ρ H xs vs/\ks.length=vs.length
structure StR (ρ:List Addr) (H:Hp) (st:Sto):Prop where
 len:ρ.length=st.length
 nd:ρ.Nodup
 at_:∀(n:Nat) so,st[n]?=some so->∃a,ρ[n]?=some a/\SoR K mg ρ H so a
def Imm:HO->Bool
 | .tup _=>true
 | .frz _ _=>true
 | .xd _=>true
 | .ext _=>true
 | _=>false
structure Ext (ρ:List Addr) (H:Hp) (ag:List Addr) (H':Hp):Prop where
 pre:∃δ,ag=ρ++δ
 imm:∀a o,H a=some o->Imm o=true->H' a=some o
def XR (ρ:List Addr) (H:Hp) (c:Str) (ks:List Str) (xs:List PV) (Cv:Value) (d:Option Addr):Prop :=
 ∃C,Cv=.ref C/\mg c=some (.ref C)/\((ks=[]/\d=none)\/∃dd vs,d=some dd/\H dd=some (.xd (ks.zip vs))/\Rs K mg ρ H xs vs/\ks.length=vs.length)
def Out {α:Type}(ρ:List Addr) (H:Hp) (r:Res α) (good:List Addr->Hp->α->Sto->Prop) (E:XK):Prop :=
 match r with
 | .ok x st=>∀ag H',Ext ρ H ag H'->StR K mg ag H' st->good ag H' x st
 | .err c ks xs st=>∀ag H' C d,Ext ρ H ag H'->StR K mg ag H' st->XR K mg ag H' c ks xs C d->E C d H'
 | .stuck=>False
structure EnvR (ρ:List Addr) (H:Hp) (env:zc) (U:St):Prop where
 len:env.length=U.length
 at_:∀(i:Nat) x,env[i]?=some (some x)->∃v,U[i]?=some (some v)/\R K mg ρ H x v
def gV (Q:VK):List Addr->Hp->PV->Sto->Prop:=fun ρ H x _=>∀v,R K mg ρ H x v->Q v H
def gVs (Q:List V->Hp->Prop):List Addr->Hp->List PV->Sto->Prop:=fun ρ H x _=>∀v,Rs K mg ρ H x v->Q v H
def gB (Q:Bool->Hp->Prop):List Addr->Hp->Bool->Sto->Prop:=fun _ H x _=>Q x H
inductive Fl where
 | nx (env:zc)|rt (x:PV)|bk (env:zc)|ct (env:zc)
def gS (D:Ends):List Addr->Hp->Fl->Sto->Prop:=fun ρ H x _ =>
 match x with
 | .nx env=>∀U,EnvR K mg ρ H env U->D.nx U H
 | .rt x=>∀v,R K mg ρ H x v->D.rt v H
 | .bk env=>∀U,EnvR K mg ρ H env U->D.bk U H
 | .ct env=>∀U,EnvR K mg ρ H env U->D.ct U H
end
section
variable {K:Frag}{mg:Str->Option Value}{ρ af ak:List Addr}{H H1 H2:Hp}
theorem Ext.refl:Ext ρ H ρ H:=⟨⟨[],by simp⟩,fun _ _ h _=>h⟩
theorem Ext.trans (a:Ext ρ H af H1) (b:Ext af H1 ak H2):Ext ρ H ak H2:=by
 obtain ⟨⟨d,hd⟩,i⟩:=a
 obtain ⟨⟨d',hd'⟩,i'⟩:=b
 exact ⟨⟨d++d',by rw [hd',hd,List.append_assoc]⟩,fun a o h m=>i' a o (i a o h m) m⟩
theorem Ext.get (a:Ext ρ H af H1) {n:Nat}{p:Addr}(h:ρ[n]?=some p):af[n]?=some p:=by
 obtain ⟨⟨d,hd⟩,_⟩:=a
 rw [hd,List.getElem?_append_left (List.getElem?_eq_some_iff.mp h).1]
 exact h
theorem Ext.sqT (e:Ext ρ H af H1) {a:Addr}{xs:List V}(h:SqT K H a xs):SqT K H1 a xs:=by
 rcases h with (h|⟨o,h⟩)|h
 ·exact .inl (.inl (e.imm _ _ h rfl))
 ·exact .inl (.inr ⟨o,e.imm _ _ h rfl⟩)
 ·exact .inr h
theorem Ext.frl (e:Ext ρ H af H1) {a:Addr}{xs:List V}(h:FrL K H a xs):FrL K H1 a xs:=by
 rcases h with ⟨o,h⟩|h
 ·exact .inl ⟨o,e.imm _ _ h rfl⟩
 ·exact .inr h
mutual
theorem R.ext (e:Ext ρ H af H1):∀(x:PV) {v:V},R K mg ρ H x v->R K mg af H1 x v
 | .non,_,h=>h
 | .bl _,_,h=>h
 | .int _,_,h=>h
 | .str _,_,h=>h
 | .ty _,_,h=>h
 | .tup xs,_,h=>by
  obtain ⟨a,vs,h1,h2,h3⟩:=h
  exact ⟨a,vs,h1,e.sqT h2,Rs.ext e xs h3⟩
 | .frl xs,_,h=>by
  obtain ⟨a,vs,h1,h2,h3⟩:=h
  exact ⟨a,vs,h1,e.frl h2,Rs.ext e xs h3⟩
 | .ref n,_,h=>by
  obtain ⟨a,h1,h2⟩:=h
  exact ⟨a,h1,e.get h2⟩
 | .fn _,_,h=>h
 | .kd ks xs,_,h=>by
  obtain ⟨a,us,vs,h1,h2,h4,h3⟩:=h
  exact ⟨a,us,vs,h1,h2,h4,Rs.ext e xs h3⟩
 | .exo c ks xs,_,h=>by
  obtain ⟨a,C,d,vs,h1,h2,h3,h4,h5,h6⟩:=h
  exact ⟨a,C,d,vs,h1,h2,e.imm _ _ h3 rfl,e.imm _ _ h4 rfl,Rs.ext e xs h5,h6⟩
theorem Rs.ext (e:Ext ρ H af H1):∀(xs:List PV) {vs:List V},Rs K mg ρ H xs vs->Rs K mg af H1 xs vs
 | [],_,h=>h
 | x::xs,_,h=>by
  obtain ⟨v,r,h1,h2,h3⟩:=h
  exact ⟨v,r,h1,R.ext e x h2,Rs.ext e xs h3⟩
end
theorem EnvR.ext (e:Ext ρ H af H1) {env:zc}{U:St}(h:EnvR K mg ρ H env U):EnvR K mg af H1 env U :=
 ⟨h.len,fun i x hx=>let ⟨v,a,b⟩:=h.at_ i x hx;⟨v,a,R.ext e x b⟩⟩
theorem Rs.len:∀{xs:List PV}{vs:List V},Rs K mg ρ H xs vs->xs.length=vs.length
 | [],_,h=>by cases h;rfl
 | x::xs,_,h=>by
  obtain ⟨v,r,rfl,_,h3⟩:=h
  simp [Rs.len h3]
theorem Rs.get:∀{xs:List PV}{vs:List V}{i:Nat}{x:PV},Rs K mg ρ H xs vs->xs[i]?=some x->∃v,vs[i]?=some v/\R K mg ρ H x v
 | [],_,_,_,_,e=>by simp at e
 | x::xs,_,0,_,h,e=>by
  obtain ⟨v,r,rfl,h2,h3⟩:=h
  simp at e
  subst e
  exact ⟨v,by simp,h2⟩
 | x::xs,_,i+1,y,h,e=>by
  obtain ⟨v,r,rfl,h2,h3⟩:=h
  simp at e
  obtain ⟨v',h4,h5⟩:=Rs.get h3 e
  exact ⟨v',by simpa using h4,h5⟩
theorem Rs.append:∀{xs ys:List PV}{vs ws:List V},Rs K mg ρ H xs vs->Rs K mg ρ H ys ws->Rs K mg ρ H (xs++ys) (vs++ws)
 | [],_,_,_,h,h'=>by cases h;exact h'
 | x::xs,_,_,_,h,h'=>by
  obtain ⟨v,r,rfl,h2,h3⟩:=h
  exact ⟨v,r++_,rfl,h2,Rs.append h3 h'⟩
theorem Rs.take:∀{xs:List PV}{vs:List V}(n:Nat),Rs K mg ρ H xs vs->Rs K mg ρ H (xs.take n) (vs.take n)
 | [],_,n,h=>by cases h;simp [Rs]
 | x::xs,_,0,h=>by simp [Rs]
 | x::xs,_,n+1,h=>by
  obtain ⟨v,r,rfl,h2,h3⟩:=h
  exact ⟨v,_,rfl,h2,Rs.take n h3⟩
theorem Rs.drop:∀{xs:List PV}{vs:List V}(n:Nat),Rs K mg ρ H xs vs->Rs K mg ρ H (xs.drop n) (vs.drop n)
 | [],_,n,h=>by cases h;simp [Rs]
 | x::xs,_,0,h=>h
 | x::xs,_,n+1,h=>by
  obtain ⟨v,r,rfl,h2,h3⟩:=h
  exact Rs.drop n h3
theorem EnvR.set {env:zc}{U:St}{x:PV}{v:V}(h:EnvR K mg ρ H env U) (i:Nat) (r:R K mg ρ H x v):EnvR K mg ρ H (env.set i (some x)) (U.set i (some v)):=by
 refine ⟨by simp [h.len],fun j y hy=>?_⟩
 rw [List.getElem?_set] at hy ⊢
 by_cases hij:i=j
 ·subst hij
  by_cases hl:i<env.length
  ·rw [if_pos rfl,if_pos hl] at hy
   rw [if_pos rfl,if_pos (by rw [<-h.len];exact hl)]
   cases hy
   exact ⟨v,rfl,r⟩
  ·rw [if_pos rfl,if_neg hl] at hy
   cases hy
 ·rw [if_neg hij] at hy ⊢
  exact h.at_ j y hy
theorem EnvR.cons {env:zc}{U:St}{x:PV}{v:V}(h:EnvR K mg ρ H env U) (r:R K mg ρ H x v):EnvR K mg ρ H (some x::env) (some v::U):=by
 refine ⟨by simp [h.len],fun j y hy=>?_⟩
 cases j with
 | zero=>simp at hy;subst hy;exact ⟨v,by simp,r⟩
 | succ j=>simp at hy;simpa using h.at_ j y hy
theorem StR.addr {st:Sto}{n:Nat}{so:SO}(s:StR K mg ρ H st) (e:st[n]?=some so) {a:Addr}(ha:ρ[n]?=some a):SoR K mg ρ H so a:=by
 obtain ⟨b,hb,h⟩:=s.at_ n so e
 rw [ha] at hb
 cases hb
 exact h
theorem SoR.some {so:SO}{a:Addr}(h:SoR K mg ρ H so a):∃o,H a=some o/\True:=by
 cases so with
 | lst xs=>obtain ⟨vs,h,_⟩:=h;exact ⟨_,h,trivial⟩
 | dic ks xs=>obtain ⟨vs,h,_⟩:=h;exact ⟨_,h,trivial⟩
 | ins c ks xs=>obtain ⟨C,dx,vs,_,h,_⟩:=h;exact ⟨_,h,trivial⟩
 | fdi ks xs=>obtain ⟨o,vs,h,_⟩:=h;exact ⟨_,h,trivial⟩
theorem StR.in_ {st:Sto}{n:Nat}{a:Addr}(s:StR K mg ρ H st) (h:ρ[n]?=some a):∃so,st[n]?=some so/\SoR K mg ρ H so a:=by
 have hl:n<st.length:=by rw [<-s.len];exact (List.getElem?_eq_some_iff.mp h).1
 refine ⟨st[n],by simp [hl],s.addr (by simp [hl]) h⟩
theorem SoR.ext' {so:SO}{a:Addr}(e:Ext ρ H af H1) (h:SoR K mg ρ H so a) (k:H1 a=H a):SoR K mg af H1 so a:=by
 cases so with
 | lst xs=>obtain ⟨vs,h1,h2⟩:=h;exact ⟨vs,by rw [k];exact h1,Rs.ext e xs h2⟩
 | dic ks xs=>obtain ⟨vs,h1,h2,h3⟩:=h;exact ⟨vs,by rw [k];exact h1,Rs.ext e xs h2,h3⟩
 | ins c ks xs=>obtain ⟨C,dx,vs,h0,h1,h2,h3⟩:=h;exact ⟨C,dx,vs,h0,by rw [k];exact h1,Rs.ext e xs h2,h3⟩
 | fdi ks xs=>obtain ⟨o,vs,h1,h2,h3⟩:=h;exact ⟨o,vs,by rw [k];exact h1,Rs.ext e xs h2,h3⟩
theorem Ext.new {p:Addr}{o:HO}(hp:H p=none):Ext ρ H ρ (upd H p o) :=
 ⟨⟨[],by simp⟩,fun a o' h _=>by rw [zD (jo h hp)];exact h⟩
theorem StR.new {st:Sto}{p:Addr}{o:HO}(s:StR K mg ρ H st) (hp:H p=none):StR K mg ρ (upd H p o) st :=
 ⟨s.len,s.nd,fun n so e=>by
  obtain ⟨a,ha,h⟩:=s.at_ n so e
  obtain ⟨o',ho,_⟩:=h.some
  exact ⟨a,ha,h.ext' (Ext.new hp) (zD (jo ho hp))⟩⟩
theorem Ext.push {p:Addr}{o:HO}(hp:H p=none):Ext ρ H (ρ++[p]) (upd H p o) :=
 ⟨⟨[p],rfl⟩,fun a o' h _=>by rw [zD (jo h hp)];exact h⟩
theorem StR.push {st:Sto}{p:Addr}{o:HO}{so:SO}(s:StR K mg ρ H st) (hp:H p=none) (n:SoR K mg (ρ++[p]) (upd H p o) so p):StR K mg (ρ++[p]) (upd H p o) (st++[so]):=by
 refine ⟨by simp [s.len],?_,fun i so' e=>?_⟩
 ·refine List.nodup_append.mpr ⟨s.nd,by simp,fun a ha b hb=>?_⟩
  obtain rfl:b=p:=by simpa using hb
  obtain ⟨n,hn⟩:=List.getElem?_of_mem ha
  obtain ⟨so',_,h⟩:=s.in_ hn
  obtain ⟨o',ho,_⟩:=h.some
  exact jo ho hp
 ·by_cases hi:i<st.length
  ·rw [List.getElem?_append_left hi] at e
   obtain ⟨a,ha,h⟩:=s.at_ i so' e
   obtain ⟨o',ho,_⟩:=h.some
   exact ⟨a,(Ext.push (o:=o) hp).get ha,h.ext' (Ext.push hp) (zD (jo ho hp))⟩
  ·rw [List.getElem?_append_right (by omega)] at e
   have hi':i=st.length:=by
    have:=(List.getElem?_eq_some_iff.mp e).1
    simp at this
    omega
   subst hi'
   simp at e
   subst e
   exact ⟨p,by rw [<-s.len];simp,n⟩
theorem Ext.write {a:Addr}{o o':HO}(ha:H a=some o) (hi:Imm o=false):Ext ρ H ρ (upd H a o') :=
 ⟨⟨[],by simp⟩,fun b u h m=>by
  rw [zD]
  ·exact h
  ·intro z;subst z;rw [ha] at h;cases h;rw [hi] at m;cases m⟩
theorem StR.write {st:Sto}{n:Nat}{a:Addr}{o':HO}{so:SO}(s:StR K mg ρ H st) (hn:ρ[n]?=some a) (ew:Ext ρ H ρ (upd H a o')) (h:SoR K mg ρ (upd H a o') so a):StR K mg ρ (upd H a o') (st.set n so):=by
 refine ⟨by simp [s.len],s.nd,fun i so' e=>?_⟩
 rw [List.getElem?_set] at e
 by_cases hij:n=i
 ·subst hij
  rw [if_pos rfl] at e
  split at e
  ·cases e;exact ⟨a,hn,h⟩
  ·cases e
 ·rw [if_neg hij] at e
  obtain ⟨b,hb,q⟩:=s.at_ i so' e
  have ne:b≠a:=by
   intro z
   subst z
   obtain ⟨h1,h2⟩:=List.getElem?_eq_some_iff.mp hn
   obtain ⟨h3,h4⟩:=List.getElem?_eq_some_iff.mp hb
   have pw:=List.pairwise_iff_getElem.mp s.nd
   rcases Nat.lt_trichotomy n i with c|c|c
   ·exact pw n i h1 h3 c (h2.trans h4.symm)
   ·exact hij c
   ·exact pw i n h3 h1 c (h4.trans h2.symm)
  exact ⟨b,hb,q.ext' ew (zD ne)⟩
section
variable {α β:Type}{E:XK}{good:List Addr->Hp->α->Sto->Prop}
theorem Out.ext {r:Res α}(h:Out K mg ρ H r good E) (e:Ext ρ H af H1):Out K mg af H1 r good E:=by
 cases r with
 | ok x st=>exact fun ag H' e' s=>h ag H' (e.trans e') s
 | err c ks xs st=>exact fun ag H' C d e' s x=>h ag H' C d (e.trans e') s x
 | stuck=>exact h
theorem Out.mono {r:Res α}{good':List Addr->Hp->α->Sto->Prop}(h:Out K mg ρ H r good E) (g:∀ag H' x st,Ext ρ H ag H'->StR K mg ag H' st->good ag H' x st->good' ag H' x st):Out K mg ρ H r good' E:=by
 cases r with
 | ok x st=>exact fun ag H' e' s=>g ag H' x st e' s (h ag H' e' s)
 | err c ks xs st=>exact h
 | stuck=>exact h
theorem Out.bind {r:Res β}{f:β->Mo α}(h:Out K mg ρ H (r.bind f) good E):Out K mg ρ H r (fun ag H' x st=>Out K mg ag H' (f x st) good E) E:=by
 cases r with
 | ok x st=>exact fun ag H' e' s=>Out.ext h e'
 | err c ks xs st=>exact h
 | stuck=>exact h
theorem Out.then {r:Res β}{f:β->Mo α}{good':List Addr->Hp->β->Sto->Prop}(h:Out K mg ρ H (r.bind f) good E) (g:∀ag H' x st,Ext ρ H ag H'->StR K mg ag H' st->Out K mg ag H' (f x st) good E->good' ag H' x st):Out K mg ρ H r good' E:=h.bind.mono g
theorem Out.now {x:α}{st:Sto}(h:Out K mg ρ H (.ok x st) good E) (s:StR K mg ρ H st):good ρ H x st:=h ρ H Ext.refl s
end
end
end Mi
namespace Mi
open PySem L2 PySem.W PySem.Spec
abbrev lim:Nat:=1000000
theorem yz {n:Nat}(h:n<=lim):n<=sizeLine:=by rw [sizeLine_eq];show n<=16777216;exact Nat.le_trans h (by decide)
section
variable (K:Frag) (mg:Str->Option Value)
def tM (Er:XK) (f:zc->Mo PV):TE:=fun U H Q=>∃env st ρ,EnvR K mg ρ H env U/\StR K mg ρ H st/\Out K mg ρ H (f env st) (gV K mg Q) Er
def tMB (Er:XK) (f:zc->Mo Bool):TT:=fun U H Q=>∃env st ρ,EnvR K mg ρ H env U/\StR K mg ρ H st/\Out K mg ρ H (f env st) (gB Q) Er
def tMA (Er:XK) (f:zc->Mo (List PV)):TA:=fun U H Q=>∃env st ρ,EnvR K mg ρ H env U/\StR K mg ρ H st/\Out K mg ρ H (f env st) (gVs K mg Q) Er
def sM (Er:XK) (f:zc->Mo Fl):TS:=fun D U H=>∃env st ρ,EnvR K mg ρ H env U/\StR K mg ρ H st/\Out K mg ρ H (f env st) (gS K mg D) Er
end
def ME (X:Cx) (Er:XK) (e:Expr) (f:zc->Mo PV):Prop:=PE X e (tM X.K X.mg Er f)
def MT (X:Cx) (Er:XK) (e:Expr) (f:zc->Mo Bool):Prop:=PT X e (tMB X.K X.mg Er f)
def MW (X:Cx) (Er:XK) (e:Expr) (f:zc->Mo Bool):Prop:=PW X e (tMB X.K X.mg Er f)
def MA (X:Cx) (Er:XK) (e:List Expr) (f:zc->Mo (List PV)):Prop:=PA X e (tMA X.K X.mg Er f)
def MS (X:Cx) (Er:XK) (e:Stmt) (f:zc->Mo Fl):Prop:=PS X e (sM X.K X.mg Er f)
def MSs (X:Cx) (Er:XK) (e:List Stmt) (f:zc->Mo Fl):Prop:=PSs X e (sM X.K X.mg Er f)
section
variable {X:Cx}{Er:XK}{e a b c:Expr}{es:List Expr}{pos:Pos}{t t':TE}
theorem PE.weak (h:PE X e t) (w:∀U H Q,t' U H Q->t U H Q):PE X e t':=fun pins s U H Q I q=>h pins s U H Q I (w U H Q q)
theorem PT.weak {t t':TT}(h:PT X e t) (w:∀U H Q,t' U H Q->t U H Q):PT X e t':=fun pins s U H Q I q=>h pins s U H Q I (w U H Q q)
theorem PW.weak {t t':TT}(h:PW X e t) (w:∀U H Q,t' U H Q->t U H Q):PW X e t':=fun wh pins s U H Q I q=>h wh pins s U H Q I (w U H Q q)
theorem PA.weak {t t':TA}(h:PA X es t) (w:∀U H Q,t' U H Q->t U H Q):PA X es t':=fun pos pins s U H Q I q=>h pos pins s U H Q I (w U H Q q)
theorem PS.weak {st:Stmt}{t t':TS}(h:PS X st t) (w:∀D U H,t' D U H->t D U H):PS X st t':=fun pins s U H D I q=>h pins s U H D I (w D U H q)
theorem PSs.weak {st:List Stmt}{t t':TS}(h:PSs X st t) (w:∀D U H,t' D U H->t D U H):PSs X st t':=fun pins s U H D I q=>h pins s U H D I (w D U H q)
def zd (i:Nat):zc->Mo PV:=fun env st=>match env[i]? with
 | some (some x)=>.ok x st
 | _=>.stuck
def mC (x:PV):zc->Mo PV:=fun _ st=>.ok x st
theorem zg (i:Nat) {x:Str} {pos:Pos} (hN:X.N[i]?=some x:=by rfl) (hv:Vis X.env.scope x:=by first|exact Or.inl rfl|exact Or.inr (Or.inl rfl)|exact Or.inr (Or.inr rfl)) (hd:(x==("__debug__" : Str))=false:=by decide)
  (hcd:(x==("__classdict__" : Str))=false:=by decide):ME X Er (.Name x pos) (zd i):=PE.weak (zhS hN hv hd hcd) fun U H Q ⟨env,st,ρ,re,rs,h⟩=>by
 unfold zd at h
 split at h
 ·rename_i x' hx
  obtain ⟨v,h1,h2⟩:=re.at_ i x' hx
  exact ⟨v,h1,h.now rs v h2⟩
 ·exact h.elim
theorem zaF {x:PV}{v:V}(hp:PE X e (tC v)) (hr:∀ρ H,R X.K X.mg ρ H x v):ME X Er e (mC x):=PE.weak hp fun U H Q ⟨env,st,ρ,re,rs,h⟩=>h.now rs v (hr ρ H)
theorem zu {i:Int}{j}:ME X Er (.Constant (.int i) j pos) (mC (.int i)):=zaF zhT fun _ _=>rfl
theorem zW {x:Str}{j}:ME X Er (.Constant (.str x) j pos) (mC (.str x)):=zaF zhV fun _ _=>rfl
theorem wG {b:Bool}{j}:ME X Er (.Constant (.bool b) j pos) (mC (.bl b)):=zaF zhU fun _ _=>rfl
theorem zfc {x:Str} {p:PV} {v:V} {u:Value} (hm:X.mg x=some u) (r:RelV v u) (hr:∀ρ H,R X.K X.mg ρ H p v) (hg:Gl X x:=by rfl) (hd:(x==("__debug__" : Str))=false:=by decide):ME X Er (.Name x pos) (mC p):=zaF (zhW hg hm r hd) hr
def OpM (K:Frag) (mg:Str->Option Value) (r:R2) (op:PV->PV->Mo PV):Prop:=∀ρ H st x y v w (Q:VK) (E:XK),StR K mg ρ H st->R K mg ρ H x v->R K mg ρ H y w->Out K mg ρ H (op x y st) (gV K mg Q) E->r v w H Q
def zh (op:PV->PV->Mo PV) (fa fb:zc->Mo PV):zc->Mo PV:=fun env st=>(fa env st).bind fun x st1=>(fb env st1).bind fun y st2=>op x y st2
variable {fa fb fc:zc->Mo PV}
theorem zbu {r:R2}{op:PV->PV->Mo PV}{K:Frag}{mg:Str->Option Value}(hm:OpM K mg r op) {U:St}{H:Hp}{Q:VK}(h:tM K mg Er (zh op fa fb) U H Q):tOp r (tM K mg Er fa) (tM K mg Er fb) U H Q:=by
 obtain ⟨env,st,ρ,re,rs,h⟩:=h
 exact ⟨env,st,ρ,re,rs,h.then fun af H1 x st1 e1 s1 h1 v rv=>⟨env,st1,af,re.ext e1,s1,h1.then fun ak H2 y st2 e2 s2 h2 w rw=>hm ak H2 st2 x y v w Q Er s2 (R.ext e2 x rv) rw h2⟩⟩
theorem zkN {o:Operator}{r:R2}{op:PV->PV->Mo PV}(ho:OpR X (binaryOp o) r) (hm:OpM X.K X.mg r op) (ha:ME X Er a fa) (hb:ME X Er b fb):ME X Er (.BinOp a o b pos) (zh op fa fb) :=
 PE.weak (ziH ho ha hb) fun U H Q h=>zbu hm h
theorem zkO {o:CmpOp}{r:R2}{op:PV->PV->Mo PV}(ho:OpR X (compareOp o) r) (hm:OpM X.K X.mg r op) (ha:ME X Er a fa) (hb:ME X Er b fb) (hk:behindInMarks o b=false):ME X Er (.Compare a [o] [b] pos) (zh op fa fb) :=
 PE.weak (ziU ho ha hb hk) fun U H Q h=>zbu hm h
def asB:PV->Mo Bool
 | .bl b,st=>.ok b st
 | _,_=>.stuck
def mB (f:zc->Mo PV):zc->Mo Bool:=fun env st=>(f env st).bind asB
theorem zkP {K:Frag}{mg:Str->Option Value}{ρ:List Addr}{H:Hp}{x:PV}{st:Sto}{Q:Bool->Hp->Prop}(s:StR K mg ρ H st) (h:Out K mg ρ H (asB x st) (gB Q) Er) {v:V}(r:R K mg ρ H x v):∃k,v=.bl k/\Q k H:=by
 unfold asB at h
 split at h
 ·cases r;exact ⟨_,rfl,h.now s⟩
 ·exact h.elim
theorem zcH {α:Type}{K:Frag}{mg:Str->Option Value}{ρ:List Addr}{H:Hp}{x:PV}{st:Sto}{f:Bool->Mo α}{good:List Addr->Hp->α->Sto->Prop}(h:Out K mg ρ H ((asB x st).bind f) good Er):∃k,x=.bl k/\Out K mg ρ H (f k st) good Er:=by
 cases x with
 | bl k=>exact ⟨k,rfl,h⟩
 | _=>exact False.elim h
theorem zcI {f:zc->Mo PV}{K:Frag}{mg:Str->Option Value}{U:St}{H:Hp}{Q:Bool->Hp->Prop}(h:tMB K mg Er (mB f) U H Q):tM K mg Er f U H fun x H1=>∃c,x=.bl c/\Q c H1:=by
 obtain ⟨env,st,ρ,re,rs,h⟩:=h
 exact ⟨env,st,ρ,re,rs,h.then fun af H1 x st1 e1 s1 h1 v rv=>zkP s1 h1 rv⟩
theorem zkQ {o:CmpOp}{r:R2}{op:PV->PV->Mo PV}(ho:OpR X (compareOp o) r) (hm:OpM X.K X.mg r op) (ha:ME X Er a fa) (hb:ME X Er b fb) (hk:behindInMarks o b=false):MT X Er (.Compare a [o] [b] pos) (mB (zh op fa fb)) :=
 PT.weak (ziV ho ha hb hk) fun U H Q h=>zbu hm (zcI h)
theorem ya (h:ME X Er e fa) (he:∀whole,isTrue e X.env whole=(do let v <-whole;standAt e.pos;holding [v] (truthy v)):=by intro _;rfl):MT X Er e (mB fa) :=
 PT.weak (zhY h he) fun U H Q h=>zcI h
def wH (op op':PV->PV->Mo PV) (fa fb fc:zc->Mo PV):zc->Mo PV:=fun env st=>(fa env st).bind fun x st1=>(fb env st1).bind fun y st2=>(op x y st2).bind fun k st3=>(asB k st3).bind fun b st4 =>
 if b=true then (fc env st4).bind fun z st5=>op' y z st5 else .ok (.bl false) st4
theorem zkR {r r':R2}{op op':PV->PV->Mo PV}{K:Frag}{mg:Str->Option Value}(hm:OpM K mg r op) (hm':OpM K mg r' op') {U:St}{H:Hp}{Q:VK}(h:tM K mg Er (wH op op' fa fb fc) U H Q):zem r r' (tM K mg Er fa) (tM K mg Er fb) (tM K mg Er fc) U H Q:=by
 obtain ⟨env,st,ρ,re,rs,h⟩:=h
 refine ⟨env,st,ρ,re,rs,h.then fun af H1 x st1 e1 s1 h1 v rv=>⟨env,st1,af,re.ext e1,s1,h1.then fun ak H2 y st2 e2 s2 h2 w rw=>?_⟩⟩
 refine hm ak H2 st2 x y v w _ Er s2 (R.ext e2 x rv) rw (h2.then fun am H3 z st3 e3 s3 h3 u ru=>?_)
 obtain ⟨b,rfl,h4⟩:=zcH h3
 cases ru
 refine ⟨b,rfl,?_⟩
 cases b with
 | true=>exact ⟨env,st3,am,((re.ext e1).ext e2).ext e3,s3,Out.then (f:=fun z st5=>op' y z st5) h4 fun aH H5 z st5 e5 s5 h5 w' rw'=>hm' aH H5 st5 y z w w' Q Er s5 (R.ext e5 y (R.ext e3 y rw)) rw' h5⟩
 | false=>exact Out.now (x:=PV.bl false) h4 s3 _ rfl
theorem zkS {o o':CmpOp}{r r':R2}{op op':PV->PV->Mo PV}(ho:OpR X (compareOp o) r) (hm:OpM X.K X.mg r op) (ho':OpR X (compareOp o') r') (hm':OpM X.K X.mg r' op') (ha:ME X Er a fa) (hb:ME X Er b fb) (hc:ME X Er c fc)
  (hk:lastMarks [o,o'] [b,c]=false:=by with_unfolding_all rfl):MT X Er (.Compare a [o,o'] [b,c] pos) (mB (wH op op' fa fb fc)):=PT.weak (ziW ho ho' ha hb hc hk) fun U H Q h=>zkR hm hm' (zcI h)
def UnM (K:Frag) (mg:Str->Option Value) (r:V->Hp->VK->Prop) (op:PV->Mo PV):Prop:=∀ρ H st x v (Q:VK) (E:XK),StR K mg ρ H st->R K mg ρ H x v->Out K mg ρ H (op x st) (gV K mg Q) E->r v H Q
def yg (op:PV->Mo PV) (fa:zc->Mo PV):zc->Mo PV:=fun env st=>(fa env st).bind op
theorem zkT {o:UnaryOp}{r:V->Hp->VK->Prop}{op:PV->Mo PV}(ho:UnR X (unaryOp o) r) (hm:UnM X.K X.mg r op) (ha:ME X Er a fa):ME X Er (.UnaryOp o a pos) (yg op fa) :=
 PE.weak (ziI ho ha) fun U H Q ⟨env,st,ρ,re,rs,h⟩=>⟨env,st,ρ,re,rs,h.then fun af H1 x st1 e1 s1 h1 v rv=>hm af H1 st1 x v Q Er s1 rv h1⟩
variable {ga gb:zc->Mo Bool}{rest:List Expr}
def jG (ga gb:zc->Mo Bool):zc->Mo Bool:=fun env st=>(ga env st).bind fun c st1=>if c=true then gb env st1 else .ok false st1
def yR (ga gb:zc->Mo Bool):zc->Mo Bool:=fun env st=>(ga env st).bind fun c st1=>if c=true then .ok true st1 else gb env st1
def yA (ga:zc->Mo Bool):zc->Mo Bool:=fun env st=>(ga env st).bind fun c st1=>.ok (!c) st1
theorem zbv (ha:MT X Er a ga):MW X Er (.BoolOp .And [a] pos) ga:=zh2 ha
theorem j8 (ha:MT X Er a ga):MW X Er (.BoolOp .Or [a] pos) ga:=zh3 ha
theorem zbw (ha:MT X Er a ga) (hb:MW X Er (.BoolOp .And (b::rest) pos) gb):MW X Er (.BoolOp .And (a::b::rest) pos) (jG ga gb) :=
 PW.weak (zh4 ha hb) fun U H Q ⟨env,st,ρ,re,rs,h⟩=>⟨env,st,ρ,re,rs,h.then fun af H1 k st1 e1 s1 h1=>by
  cases k with
  | true=>exact ⟨env,st1,af,re.ext e1,s1,h1⟩
  | false=>exact h1.now s1⟩
theorem j9 (ha:MT X Er a ga) (hb:MW X Er (.BoolOp .Or (b::rest) pos) gb):MW X Er (.BoolOp .Or (a::b::rest) pos) (yR ga gb) :=
 PW.weak (zh5 ha hb) fun U H Q ⟨env,st,ρ,re,rs,h⟩=>⟨env,st,ρ,re,rs,h.then fun af H1 k st1 e1 s1 h1=>by
  cases k with
  | false=>exact ⟨env,st1,af,re.ext e1,s1,h1⟩
  | true=>exact h1.now s1⟩
theorem jc {op:BoolOp}(h:MW X Er (.BoolOp op es pos) ga):MT X Er (.BoolOp op es pos) ga:=PW.pt h
theorem jr (ha:MT X Er a ga):MT X Er (.UnaryOp .Not a pos) (yA ga):=PT.weak (zh6 ha) fun U H Q ⟨env,st,ρ,re,rs,h⟩=>⟨env,st,ρ,re,rs,h.then fun af H1 k st1 e1 s1 h1=>h1.now s1⟩
def jH (fa fb:zc->Mo PV):zc->Mo PV:=fun env st=>(fa env st).bind fun x st1=>(asB x st1).bind fun c st2=>if c=true then fb env st2 else .ok (.bl false) st2
def zcJ (fa:zc->Mo PV):zc->Mo PV:=fun env st=>(fa env st).bind fun x st1=>(asB x st1).bind fun c st2=>.ok (.bl (!c)) st2
theorem zbx {op}(h:ME X Er a fa):ME X Er (.BoolOp op [a] pos) fa:=zh9 h
theorem w8 (ha:ME X Er a fa) (hb:ME X Er (.BoolOp .And (b::rest) pos) fb):ME X Er (.BoolOp .And (a::b::rest) pos) (jH fa fb) :=
 PE.weak (zia ha hb) fun U H Q ⟨env,st,ρ,re,rs,h⟩=>⟨env,st,ρ,re,rs,h.then fun af H1 x st1 e1 s1 h1 v rv=>by
  obtain ⟨k,rfl,h1⟩:=zcH h1
  cases rv
  refine ⟨k,rfl,?_⟩
  cases k with
  | true=>exact ⟨env,st1,af,re.ext e1,s1,h1⟩
  | false=>exact Out.now (x:=PV.bl false) h1 s1 _ rfl⟩
theorem zkU (ha:ME X Er a fa):ME X Er (.UnaryOp .Not a pos) (zcJ fa) :=
 PE.weak (zib ha) fun U H Q ⟨env,st,ρ,re,rs,h⟩=>⟨env,st,ρ,re,rs,h.then fun af H1 x st1 e1 s1 h1 v rv=>by
  obtain ⟨k,rfl,h1⟩:=zcH h1
  cases rv
  exact ⟨k,rfl,Out.now (x:=PV.bl (!k)) h1 s1 _ rfl⟩⟩
def mIf (g:zc->Mo Bool) (fa fb:zc->Mo PV):zc->Mo PV:=fun env st=>(g env st).bind fun c st1=>if c=true then fa env st1 else fb env st1
theorem zkV {c:Expr}(hc:MT X Er c ga) (ha:ME X Er a fa) (hb:ME X Er b fb):ME X Er (.IfExp c a b pos) (mIf ga fa fb) :=
 PE.weak (zid hc ha hb) fun U H Q ⟨env,st,ρ,re,rs,h⟩=>⟨env,st,ρ,re,rs,h.then fun af H1 k st1 e1 s1 h1=>by
  cases k with
  | true=>exact ⟨env,st1,af,re.ext e1,s1,h1⟩
  | false=>exact ⟨env,st1,af,re.ext e1,s1,h1⟩⟩
def zj:zc->Mo (List PV):=fun _ st=>.ok [] st
def zf (f:zc->Mo PV) (fs:zc->Mo (List PV)):zc->Mo (List PV):=fun env st=>(f env st).bind fun x st1=>(fs env st1).bind fun xs st2=>.ok (x::xs) st2
variable {fs:zc->Mo (List PV)}
theorem zn:MA X Er [] zj:=PA.weak zbg fun U H Q ⟨env,st,ρ,re,rs,h⟩=>h.now rs [] rfl
theorem zkW (ha:ME X Er e fa) (hr:MA X Er es fs) (hs:starEach (e::es) X.env=(false,eval e X.env)::starEach es X.env:=by rfl):MA X Er (e::es) (zf fa fs) :=
 PA.weak (zbh ha hr hs) fun U H Q ⟨env,st,ρ,re,rs,h⟩=>⟨env,st,ρ,re,rs,h.then fun af H1 x st1 e1 s1 h1 v rv=>⟨env,st1,af,re.ext e1,s1,h1.then fun ak H2 xs st2 e2 s2 h2 vs rvs =>
  h2.now s2 (v::vs) ⟨v,vs,rfl,R.ext e2 x rv,rvs⟩⟩⟩
def wa (fs:zc->Mo (List PV)):zc->Mo PV:=fun env st=>(fs env st).bind fun xs st1=>if xs.length<=lim then .ok (.tup xs) st1 else .stuck
def jZ (fs:zc->Mo (List PV)):zc->Mo PV:=fun env st=>(fs env st).bind fun xs st1=>if xs.length<=lim then .ok (.ref st1.length) (st1++[.lst xs]) else .stuck
theorem R.tup_of {K:Frag}{mg:Str->Option Value}{ρ:List Addr}{H:Hp}{xs:List PV}{vs:List V}{p:Addr}(r:Rs K mg ρ H xs vs) (hp:H p=none):R K mg ρ (upd H p (.tup vs)) (.tup xs) (.ref p) :=
 ⟨p,vs,rfl,SqT.of yn,Rs.ext (Ext.new hp) xs r⟩
theorem zcL {x1}(h:MA X Er es fs):ME X Er (.Tuple es x1 pos) (wa fs) :=
 PE.weak (zjg h) fun U H Q ⟨env,st,ρ,re,rs,h⟩=>⟨env,st,ρ,re,rs,h.then fun af H1 xs st1 e1 s1 h1 vs rv=>by
  split at h1
  ·rename_i hl
   exact ⟨by rw [<-rv.len];exact yz hl,fun p hp=>h1 af _ (Ext.new hp) (s1.new hp) _ (R.tup_of rv hp)⟩
  ·exact h1.elim⟩
theorem Out.newList {K:Frag}{mg:Str->Option Value}{ρ:List Addr}{H:Hp}{st:Sto}{xs:List PV}{vs:List V}{p:Addr}{Q:VK}(h:Out K mg ρ H (.ok (.ref st.length) (st++[.lst xs])) (gV K mg Q) Er) (s:StR K mg ρ H st) (r:Rs K mg ρ H xs vs) (hp:H p=none):Q (.ref p) (upd H p (.lst vs)) :=
 h (ρ++[p]) _ (Ext.push hp) (s.push hp ⟨vs,yn,Rs.ext (Ext.push hp) xs r⟩) _ ⟨p,rfl,by rw [<-s.len];simp⟩
theorem w9 (h:MA X Er es fs):ME X Er (.List es pos) (jZ fs) :=
 PE.weak (zjh h) fun U H Q ⟨env,st,ρ,re,rs,h⟩=>⟨env,st,ρ,re,rs,h.then fun af H1 xs st1 e1 s1 h1 vs rv=>by
  split at h1
  ·rename_i hl
   exact ⟨by rw [<-rv.len];exact yz hl,fun p hp=>Out.newList h1 s1 rv hp⟩
  ·exact h1.elim⟩
theorem zkX {r:R2}{op:PV->PV->Mo PV}(ho:IxR X r) (hm:OpM X.K X.mg r op) (ha:ME X Er a fa) (hb:ME X Er b fb) (hs:PlainIx b:=by exact fun _ _=>rfl):ME X Er (.Subscript a b pos) (zh op fa fb) :=
 PE.weak (zjG ho ha hb hs) fun U H Q h=>zbu hm h
end
end Mi
namespace HT
open PySem PySem.Spec PyProof.Rows
section
variable {prog:Program}{w:World}{A:Around}{E:Value->Shared->Prop}{s:Shared}
theorem getItem_tuple_all {t sl:Addr}{items:Array Value}{vl vu:Value}{lo hi:Option Int}{Q:Value->Shared->Prop}(ht:IsTup s.heap t items) (hs:s.heap.IsSliceOf sl vl vu .none) (pl:IsPart vl lo) (pu:IsPart vu hi)
  (hw:sIx items.size 0 lo=0/\sIx items.size items.size hi=items.size) (h:Q (.ref t) s)
  (hsz:items.size<=sizeLine):wpAny (model prog w) A (getItem (.ref t) (.ref sl)) Q E s:=by
 obtain ⟨os,hos,hcs,hds⟩:=id hs
 have hTs:s.TypeIs (.ref sl) "slice" := ⟨os,hos,hcs⟩
 unfold getItem
 try with_reducible refine wpAny_holding ?_
 first|refine wpAny_bind (wpAny_pure ?_)|skip
 refine wpAny_bind (wpAny_sequenceKey ht.typeIs (by decide) ?_)
 refine wpAny_bind (wpAny_callSpecial?_slot (name:=Str.ofString "__getitem__") ht.typeIs PyProof.Rows.slot_tuple_getitem
  (wpAny_call_entry PyProof.Rows.slot_tuple_getitem ht.typeIs entry_tuple_getitem ?_ (args_tuple_getitem _ _)))
 show wpAny _ _ (Builtin.Tuple.tupleItemsOf (.ref t) >>= _) _ _ s
 refine wpAny_bind (tupleItemsOf_ ht ?_)
 refine wpAny_bind (wpAny_typeOf hTs ?_)
 rw [if_pos (by decide)]
 refine wpAny_bind (zeE hs pl pu ?_)
 have hyes:(((sIx items.size 0 lo:Nat):Int)==0&&(1:Int)==1&&(sIx items.size items.size hi-sIx items.size 0 lo)==items.size)=true:=by
  rw [hw.1,hw.2];simp
 show wpAny _ _ (if (((sIx items.size 0 lo:Nat):Int)==0&&(1:Int)==1&&(sIx items.size items.size hi-sIx items.size 0 lo)==items.size)=true then _ else _) _ _ s
 rw [if_pos hyes]
 unfold Builtin.Tuple.tupleIsExact
 refine wpAny_bind (wpAny_bind (wpAny_typeOf ht.typeIs (wpAny_pure ?_)))
 rw [if_pos (by decide)]
 exact wpAny_bind (wpAny_rule (wpAny_pure ⟨_,rfl,wpAny_pure h⟩))
theorem cat_tup0 {t b:Addr}{ws:List Value}{Q:Value->Shared->Prop}(ht:IsTup s.heap t #[]) (hb:IsTup s.heap b ws.toArray) (h1:Q (.ref b) s):wpAny (model prog w) A (binaryOp .Add (.ref t) (.ref b)) Q E s:=by
 obtain ⟨⟨cls,dd,data,sl⟩,ho,hc,n,hd⟩:=id ht
 obtain ⟨⟨cls2,dd2,data2,sl2⟩,ho2,hc2,n2,hd2⟩:=id hb
 simp only at hc hd hc2 hd2
 subst hc hd hc2 hd2
 exact concat_meets ⟨_,ho,rfl⟩ ⟨_,ho2,rfl⟩ noFill_tuple_add seq_tuple_add PySem.F.slot_tuple_add PySem.F.entry_tuple_add (PySem.F.args_tuple_add_2 _ _)
   (tuple_addW0 t b #[] ws.toArray n n2 dd dd2 sl sl2 (by simp)) ⟨ho,ho2,h1⟩
end
end HT
namespace Mi
open PySem L2 PySem.W PySem.Spec
section
variable {X:Cx}{Er:XK}{K:Frag}{mg:Str->Option Value}
def BinOk (X:Cx) (o:Operator) (op:PV->PV->Mo PV):Prop:=∃r,OpR X (binaryOp o) r/\OpM X.K X.mg r op
def CmpOk (X:Cx) (o:CmpOp) (op:PV->PV->Mo PV):Prop:=∃r,OpR X (compareOp o) r/\OpM X.K X.mg r op
def IxOk (X:Cx) (op:PV->PV->Mo PV):Prop:=∃r,IxR X r/\OpM X.K X.mg r op
def UnOk (X:Cx) (o:UnaryOp) (op:PV->Mo PV):Prop:=∃r,UnR X (unaryOp o) r/\UnM X.K X.mg r op
variable {a b c e:Expr}{es:List Expr}{pos:Pos}{fa fb fc:zc->Mo PV}{fs:zc->Mo (List PV)}
theorem zC {o:Operator}{op:PV->PV->Mo PV}(h:BinOk X o op) (ha:ME X Er a fa) (hb:ME X Er b fb):ME X Er (.BinOp a o b pos) (zh op fa fb):=let ⟨_,h1,h2⟩:=h;zkN h1 h2 ha hb
theorem zaG {o:CmpOp}{op:PV->PV->Mo PV}(h:CmpOk X o op) (ha:ME X Er a fa) (hb:ME X Er b fb) (hk:behindInMarks o b=false:=by first|exact nomark _|with_unfolding_all rfl):ME X Er (.Compare a [o] [b] pos) (zh op fa fb):=let ⟨_,h1,h2⟩:=h;zkO h1 h2 ha hb hk
theorem yb {o:CmpOp}{op:PV->PV->Mo PV}(h:CmpOk X o op) (ha:ME X Er a fa) (hb:ME X Er b fb) (hk:behindInMarks o b=false:=by first|exact nomark _|with_unfolding_all rfl):MT X Er (.Compare a [o] [b] pos) (mB (zh op fa fb)):=let ⟨_,h1,h2⟩:=h;zkQ h1 h2 ha hb hk
theorem zfd {o o':CmpOp}{op op':PV->PV->Mo PV}(h:CmpOk X o op) (h':CmpOk X o' op') (ha:ME X Er a fa) (hb:ME X Er b fb) (hc:ME X Er c fc)
  (hk:lastMarks [o,o'] [b,c]=false:=by with_unfolding_all rfl):MT X Er (.Compare a [o,o'] [b,c] pos) (mB (wH op op' fa fb fc)):=let ⟨_,h1,h2⟩:=h;let ⟨_,h3,h4⟩:=h';zkS h1 h2 h3 h4 ha hb hc hk
theorem yo {op:PV->PV->Mo PV}(h:IxOk X op) (ha:ME X Er a fa) (hb:ME X Er b fb) (hs:PlainIx b:=by exact fun _ _=>rfl):ME X Er (.Subscript a b pos) (zh op fa fb):=let ⟨_,h1,h2⟩:=h;zkX h1 h2 ha hb hs
theorem zfe {o:UnaryOp}{op:PV->Mo PV}(h:UnOk X o op) (ha:ME X Er a fa):ME X Er (.UnaryOp o a pos) (yg op fa):=let ⟨_,h1,h2⟩:=h;zkT h1 h2 ha
theorem Out.ifp {α:Type}{ρ:List Addr}{H:Hp}{p:Prop} [Decidable p] {r:Res α}{good:List Addr->Hp->α->Sto->Prop}(h:Out K mg ρ H (if p then r else .stuck) good Er):p/\Out K mg ρ H r good Er:=by
 split at h
 ·rename_i hp;exact ⟨hp,h⟩
 ·exact False.elim h
def z9 {α:Type}(st:Sto) (n:Nat) (k:List PV->Res α):Res α:=match st[n]? with
 | some (.lst xs)=>k xs
 | _=>.stuck
def yp {α:Type}(st:Sto) (n:Nat) (k:List Str->List PV->Res α):Res α:=match st[n]? with
 | some (.dic ks xs)=>k ks xs
 | _=>.stuck
def yh {α:Type}(st:Sto) (n:Nat) (k:Str->List Str->List PV->Res α):Res α:=match st[n]? with
 | some (.ins c ks xs)=>k c ks xs
 | _=>.stuck
theorem yW {α:Type}{ρ:List Addr}{H:Hp}{st:Sto}{n:Nat}{k:List PV->Res α}{good:List Addr->Hp->α->Sto->Prop}(h:Out K mg ρ H (z9 st n k) good Er):∃xs,st[n]?=some (.lst xs)/\Out K mg ρ H (k xs) good Er:=by
 unfold z9 at h
 split at h
 ·rename_i xs e;exact ⟨xs,e,h⟩
 ·exact False.elim h
theorem zaH {α:Type}{ρ:List Addr}{H:Hp}{st:Sto}{n:Nat}{k:List Str->List PV->Res α}{good:List Addr->Hp->α->Sto->Prop}(h:Out K mg ρ H (yp st n k) good Er):∃ks xs,st[n]?=some (.dic ks xs)/\Out K mg ρ H (k ks xs) good Er:=by
 unfold yp at h
 split at h
 ·rename_i ks xs e;exact ⟨ks,xs,e,h⟩
 ·exact False.elim h
theorem zby {α:Type}{ρ:List Addr}{H:Hp}{st:Sto}{n:Nat}{k:Str->List Str->List PV->Res α}{good:List Addr->Hp->α->Sto->Prop}(h:Out K mg ρ H (yh st n k) good Er):∃c ks xs,st[n]?=some (.ins c ks xs)/\Out K mg ρ H (k c ks xs) good Er:=by
 unfold yh at h
 split at h
 ·rename_i c ks xs e;exact ⟨c,ks,xs,e,h⟩
 ·exact False.elim h
def opI (C:Int->Int->Bool) (g:Int->Int->Int):PV->PV->Mo PV
 | .int i,.int j,st=>if C i j=true then .ok (.int (g i j)) st else .stuck
 | _,_,_=>.stuck
theorem zaI {C:Int->Int->Bool}{g:Int->Int->Int}{P:Int->Int->Prop}(hC:∀i j,C i j=true->P i j):OpM K mg (rI P fun i j=>.int (g i j)) (opI C g):=by
 intro ρ H st x y v w Q E s rx ry h
 cases x with
 | int i =>
  cases y with
  | int j =>
   cases rx;cases ry
   obtain ⟨c,h⟩:=Out.ifp h
   exact ⟨i,j,rfl,rfl,hC i j c,h.now s _ rfl⟩
  | _=>exact False.elim h
 | _=>exact False.elim h
abbrev c0:Int->Int->Bool:=fun _ _=>true
theorem zkY {g:Int->Int->V}{f:Value->Value->Sem Value}(h:OpR X f (jX g)):OpR X f (rI (fun _ _=>True) g):=fun pins s U H x y v u Q I rx ry ⟨i,j,h1,h2,_,q⟩=>h pins s U H x y v u Q I rx ry ⟨i,j,h1,h2,q⟩
abbrev yX:=opI c0 fun i j=>i-j
abbrev cMul:Int->Int->Bool:=fun i j=>(decide (-(2 ^ 64)<i)&&decide (i<2 ^ 64))||(decide (-(2 ^ 64)<j)&&decide (j<2 ^ 64))
abbrev zff:=opI cMul fun i j=>i*j
abbrev cPow:Int->Int->Bool:=fun i j=>decide (0<=j)&&decide (j<=1000000)&&decide (i.natAbs<2 ^ 64)
abbrev js:=opI cPow fun i j=>i ^ j.toNat
abbrev cNz:Int->Int->Bool:=fun _ j=>decide (j≠0)
def yB (i j:Int):Int:=if 0<j then i%j else i.fmod j
abbrev yj:=opI cNz yB
abbrev cDv:Int->Int->Bool:=fun _ j=>decide (j≠0)&&decide (j.natAbs<2 ^ 200)
def ju (i j:Int):Int:=if 0<j then i/j else i.fdiv j
abbrev wb:=opI cDv ju
theorem zkZ (i j:Int):yB i j=i.fmod j:=by
 unfold yB;split
 ·rename_i h;rw [Int.fmod_eq_emod_of_nonneg _ (by omega)]
 ·rfl
theorem zk0 (i j:Int):ju i j=i.fdiv j:=by
 unfold ju;split
 ·rename_i h;rw [Int.fdiv_eq_ediv_of_nonneg _ (by omega)]
 ·rfl
theorem wc:BinOk X .Sub yX:=⟨_,zkY ziK,zaI fun _ _ _=>trivial⟩
theorem zk1:BinOk X .Mult zff:=⟨_,ziL,zaI fun i j h=>by simpa [cMul,CMul] using h⟩
theorem wI:BinOk X .Pow js:=⟨_,ziN,zaI fun i j h=>by simp [cPow] at h;exact ⟨h.1.1,h.1.2,h.2⟩⟩
theorem jv:BinOk X .Mod yj:=⟨_,ziM,by
 have h:(fun i j=>V.int (i.fmod j))=fun i j=>V.int (yB i j):=by funext i j;rw [zkZ]
 rw [h];exact zaI fun i j h=>by simpa [cNz] using h⟩
theorem zk2 {y:Int}(h:y.natAbs<2 ^ 200):y.natAbs.log2<9000:=by
 by_cases h0:y.natAbs=0
 ·rw [h0];decide
 ·have:=(Nat.log2_lt h0).mpr h
  omega
theorem zk3:OpR X (binaryOp .FloorDiv) (rI (fun _ j=>j≠0/\j.natAbs<2 ^ 200) fun i j=>.int (i.fdiv j)):=L2.opI fun _ _ _ _ _ _ _ hc q=>PyProof.Rows.floordiv_int hc.1 q (.inl (PyProof.noPylong_of_log2 (zk2 hc.2)))
theorem zcM:BinOk X .FloorDiv wb:=⟨_,zk3,by
 have h:(fun i j=>V.int (i.fdiv j))=fun i j=>V.int (ju i j):=by funext i j;rw [zk0]
 rw [h];exact zaI fun i j h=>by simpa [cDv] using h⟩
def zbz:PV->Mo PV
 | .int i,st=>.ok (.int (-i)) st
 | _,_=>.stuck
theorem zfg:UnOk X .USub zbz:=⟨_,ziO,by
 intro ρ H st x v Q E s rx h
 cases x with
 | int i=>cases rx;exact ⟨i,rfl,Out.now (x:=PV.int (-i)) h s _ rfl⟩
 | _=>exact False.elim h⟩
def zR:PV->PV->Mo PV
 | .int i,.int j,st=>.ok (.int (i+j)) st
 | .str x,.str y,st=>if x.length+y.length<=lim then .ok (.str (x++y)) st else .stuck
 | .tup xs,.tup ys,st=>if xs.length+ys.length<=lim then .ok (.tup (xs++ys)) st else .stuck
 | .ref n,.ref m,st=>z9 st n fun xs=>z9 st m fun ys=>if xs.length+ys.length<=lim then .ok (.ref st.length) (st++[.lst (xs++ys)]) else .stuck
 | _,_,_=>.stuck
def zk4 (K:Frag):R2:=fun x y H Q=>∃a b ys,x=.ref a/\y=.ref b/\SqT K H a []/\SqT K H b ys/\Q (.ref b) H
theorem zk5:OpR X (binaryOp .Add) (zk4 X.K):=by
 intro pins s U H x y v u Q I rx ry h
 obtain ⟨a,b,ys,rfl,rfl,h1,h2,q⟩:=h
 cases rx;cases ry
 obtain ⟨i1,r1,p1,_⟩:=I.tuple h1
 obtain ⟨i2,r2,p2,_⟩:=I.tuple h2
 cases r1
 exact HT.cat_tup0 p1 p2 ⟨.ref b,H,I,rfl,q⟩
theorem yk:BinOk X .Add zR:=⟨_,ziJ.or (ziX.or (zk5.or (zjE.or zjX))),by
 intro ρ H st x y v w Q E s rx ry h
 cases x with
 | int i =>
  cases y with
  | int j=>cases rx;cases ry;exact .inl ⟨i,j,rfl,rfl,Out.now (x:=PV.int (i+j)) h s _ rfl⟩
  | _=>exact False.elim h
 | str i =>
  cases y with
  | str j =>
   cases rx;cases ry
   obtain ⟨c,h⟩:=Out.ifp h
   exact .inr (.inl ⟨i,j,rfl,rfl,yz c,h.now s _ rfl⟩)
  | _=>exact False.elim h
 | tup xs =>
  cases y with
  | tup ys =>
   obtain ⟨p,vs,rfl,h1,h2⟩:=rx
   obtain ⟨q,ws,rfl,h3,h4⟩:=ry
   obtain ⟨c,h⟩:=Out.ifp h
   cases xs with
   | nil =>
    cases h2
    exact .inr (.inr (.inl ⟨p,q,ws,rfl,rfl,h1,h3,h.now s _ ⟨q,ws,rfl,h3,h4⟩⟩))
   | cons x0 xs0 =>
    refine .inr (.inr (.inr (.inl ⟨p,q,vs,ws,rfl,rfl,h1,h3,?_,?_,fun e=>?_,fun _ l hl=>?_⟩)))
    ·obtain ⟨v0,r0,e0,_⟩:=h2;rw [e0];simp
    ·rw [<-h2.len,<-h4.len];exact yz c
    ·subst e
     have:ys=[]:=by have:=h4.len;simpa using this
     subst this
     exact h.now s _ ⟨p,vs,rfl,h1,by simpa using h2⟩
    ·exact h ρ _ (Ext.new hl) (s.new hl) _ (R.tup_of (h2.append h4) hl)
  | _=>exact False.elim h
 | ref n =>
  cases y with
  | ref m =>
   obtain ⟨p,rfl,hp⟩:=rx
   obtain ⟨q,rfl,hq⟩:=ry
   obtain ⟨xs,e1,h⟩:=yW h
   obtain ⟨ys,e2,h⟩:=yW h
   obtain ⟨c,h⟩:=Out.ifp h
   obtain ⟨vs,h1,h2⟩:=s.addr e1 hp
   obtain ⟨ws,h3,h4⟩:=s.addr e2 hq
   exact .inr (.inr (.inr (.inr ⟨p,q,vs,ws,rfl,rfl,h1,h3,by rw [<-h2.len,<-h4.len];exact yz c,fun l hl=>Out.newList h s (h2.append h4) hl⟩)))
  | _=>exact False.elim h
 | _=>exact False.elim h⟩
def opB (g:Int->Int->Bool):PV->PV->Mo PV
 | .int i,.int j,st=>.ok (.bl (g i j)) st
 | _,_,_=>.stuck
theorem zcN {g:Int->Int->Bool}:OpM K mg (jX fun i j=>.bl (g i j)) (opB g):=by
 intro ρ H st x y v w Q E s rx ry h
 cases x with
 | int i =>
  cases y with
  | int j=>cases rx;cases ry;exact ⟨i,j,rfl,rfl,Out.now (x:=PV.bl (g i j)) h s _ rfl⟩
  | _=>exact False.elim h
 | _=>exact False.elim h
abbrev wJ:=opB fun i j=>decide (i<j)
abbrev we:=opB fun i j=>decide (i<=j)
abbrev jw:=opB fun i j=>decide (j<i)
theorem zcO:CmpOk X .Lt wJ:=⟨_,ziQ,zcN⟩
theorem zbA:CmpOk X .LtE we:=⟨_,ziR,zcN⟩
theorem zaJ:CmpOk X .Gt jw:=⟨_,ziS,zcN⟩
def isNon:PV->Bool
 | .non=>true
 | _=>false
theorem zcP {ρ:List Addr}{H:Hp}{xs:List PV}{vs:List V}{i:Int}{x:PV}(r:Rs K mg ρ H xs vs) (h:atI xs i=some x):∃v,atI vs i=some v/\R K mg ρ H x v:=by
 unfold atI at h ⊢
 rw [<-r.len]
 cases hj:ixN xs.length i with
 | none=>rw [hj] at h;cases h
 | some j =>
  rw [hj] at h
  obtain ⟨v,h1,h2⟩:=r.get (show xs[j]?=some x from h)
  exact ⟨v,h1,h2⟩
def optR:Option PV->Mo PV
 | some x,st=>.ok x st
 | none,_=>.stuck
def oIx:PV->PV->Mo PV
 | .tup xs,.int i,st=>optR (atI xs i) st
 | .frl xs,.int i,st=>optR (atI xs i) st
 | .str z,.int i,st=>if z.length<=lim then optR ((atI z.cps.toList i).map fun c=>.str ⟨#[c]⟩) st else .stuck
 | .ref n,.int i,st=>z9 st n fun xs=>optR (atI xs i) st
 | _,_,_=>.stuck
theorem wf {ρ:List Addr}{H:Hp}{o:Option PV}{st:Sto}{good}(h:Out K mg ρ H (optR o st) good Er):∃x,o=some x/\Out K mg ρ H (.ok x st) good Er:=by
 cases o with
 | some x=>exact ⟨x,rfl,h⟩
 | none=>exact False.elim h
theorem zk6:IxOk X oIx:=⟨_,zjK,by
 intro ρ H st x y v w Q E s rx ry h
 cases x with
 | tup xs =>
  cases y with
  | int i =>
   cases ry
   obtain ⟨p,vs,rfl,h1,h2⟩:=rx
   obtain ⟨x,e,h⟩:=wf h
   obtain ⟨v,h3,h4⟩:=zcP h2 e
   exact .inr (.inl ⟨p,vs,i,v,rfl,rfl,h1,h3,h.now s _ h4⟩)
  | _=>exact False.elim h
 | frl xs =>
  cases y with
  | int i =>
   cases ry
   obtain ⟨p,vs,rfl,h1,h2⟩:=rx
   obtain ⟨x,e,h⟩:=wf h
   obtain ⟨v,h3,h4⟩:=zcP h2 e
   exact .inl ⟨p,vs,i,v,rfl,rfl,h1.sq,h3,h.now s _ h4⟩
  | _=>exact False.elim h
 | str z =>
  cases y with
  | int i =>
   cases ry;cases rx
   obtain ⟨c,h⟩:=Out.ifp h
   obtain ⟨x,e,h⟩:=wf h
   cases hc:atI z.cps.toList i with
   | none=>rw [hc] at e;cases e
   | some k =>
    rw [hc] at e
    cases e
    exact .inr (.inr ⟨z,i,k,rfl,rfl,yz c,hc,h.now s _ rfl⟩)
  | _=>exact False.elim h
 | ref n =>
  cases y with
  | int i =>
   cases ry
   obtain ⟨p,rfl,hp⟩:=rx
   obtain ⟨xs,e1,h⟩:=yW h
   obtain ⟨vs,h1,h2⟩:=s.addr e1 hp
   obtain ⟨x,e,h⟩:=wf h
   obtain ⟨v,h3,h4⟩:=zcP h2 e
   exact .inl ⟨p,vs,i,v,rfl,rfl,SqL.of h1,h3,h.now s _ h4⟩
  | _=>exact False.elim h
 | _=>exact False.elim h⟩
end
mutual
def plain:PV->Bool
 | .non=>true
 | .bl _=>true
 | .int _=>true
 | .str _=>true
 | .tup xs=>plains xs
 | _=>false
def plains:List PV->Bool
 | []=>true
 | x::xs=>plain x&&plains xs
end
mutual
def dep:PV->Nat
 | .tup xs=>deps xs+1
 | _=>0
def deps:List PV->Nat
 | []=>0
 | x::xs=>max (dep x) (deps xs)
end
mutual
def eqP:PV->PV->Bool
 | .non,.non=>true
 | .bl a,.bl b=>a==b
 | .bl a,.int b=>(if a then 1 else 0)==b
 | .int a,.bl b=>a==(if b then 1 else 0)
 | .int a,.int b=>a==b
 | .str a,.str b=>a==b
 | .tup xs,.tup ys=>eqPs xs ys
 | _,_=>false
def eqPs:List PV->List PV->Bool
 | [],[]=>true
 | x::xs,y::ys=>eqP x y&&eqPs xs ys
 | _,_=>false
end
section
variable {X:Cx}{Er:XK}{K:Frag}{mg:Str->Option Value}{ρ:List Addr}{pins:List (Addr×Obj)}{U:L2.St}{H:Hp}{s:Shared}
mutual
theorem zfh (I:Inv X pins U H s):∀(x y:PV) {v:V},plain x=true->plain y=true->R X.K mg ρ H x v->R X.K mg ρ H y v->eqP x y=true
 | .non,y,v,_,py,rx,ry=>by
  cases rx
  cases y with
  | non=>rfl
  | tup ys=>obtain ⟨_,_,e,_⟩:=ry;cases e
  | bl _=>cases ry
  | int _=>cases ry
  | str _=>cases ry
  | _=>cases py
 | .bl a,y,v,_,py,rx,ry=>by
  cases rx
  cases y with
  | bl b=>cases ry;simp [eqP]
  | tup ys=>obtain ⟨_,_,e,_⟩:=ry;cases e
  | non=>cases ry
  | int _=>cases ry
  | str _=>cases ry
  | _=>cases py
 | .int a,y,v,_,py,rx,ry=>by
  cases rx
  cases y with
  | int b=>cases ry;simp [eqP]
  | tup ys=>obtain ⟨_,_,e,_⟩:=ry;cases e
  | non=>cases ry
  | bl _=>cases ry
  | str _=>cases ry
  | _=>cases py
 | .str a,y,v,_,py,rx,ry=>by
  cases rx
  cases y with
  | str b=>cases ry;simp [eqP]
  | tup ys=>obtain ⟨_,_,e,_⟩:=ry;cases e
  | non=>cases ry
  | bl _=>cases ry
  | int _=>cases ry
  | _=>cases py
 | .tup xs,y,v,px,py,rx,ry=>by
  obtain ⟨a,vs,rfl,h1,h2⟩:=rx
  cases y with
  | tup ys =>
   obtain ⟨b,ws,e,h3,h4⟩:=ry
   cases e
   have:=I.tuple_inj h1 h3
   subst this
   exact same_Ps I xs ys px py h2 h4
  | non=>cases ry
  | bl _=>cases ry
  | int _=>cases ry
  | str _=>cases ry
  | _=>cases py
 | .ty _,_,_,px,_,_,_=>by cases px
 | .frl _,_,_,px,_,_,_=>by cases px
 | .ref _,_,_,px,_,_,_=>by cases px
 | .fn _,_,_,px,_,_,_=>by cases px
 | .kd _ _,_,_,px,_,_,_=>by cases px
 | .exo _ _ _,_,_,px,_,_,_=>by cases px
theorem same_Ps (I:Inv X pins U H s):∀(xs ys:List PV) {vs:List V},plains xs=true->plains ys=true->Rs X.K mg ρ H xs vs->Rs X.K mg ρ H ys vs->eqPs xs ys=true
 | [],ys,vs,_,py,rx,ry=>by
  cases rx
  cases ys with
  | nil=>rfl
  | cons y ys=>obtain ⟨_,_,e,_⟩:=ry;cases e
 | x::xs,ys,vs,px,py,rx,ry=>by
  obtain ⟨v,r,rfl,h1,h2⟩:=rx
  cases ys with
  | nil=>cases ry
  | cons y ys =>
   obtain ⟨v',r',e,h3,h4⟩:=ry
   cases e
   simp only [plains,Bool.and_eq_true] at px py
   simp only [eqPs,Bool.and_eq_true]
   exact ⟨zfh I x y px.1 py.1 h1 h3,same_Ps I xs ys px.2 py.2 h2 h4⟩
end
def eqJp (xs ys:List PV) (j:Nat):Bool:=match xs[j]?,ys[j]? with
 | some x,some y=>eqP x y
 | _,_=>true
theorem zfi:∀(xs ys:List PV),((List.range (min xs.length ys.length)).all (eqJp xs ys)&&xs.length==ys.length)=eqPs xs ys
 | [],[]=>rfl
 | [],y::ys=>by simp [eqPs]
 | x::xs,[]=>by simp [eqPs]
 | x::xs,y::ys=>by
  have ih:=zfi xs ys
  have e1:min (x::xs).length (y::ys).length=min xs.length ys.length+1:=by simp only [List.length_cons];omega
  have e2:((x::xs).length==(y::ys).length)=(xs.length==ys.length):=by
   rw [Bool.eq_iff_iff];simp
  rw [e1,e2,List.range_succ_eq_map,List.all_cons,List.all_map]
  have e3:(eqJp (x::xs) (y::ys)∘Nat.succ)=eqJp xs ys:=by
   funext j
   simp [eqJp]
  rw [e3,Bool.and_assoc,ih]
  simp [eqPs,eqJp]
theorem zcR:∀{xs:List PV}{i:Nat}{x:PV},xs[i]?=some x->dep x<=deps xs
 | [],_,_,e=>by simp at e
 | y::xs,0,x,e=>by simp at e;subst e;simp only [deps];omega
 | y::xs,i+1,x,e=>by
  simp at e
  have:=zcR e
  simp only [deps];omega
theorem zbB:∀{xs:List PV}{i:Nat}{x:PV},plains xs=true->xs[i]?=some x->plain x=true
 | [],_,_,_,e=>by simp at e
 | y::xs,0,x,p,e=>by simp at e;subst e;simp only [plains,Bool.and_eq_true] at p;exact p.1
 | y::xs,i+1,x,p,e=>by
  simp at e
  simp only [plains,Bool.and_eq_true] at p
  exact zbB p.2 e
theorem zbC (A:Around):A.in1.units=A.units+1:=rfl
theorem zcS (I:Inv X pins U H s):∀(n:Nat) (x y:PV) {v w:V}{u u':Value}(A:Around),dep x<=n->plain x=true->plain y=true->R X.K mg ρ H x v->R X.K mg ρ H y w->RelV v u->RelV w u'->A.units+n<cLine ->
  SeqAt.EqAt A s u u' (eqP x y)/\SeqAt.RcAt A s u u' (eqP x y)/\SeqAt.RcNeAt A s u u' (!eqP x y):=by
 intro n
 induction n with
 | zero =>
  intro x y v w u u' A hd px py rx ry rv rw hu
  cases x with
  | tup xs=>simp only [dep] at hd;omega
  | non =>
   cases rx;cases rv
   cases y with
   | non=>cases ry;cases rw;exact ⟨.same _,.none_none,.none_none⟩
   | bl b=>cases ry;cases rw;exact ⟨.none_bool b,.none_bool b,.none_bool b⟩
   | int b=>cases ry;obtain ⟨t,rfl⟩:=rw;exact ⟨.none_int b t,.none_int b t,.none_int b t⟩
   | str b=>cases ry;obtain ⟨t,rfl⟩:=rw;exact ⟨.none_str b t,.none_str b t,.none_str b t⟩
   | tup ys =>
    obtain ⟨p,ws,rfl,h1,h2⟩:=ry
    cases rw
    obtain ⟨its,_,pl,_⟩:=I.tuple h1
    exact ⟨.none_tuple pl (by omega),.none_tuple pl (by omega),.none_tuple pl (by omega)⟩
   | _=>cases py
  | bl a =>
   cases rx;cases rv
   cases y with
   | non=>cases ry;cases rw;exact ⟨.bool_none a,.bool_none a,.bool_none a⟩
   | bl b=>cases ry;cases rw;exact ⟨.bool_bool a b,.bool_bool a b,.bool_bool a b⟩
   | int b=>cases ry;obtain ⟨t,rfl⟩:=rw;exact ⟨.bool_int a b t,.bool_int a b t,.bool_int a b t⟩
   | str b=>cases ry;obtain ⟨t,rfl⟩:=rw;exact ⟨.bool_str a b t,.bool_str a b t,.bool_str a b t⟩
   | tup ys =>
    obtain ⟨p,ws,rfl,h1,h2⟩:=ry
    cases rw
    obtain ⟨its,_,pl,_⟩:=I.tuple h1
    exact ⟨.bool_tuple a pl (by omega),.bool_tuple a pl (by omega),.bool_tuple a pl (by omega)⟩
   | _=>cases py
  | int a =>
   cases rx;obtain ⟨t0,rfl⟩:=rv
   cases y with
   | non=>cases ry;cases rw;exact ⟨.int_none a t0,.int_none a t0,.int_none a t0⟩
   | bl b=>cases ry;cases rw;exact ⟨.int_bool a t0 b,.int_bool a t0 b,.int_bool a t0 b⟩
   | int b=>cases ry;obtain ⟨t,rfl⟩:=rw;exact ⟨.int_int a t0 b t,.int_int a t0 b t,.int_int a t0 b t⟩
   | str b=>cases ry;obtain ⟨t,rfl⟩:=rw;exact ⟨.int_str a t0 b t,.int_str a t0 b t,.int_str a t0 b t⟩
   | tup ys =>
    obtain ⟨p,ws,rfl,h1,h2⟩:=ry
    cases rw
    obtain ⟨its,_,pl,_⟩:=I.tuple h1
    exact ⟨.int_tuple a t0 pl (by omega),.int_tuple a t0 pl (by omega),.int_tuple a t0 pl (by omega)⟩
   | _=>cases py
  | str a =>
   cases rx;obtain ⟨t0,rfl⟩:=rv
   cases y with
   | non=>cases ry;cases rw;exact ⟨.str_none a t0,.str_none a t0,.str_none a t0⟩
   | bl b=>cases ry;cases rw;exact ⟨.str_bool a t0 b,.str_bool a t0 b,.str_bool a t0 b⟩
   | int b=>cases ry;obtain ⟨t,rfl⟩:=rw;exact ⟨.str_int a t0 b t,.str_int a t0 b t,.str_int a t0 b t⟩
   | str b=>cases ry;obtain ⟨t,rfl⟩:=rw;exact ⟨.str_str a t0 b t,.str_str a t0 b t,.str_str a t0 b t⟩
   | tup ys =>
    obtain ⟨p,ws,rfl,h1,h2⟩:=ry
    cases rw
    obtain ⟨its,_,pl,_⟩:=I.tuple h1
    exact ⟨.str_tuple a t0 pl (by omega),.str_tuple a t0 pl (by omega),.str_tuple a t0 pl (by omega)⟩
   | _=>cases py
  | _=>cases px
 | succ n ih =>
  intro x y v w u u' A hd px py rx ry rv rw hu
  cases x with
  | tup xs =>
   obtain ⟨a,vs,rfl,h1,h2⟩:=id rx
   cases rv
   obtain ⟨its,r1,p1,_⟩:=I.tuple h1
   cases y with
   | non=>cases ry;cases rw;exact ⟨.tuple_none p1 (by omega),.tuple_none p1 (by omega),.tuple_none p1 (by omega)⟩
   | bl b=>cases ry;cases rw;exact ⟨.tuple_bool b p1 (by omega),.tuple_bool b p1 (by omega),.tuple_bool b p1 (by omega)⟩
   | int b=>cases ry;obtain ⟨t,rfl⟩:=rw;exact ⟨.tuple_int b t p1 (by omega),.tuple_int b t p1 (by omega),.tuple_int b t p1 (by omega)⟩
   | str b=>cases ry;obtain ⟨t,rfl⟩:=rw;exact ⟨.tuple_str b t p1 (by omega),.tuple_str b t p1 (by omega),.tuple_str b t p1 (by omega)⟩
   | tup ys =>
    obtain ⟨b,ws,rfl,h3,h4⟩:=id ry
    cases rw
    obtain ⟨its2,r2,p2,_⟩:=I.tuple h3
    have l1:=h2.len
    have l2:=h4.len
    have l3:=r1.length
    have l4:=r2.length
    have item:∀j (g1:j<its.toArray.size) (g2:j<its2.toArray.size),SeqAt.EqAt A.in1 s its.toArray[j] its2.toArray[j] (eqJp xs ys j):=fun j g1 g2=>by
     have k1:j<xs.length:=by rw [l1,l3];simpa using g1
     have k2:j<ys.length:=by rw [l2,l4];simpa using g2
     obtain ⟨v1,e1,rr1⟩:=h2.get (List.getElem?_eq_getElem k1)
     obtain ⟨v2,e2,rr2⟩:=h4.get (List.getElem?_eq_getElem k2)
     obtain ⟨u1,f1,ru1⟩:=r1.get e1
     obtain ⟨u2,f2,ru2⟩:=r2.get e2
     have w1:its.toArray[j]=u1:=by
      obtain ⟨_,z⟩:=List.getElem?_eq_some_iff.mp f1
      simpa using z
     have w2:its2.toArray[j]=u2:=by
      obtain ⟨_,z⟩:=List.getElem?_eq_some_iff.mp f2
      simpa using z
     have ej:eqJp xs ys j=eqP xs[j] ys[j]:=by
      unfold eqJp
      rw [List.getElem?_eq_getElem k1,List.getElem?_eq_getElem k2]
     rw [w1,w2,ej]
     have hdj:=zcR (List.getElem?_eq_getElem k1)
     simp only [dep] at hd
     exact (ih xs[j] ys[j] A.in1 (by omega) (zbB px (List.getElem?_eq_getElem k1)) (zbB py (List.getElem?_eq_getElem k2)) rr1 rr2 ru1 ru2 (by rw [zbC];omega)).1
    have eall:((List.range (min its.toArray.size its2.toArray.size)).all (eqJp xs ys)&&its.toArray.size==its2.toArray.size)=eqP (.tup xs) (.tup ys):=by
     have e:=zfi xs ys
     rw [l1,l2,l3,l4] at e
     simpa [eqP] using e
    have rc:SeqAt.RcAt A s (.ref a) (.ref b) (eqP (.tup xs) (.tup ys)):=by
     rw [<-eall]
     exact SeqAt.RcAt.tuples (show s.heap.IsTuple a its.toArray from p1) (show s.heap.IsTuple b its2.toArray from p2) (by omega) item
    refine ⟨?_,rc,?_⟩
    ·by_cases hab:a=b
     ·subst hab
      rw [zfh I (.tup xs) (.tup ys) px py rx ry]
      exact .same _
     ·exact .of_refs hab rc
    ·rw [<-eall]
     exact SeqAt.RcNeAt.tuples (show s.heap.IsTuple a its.toArray from p1) (show s.heap.IsTuple b its2.toArray from p2) (by omega) item
   | _=>cases py
  | non=>exact ih _ y A (Nat.zero_le _) px py rx ry rv rw (by omega)
  | bl a=>exact ih _ y A (Nat.zero_le _) px py rx ry rv rw (by omega)
  | int a=>exact ih _ y A (Nat.zero_le _) px py rx ry rv rw (by omega)
  | str a=>exact ih _ y A (Nat.zero_le _) px py rx ry rv rw (by omega)
  | _=>cases px
def yq:PV->PV->Mo PV:=fun x y st=>if plain x=true/\plain y=true/\dep x<=150 then .ok (.bl (eqP x y)) st else .stuck
def j0:PV->PV->Mo PV:=fun x y st=>if plain x=true/\plain y=true/\dep x<=150 then .ok (.bl (!eqP x y)) st else .stuck
def zfj (K:Frag) (mg:Str->Option Value) (f:Bool->Bool):R2:=fun v w H Q=>∃ρ x y,plain x=true/\plain y=true/\dep x<=150/\R K mg ρ H x v/\R K mg ρ H y w/\Q (.bl (f (eqP x y))) H
theorem zk7 (hu:X.A.units+200<cLine):OpR X (compareOp .Eq) (zfj X.K X.mg id):=by
 intro pins s U H x y v u Q I rx ry h
 obtain ⟨ρ,a,b,pa,pb,hd,ra,rb,q⟩:=h
 exact PySem.EqBoolInt.of_rc (zcS I 150 a b X.A hd pa pb ra rb rx ry (by omega)).2.1 ⟨.bl _,H,I,rfl,q⟩
theorem zk8 (hu:X.A.units+200<cLine):OpR X (compareOp .NotEq) (zfj X.K X.mg not):=by
 intro pins s U H x y v u Q I rx ry h
 obtain ⟨ρ,a,b,pa,pb,hd,ra,rb,q⟩:=h
 exact PySem.EqBoolInt.of_rcne (zcS I 150 a b X.A hd pa pb ra rb rx ry (by omega)).2.2 ⟨.bl _,H,I,rfl,q⟩
theorem yJ (hu:X.A.units+200<cLine):CmpOk X .Eq yq:=⟨_,zk7 hu,fun ρ H st x y v w Q E s rx ry h=>by
 obtain ⟨⟨p1,p2,p3⟩,h⟩:=Out.ifp h
 exact ⟨ρ,x,y,p1,p2,p3,rx,ry,h.now s _ rfl⟩⟩
theorem zbD (hu:X.A.units+200<cLine):CmpOk X .NotEq j0:=⟨_,zk8 hu,fun ρ H st x y v w Q E s rx ry h=>by
 obtain ⟨⟨p1,p2,p3⟩,h⟩:=Out.ifp h
 exact ⟨ρ,x,y,p1,p2,p3,rx,ry,h.now s _ rfl⟩⟩
end
section
variable {X:Cx}{Er:XK}{K:Frag}{mg:Str->Option Value}{a b c e:Expr}{es:List Expr}{pos:Pos}{fa fb fc:zc->Mo PV}{fs:zc->Mo (List PV)}
def tMO (K:Frag) (mg:Str->Option Value) (Er:XK) (f:zc->Mo (Option Int)):TO:=fun U H Q=>∃env st ρ,EnvR K mg ρ H env U/\StR K mg ρ H st/\Out K mg ρ H (f env st) (fun _ H' o _=>Q o H') Er
def MO (X:Cx) (Er:XK) (e:Option Expr) (f:zc->Mo (Option Int)):Prop:=PO X e (tMO X.K X.mg Er f)
def pNone:zc->Mo (Option Int):=fun _ st=>.ok none st
def asI:PV->Mo (Option Int)
 | .int i,st=>.ok (some i) st
 | _,_=>.stuck
def pSome (f:zc->Mo PV):zc->Mo (Option Int):=fun env st=>(f env st).bind asI
theorem PO.weak {o:Option Expr}{t t':TO}(h:PO X o t) (w:∀U H Q,t' U H Q->t U H Q):PO X o t':=fun pins s U H Q I q=>h pins s U H Q I (w U H Q q)
theorem zla:MO X Er none pNone:=PO.weak zjx fun U H Q ⟨env,st,ρ,re,rs,h⟩=>h.now rs
theorem zaK (h:ME X Er e fa):MO X Er (some e) (pSome fa):=PO.weak (zjy h) fun U H Q ⟨env,st,ρ,re,rs,h⟩=>⟨env,st,ρ,re,rs,h.then fun af H1 x st1 e1 s1 h1 v rv=>by
 cases x with
 | int i=>cases rv;exact ⟨i,rfl,Out.now (x:=some i) h1 s1⟩
 | _=>exact False.elim h1⟩
def cutP (xs:List PV) (lo hi:Option Int):List PV:=(xs.drop (HT.sIx xs.length 0 lo)).take (HT.sIx xs.length xs.length hi-HT.sIx xs.length 0 lo)
def oSl:PV->Option Int->Option Int->Mo PV
 | .tup xs,lo,hi,st=>.ok (.tup (cutP xs lo hi)) st
 | .frl xs,lo,hi,st=>.ok (.ref st.length) (st++[.lst (cutP xs lo hi)])
 | .ref n,lo,hi,st=>z9 st n fun xs=>.ok (.ref st.length) (st++[.lst (cutP xs lo hi)])
 | .str z,lo,hi,st=>if z.length<=lim then .ok (.str (Txt.slice z lo hi)) st else .stuck
 | _,_,_,_=>.stuck
theorem Rs.cut {ρ:List Addr}{H:Hp}{xs:List PV}{vs:List V}(r:Rs K mg ρ H xs vs) (lo hi:Option Int):Rs K mg ρ H (cutP xs lo hi) (cutV vs lo hi):=by
 unfold cutP cutV
 rw [r.len]
 exact (r.drop _).take _
def zlb (K:Frag):V->Option Int->Option Int->Hp->VK->Prop:=fun x lo hi H Q=>∃a xs,x=.ref a/\SqT K H a xs/\(HT.sIx xs.length 0 lo=0/\HT.sIx xs.length xs.length hi=xs.length)/\Q (.ref a) H
theorem zlc:SlR X (zlb X.K):=by
 intro pins s U H x v vl vu lo hi sl Q I rx hs pl pu h
 obtain ⟨a,xs,rfl,hx,hw,q⟩:=h
 cases rx
 obtain ⟨its,r,ht,hz⟩:=I.tuple hx
 have hlen:its.toArray.size=xs.length:=by rw [List.size_toArray];exact r.length.symm
 refine ⟨"tuple", _,PyProof.Rows.slot_tuple_getitem.lookup,ht.typeIs,?_⟩
 exact HT.getItem_tuple_all ht hs pl pu (by rw [hlen];exact hw) ⟨.ref a,H,I,rfl,q⟩ (by rw [hlen];exact hz)
def wK (fa:zc->Mo PV) (fl fu:zc->Mo (Option Int)):zc->Mo PV:=fun env st=>(fa env st).bind fun x st1=>(fl env st1).bind fun l st2=>(fu env st2).bind fun u st3=>oSl x l u st3
theorem zcT {lo hi:Option Expr}{fl fu:zc->Mo (Option Int)}{p2:Pos}(ha:ME X Er a fa) (hl:MO X Er lo fl) (hu:MO X Er hi fu):ME X Er (.Subscript a (.Slice lo hi none p2) pos) (wK fa fl fu) :=
 PE.weak (zjA (zjC.or (zlc.or (zjO.or zj7))) ha hl hu) fun U H Q ⟨env,st,ρ,re,rs,h⟩=>⟨env,st,ρ,re,rs,h.then fun af H1 x st1 e1 s1 h1 v rv=>⟨env,st1,af,re.ext e1,s1,h1.then fun ak H2 l st2 e2 s2 h2 =>
  ⟨env,st2,ak,(re.ext e1).ext e2,s2,h2.then fun am H3 u st3 e3 s3 h3=>by
  have rv:=R.ext e3 x (R.ext e2 x rv)
  cases x with
  | tup xs =>
   obtain ⟨p,vs,rfl,k1,k2⟩:=rv
   by_cases hw:HT.sIx vs.length 0 l=0/\HT.sIx vs.length vs.length u=vs.length
   ·refine .inr (.inl ⟨p,vs,rfl,k1,hw,Out.now (x:=PV.tup (cutP xs l u)) h3 s3 _ ⟨p,vs,rfl,k1,?_⟩⟩)
    have:cutP xs l u=xs:=by
     unfold cutP
     rw [k2.len,hw.1,hw.2]
     simp [<-k2.len]
    rw [this];exact k2
   ·exact .inl ⟨p,vs,rfl,k1,hw,fun q hq=>h3 am _ (Ext.new hq) (s3.new hq) _ (R.tup_of (k2.cut l u) hq)⟩
  | frl xs =>
   obtain ⟨p,vs,rfl,k1,k2⟩:=rv
   exact .inr (.inr (.inl ⟨p,vs,rfl,k1.sq,fun q hq=>Out.newList (xs:=cutP xs l u) h3 s3 (k2.cut l u) hq⟩))
  | ref n =>
   obtain ⟨p,rfl,hp⟩:=rv
   obtain ⟨xs,k0,h3⟩:=yW h3
   obtain ⟨vs,k1,k2⟩:=s3.addr k0 hp
   exact .inr (.inr (.inl ⟨p,vs,rfl,SqL.of k1,fun q hq=>Out.newList (xs:=cutP xs l u) h3 s3 (k2.cut l u) hq⟩))
  | str z =>
   cases rv
   obtain ⟨k0,h3⟩:=Out.ifp h3
   exact .inr (.inr (.inr ⟨z,rfl,yz k0,h3.now s3 _ rfl⟩))
  | _=>exact False.elim h3⟩⟩⟩
def CallM (K:Frag) (mg:Str->Option Value) (r:List V->Hp->VK->Prop) (op:List PV->Mo PV):Prop:=∀ρ H st xs vs (Q:VK) (E:XK),StR K mg ρ H st->Rs K mg ρ H xs vs->Out K mg ρ H (op xs st) (gV K mg Q) E->r vs H Q
def BltOk (X:Cx) (f:Value) (op:List PV->Mo PV):Prop:=∃r,CallR X f r/\CallM X.K X.mg r op
def zm (op:List PV->Mo PV) (fs:zc->Mo (List PV)):zc->Mo PV:=fun env st=>(fs env st).bind op
theorem zY {x:Str} {id:String} {op:List PV->Mo PV} {p:Pos} (h:BltOk X (.builtin id) op) (hm:X.mg x=none) (hv:bootBuiltins x=some (.builtin id)) (ha:MA X Er (e::es) fs) (hg:Gl X x:=by rfl) (hn:x ≠ "__name__" := by decide) (hdb:(x==("__debug__" : Str))=false:=by decide)
  (he:starEach (e::es) X.env=(false,eval e X.env)::starEach es X.env:=by rfl) (hpl:(backTo pos (starEach es X.env)).any (·.1)=false:=by rfl):ME X Er (.Call (.Name x p) (e::es) [] pos) (zm op fs):=by
 obtain ⟨r,h1,h2⟩:=h
 exact PE.weak (zjp h1 hg hm hv ha hn hdb he hpl) fun U H Q ⟨env,st,ρ,re,rs,h⟩=>⟨env,st,ρ,re,rs,h.then fun af H1 xs st1 e1 s1 k vs rv=>h2 af H1 st1 xs vs Q Er s1 rv k⟩
theorem j1 {x:Str} {T:String} {op:List PV->Mo PV} {p:Pos} (h:BltOk X (.type T) op) (hm:X.mg x=none) (hv:bootBuiltins x=some (.type T)) (ha:MA X Er (e::es) fs) (hg:Gl X x:=by rfl) (hn:x ≠ "__name__" := by decide) (hdb:(x==("__debug__" : Str))=false:=by decide)
  (he:starEach (e::es) X.env=(false,eval e X.env)::starEach es X.env:=by rfl) (hpl:(backTo pos (starEach es X.env)).any (·.1)=false:=by rfl):ME X Er (.Call (.Name x p) (e::es) [] pos) (zm op fs):=by
 obtain ⟨r,h1,h2⟩:=h
 exact PE.weak (zjq h1 hg hm hv ha hn hdb he hpl) fun U H Q ⟨env,st,ρ,re,rs,h⟩=>⟨env,st,ρ,re,rs,h.then fun af H1 xs st1 e1 s1 k vs rv=>h2 af H1 st1 xs vs Q Er s1 rv k⟩
theorem yC {x:Str} {n:String} (hm:X.mg x=none) (hv:bootBuiltins x=some (.type n)) (hg:Gl X x:=by rfl) (hn:x ≠ "__name__" := by decide) (hd:(x==("__debug__" : Str))=false:=by decide):ME X Er (.Name x pos) (mC (.ty n)) :=
 zaF (zhX (v:=.ty n) hg hm hv rfl hn hd) fun _ _=>rfl
theorem Rs.one {ρ:List Addr}{H:Hp}{x:PV}{vs:List V}(r:Rs K mg ρ H [x] vs):∃v,vs=[v]/\R K mg ρ H x v:=by
 obtain ⟨v,r',rfl,h,h'⟩:=r
 cases h'
 exact ⟨v,rfl,h⟩
theorem Rs.two {ρ:List Addr}{H:Hp}{x y:PV}{vs:List V}(r:Rs K mg ρ H [x,y] vs):∃v w,vs=[v,w]/\R K mg ρ H x v/\R K mg ρ H y w:=by
 obtain ⟨v,r',rfl,h,h'⟩:=r
 obtain ⟨w,rfl,h2⟩:=Rs.one h'
 exact ⟨v,w,rfl,h,h2⟩
def zbE:List PV->Mo PV
 | [.tup xs],st=>.ok (.int xs.length) st
 | [.frl xs],st=>.ok (.int xs.length) st
 | [.str z],st=>if z.length<=lim then .ok (.int z.length) st else .stuck
 | [.ref n],st=>z9 st n fun xs=>.ok (.int xs.length) st
 | _,_=>.stuck
theorem zld:BltOk X (.builtin "len") zbE:=⟨_,ziZ,fun ρ H st xs vs Q E s r h=>by
 match xs,r,h with
 | [.tup ys],r,h =>
  obtain ⟨v,rfl,p,ws,rfl,h1,h2⟩:=Rs.one r
  exact ⟨_,ws.length,rfl,.inr ⟨ws,h1,rfl⟩,by rw [<-h2.len];exact Out.now (x:=PV.int ys.length) h s _ rfl⟩
 | [.frl ys],r,h =>
  obtain ⟨v,rfl,p,ws,rfl,h1,h2⟩:=Rs.one r
  exact ⟨_,ws.length,rfl,.inl ⟨ws,h1.sq,rfl⟩,by rw [<-h2.len];exact Out.now (x:=PV.int ys.length) h s _ rfl⟩
 | [.str z],r,h =>
  obtain ⟨v,rfl,rfl⟩:=Rs.one r
  obtain ⟨c,h⟩:=Out.ifp h
  exact ⟨_,z.length,rfl,⟨yz c,rfl⟩,h.now s _ rfl⟩
 | [.ref n],r,h =>
  obtain ⟨v,rfl,p,rfl,hp⟩:=Rs.one r
  obtain ⟨ys,e,h⟩:=yW h
  obtain ⟨ws,h1,h2⟩:=s.addr e hp
  exact ⟨_,ws.length,rfl,.inl ⟨ws,SqL.of h1,rfl⟩,by rw [<-h2.len];exact h.now s _ rfl⟩
 | [],r,h=>exact False.elim h
 | [.non],r,h=>exact False.elim h
 | [.bl _],r,h=>exact False.elim h
 | [.int _],r,h=>exact False.elim h
 | [.ty _],r,h=>exact False.elim h
 | [.fn _],r,h=>exact False.elim h
 | [.kd _ _],r,h=>exact False.elim h
 | [.exo _ _ _],r,h=>exact False.elim h
 | x::y::r',r,h=>cases x<;>exact False.elim h⟩
def wL:List PV->Mo PV
 | [.tup xs],st=>.ok (.tup xs) st
 | [.frl xs],st=>.ok (.tup xs) st
 | [.ref n],st=>z9 st n fun xs=>.ok (.tup xs) st
 | _,_=>.stuck
theorem zaM:BltOk X (.type "tuple") wL:=⟨_,zjP,fun ρ H st xs vs Q E s r h=>by
 match xs,r,h with
 | [.tup ys],r,h =>
  obtain ⟨v,rfl,p,ws,rfl,h1,h2⟩:=Rs.one r
  exact ⟨p,ws,rfl,.inr ⟨h1,Out.now (x:=PV.tup ys) h s _ ⟨p,ws,rfl,h1,h2⟩⟩⟩
 | [.frl ys],r,h =>
  obtain ⟨v,rfl,p,ws,rfl,h1,h2⟩:=Rs.one r
  exact ⟨p,ws,rfl,.inl ⟨h1.sq,fun l hl=>h ρ _ (Ext.new hl) (s.new hl) _ (R.tup_of h2 hl)⟩⟩
 | [.ref n],r,h =>
  obtain ⟨v,rfl,p,rfl,hp⟩:=Rs.one r
  obtain ⟨ys,e,h⟩:=yW h
  obtain ⟨ws,h1,h2⟩:=s.addr e hp
  exact ⟨p,ws,rfl,.inl ⟨SqL.of h1,fun l hl=>h ρ _ (Ext.new hl) (s.new hl) _ (R.tup_of h2 hl)⟩⟩
 | [],r,h=>exact False.elim h
 | [.non],r,h=>exact False.elim h
 | [.bl _],r,h=>exact False.elim h
 | [.int _],r,h=>exact False.elim h
 | [.str _],r,h=>exact False.elim h
 | [.ty _],r,h=>exact False.elim h
 | [.fn _],r,h=>exact False.elim h
 | [.kd _ _],r,h=>exact False.elim h
 | [.exo _ _ _],r,h=>exact False.elim h
 | x::y::r',r,h=>cases x<;>exact False.elim h⟩
def tyb (T n:String):Option Bool :=
 if T = "int" then (if n = "int" then some true else if n = "bool" \/ n = "str" \/ n = "tuple" \/ n = "dict" \/ n = "list" then some false else none)
 else if T = "bool" then (if n = "int" \/ n = "bool" then some true else if n = "str" \/ n = "tuple" \/ n = "dict" \/ n = "list" then some false else none)
 else if T = "str" then (if n = "str" then some true else if n = "int" \/ n = "bool" \/ n = "tuple" \/ n = "dict" \/ n = "list" then some false else none)
 else if T = "tuple" then (if n = "tuple" then some true else if n = "int" \/ n = "bool" \/ n = "str" \/ n = "dict" \/ n = "list" then some false else none)
 else if T = "list" then (if n = "list" then some true else if n = "int" \/ n = "bool" \/ n = "str" \/ n = "dict" \/ n = "tuple" then some false else none)
 else if T = "dict" then (if n = "dict" then some true else if n = "int" \/ n = "bool" \/ n = "str" \/ n = "list" \/ n = "tuple" then some false else none)
 else if T = "NoneType" then (if n = "int" \/ n = "bool" \/ n = "str" \/ n = "list" \/ n = "tuple" \/ n = "dict" then some false else none)
 else none
theorem zle (K:Frag) {T n:String}{b:Bool}(h:tyb T n=some b):PySem.W.kitOne K (.type T) (.type n)=some b:=by
 unfold tyb at h
 split at h
 ·rename_i e;subst e
  split at h
  ·rename_i e;subst e;cases h;first|rfl|kernel_rfl
  ·split at h
   ·rename_i e;cases h;rcases e with e|e|e|e|e<;>subst e<;>first|rfl|kernel_rfl
   ·cases h
 ·split at h
  ·rename_i e;subst e
   split at h
   ·rename_i e;cases h;rcases e with e|e<;>subst e<;>first|rfl|kernel_rfl
   ·split at h
    ·rename_i e;cases h;rcases e with e|e|e|e<;>subst e<;>first|rfl|kernel_rfl
    ·cases h
  ·split at h
   ·rename_i e;subst e
    split at h
    ·rename_i e;subst e;cases h;first|rfl|kernel_rfl
    ·split at h
     ·rename_i e;cases h;rcases e with e|e|e|e|e<;>subst e<;>first|rfl|kernel_rfl
     ·cases h
   ·split at h
    ·rename_i e;subst e
     split at h
     ·rename_i e;subst e;cases h;first|rfl|kernel_rfl
     ·split at h
      ·rename_i e;cases h;rcases e with e|e|e|e|e<;>subst e<;>first|rfl|kernel_rfl
      ·cases h
    ·split at h
     ·rename_i e;subst e
      split at h
      ·rename_i e;subst e;cases h;first|rfl|kernel_rfl
      ·split at h
       ·rename_i e;cases h;rcases e with e|e|e|e|e<;>subst e<;>first|rfl|kernel_rfl
       ·cases h
     ·split at h
      ·rename_i e;subst e
       split at h
       ·rename_i e;subst e;cases h;first|rfl|kernel_rfl
       ·split at h
        ·rename_i e;cases h;rcases e with e|e|e|e|e<;>subst e<;>first|rfl|kernel_rfl
        ·cases h
      ·split at h
       ·rename_i e;subst e
        split at h
        ·rename_i e;cases h;rcases e with e|e|e|e|e|e<;>subst e<;>first|rfl|kernel_rfl
        ·cases h
       ·cases h
end
def spM (K:Frag) (mg:Str->Option Value) (m:List PV->Mo PV):Sp:=fun vs H Q E=>∃xs st ρ,Rs K mg ρ H xs vs/\StR K mg ρ H st/\Out K mg ρ H (m xs st) (gV K mg Q) E
section
variable (P:Program) (w:World) (K:Frag) (mg:Str->Option Value) (base:Heap)
def FOk (x:Str) (k:Nat) (m:List PV->Mo PV):Prop:=∃f fd ps,mg x=some (.ref f)/\keepIn K (.ref f)=true/\Binds K fd ps []/\FnOk P w K mg base (CXe P w) k f fd ps (spM K mg m)
def MOk (c name:Str) (k:Nat) (m:List PV->Mo PV):Prop:=∃C f fd ps,mg c=some (.ref C)/\Cls K C/\Meth K C name f/\Binds K fd ps []/\FnOk P w K mg base (CXe P w) k f fd ps (spM K mg m)
def NOk (c:Str) (k:Nat) (m:List PV->Mo PV):Prop:=∃C f fd ps,mg c=some (.ref C)/\Mk K C f/\Binds K fd ps []/\FnOk P w K mg base (CXe P w) k f fd ps (spM K mg m)
end
section
variable {X:Cx}{Er:XK}{K:Frag}{mg:Str->Option Value}{a b c e o:Expr}{es:List Expr}{pos p apos:Pos}{fa fb fc fo:zc->Mo PV}{fs:zc->Mo (List PV)}{k:Nat}{x:Str}{m:List PV->Mo PV}
theorem zN (C:FOk X.prog X.w X.K X.mg X.base x k m) (hr:Room k X.A) (ht:jq X Er) (ha:MA X Er (e::es) fs) (hg:Gl X x:=by rfl) (hdb:(x==("__debug__" : Str))=false:=by decide)
  (he:starEach (e::es) X.env=(false,eval e X.env)::starEach es X.env:=by rfl) (hpl:(backTo pos (starEach es X.env)).any (·.1)=false:=by rfl):ME X Er (.Call (.Name x p) (e::es) [] pos) (zm m fs):=by
 obtain ⟨f,fd,ps,hm,hk,hb,F⟩:=C
 exact PE.weak (zjk F hr hg hm hk hb .nil (zbn ht) ha hdb he hpl) fun U H Q ⟨env,st,ρ,re,rs,h⟩=>⟨env,st,ρ,re,rs,h.then fun af H1 xs st1 e1 s1 k vs rv=>by
  show spM X.K X.mg m (vs++[]) H1 Q Er
  rw [List.append_nil]
  exact ⟨xs,st1,af,rv,s1,k⟩⟩
theorem j2 {ρ:List Addr}{H:Hp}{f:Str}:∀{ks:List Str}{xs:List PV}{vs:List V}{x:PV},Rs K mg ρ H xs vs->(ks.zip xs).lookup f=some x->∃v,(ks.zip vs).lookup f=some v/\R K mg ρ H x v
 | [],_,_,_,_,h=>by simp at h
 | k::ks,[],_,_,_,h=>by simp at h
 | k::ks,y::xs,_,x,r,h=>by
  obtain ⟨v,r',rfl,h1,h2⟩:=r
  simp only [List.zip_cons_cons,List.lookup_cons] at h ⊢
  split at h
  ·cases h;exact ⟨v,rfl,h1⟩
  ·exact j2 h2 h
theorem zaN {f:Str}{β:Type}:∀{ks:List Str}{vs:List β},f∉ks->(ks.zip vs).lookup f=none
 | [],_,_=>by simp
 | k::ks,[],_=>by simp
 | k::ks,v::vs,h=>by
  simp only [List.mem_cons,not_or] at h
  simp only [List.zip_cons_cons,List.lookup_cons]
  have:(f==k)=false:=by simpa using h.1
  rw [this]
  exact zaN h.2
def zfk (X:Cx) (name:Str) (k:Nat) (E:XK) (ta:TE) (t:TA):TE:=fun U H Q=>ta U H fun x H1=>∃a C dx fs f fd ps sp,x=.ref a/\H1 a=some (.ins C dx fs)/\fs.lookup name=none/\Cls X.K C/\Meth X.K C name f/\Binds X.K fd ps []/\FnOk X.prog X.w X.K X.mg X.base (CXe X.prog X.w) k f fd ps sp /\
 t U H1 fun vs H2=>sp (x::vs) H2 Q E
theorem zlf {pl:Sem Bool}{name:Str}{ta:TE}{t:TA}{E:XK}(he:PE X o ta) (hr:Room k X.A) (hx:Passes (CXe X.prog X.w) X E) (ha:PA X (e::es) t)
  (hst:starEach (e::es) X.env=(false,eval e X.env)::starEach es X.env:=by rfl) (hpl:(backTo pos (starEach es X.env)).any (·.1)=false:=by rfl)
  (ht:eval (.Call (.Attribute o name apos) (e::es) [] pos) X.env=(do
   let ov <-eval o X.env
   standAt apos.atName
   let (f,first) <-holding [ov] (getMethod ov name pl)
   callWith pos f first (backTo pos (starEach (e::es) X.env)) (backToKw pos (keywordEach [] X.env))):=by rfl) :
  PE X (.Call (.Attribute o name apos) (e::es) [] pos) (zfk X name k E ta t):=by
 intro pins s U H Q I h
 refine PySem.W.methodCall_KW (pl:=pl) (thn (he pins s U H _ I h) fun u s1 ⟨x,H1,I1,rx,a,C,dx,fs,f,fd,ps,sp,ex,ea,l,c,hm,hb,F,q⟩=>?_) ht
 subst ex
 obtain rfl:u=Value.ref a:=rx
 refine zet I1 ea c hm l ?_
 refine PySem.W.callWith_K (first:=[.ref a]) (h₀:=X.base) I.ok.mod.kin hm.kp (thn (ha pos pins s1 U H1 _ I1 q) fun us s2 ⟨vs,H2,I2,r,q2⟩=>⟨I2.kIn,?_⟩) hst hpl
 exact zcx (us:=.ref a::us) (vs:=.ref a::vs) F hr hb .nil hx I2 (.cons rfl r) (by rw [List.append_nil];exact q2)
theorem zlg {pl:Sem Bool}{name:Str}{ta:TE}{E:XK}(he:PE X o ta) (hr:Room k X.A) (hx:Passes (CXe X.prog X.w) X E)
  (ht:eval (.Call (.Attribute o name apos) [] [] pos) X.env=(do
   let ov <-eval o X.env
   standAt apos.atName
   let (f,first) <-holding [ov] (getMethod ov name pl)
   callWith pos f first (backTo pos (starEach [] X.env)) (backToKw pos (keywordEach [] X.env))):=by rfl) :
  PE X (.Call (.Attribute o name apos) [] [] pos) (zfk X name k E ta zev):=by
 intro pins s U H Q I h
 refine PySem.W.methodCall_KW (pl:=pl) (thn (he pins s U H _ I h) fun u s1 ⟨x,H1,I1,rx,a,C,dx,fs,f,fd,ps,sp,ex,ea,l,c,hm,hb,F,q⟩=>?_) ht
 subst ex
 obtain rfl:u=Value.ref a:=rx
 refine zet I1 ea c hm l ?_
 exact PySem.W.callWith_K0 (first:=[.ref a]) I1.kIn hm.kp (zcx (us:=[.ref a]) (vs:=[.ref a]) F hr hb .nil hx I1 (.cons rfl .nil) (by rw [List.append_nil];exact q))
def methAt (name:Str) (tab:Str->Option (List PV->Mo PV)) (o:PV) (st:Sto) (k:Nat->(List PV->Mo PV)->Res PV):Res PV:=match o with
 | .ref n=>yh st n fun c ks _=>if name∈ks then .stuck else match tab c with
  | some m=>k n m
  | none=>.stuck
 | _=>.stuck
def zX (name:Str) (tab:Str->Option (List PV->Mo PV)) (fo:zc->Mo PV) (fs:zc->Mo (List PV)):zc->Mo PV:=fun env st=>(fo env st).bind fun o st1=>methAt name tab o st1 fun n m=>(fs env st1).bind fun ys st2=>m (.ref n::ys) st2
theorem zfl {name:Str}{tab:Str->Option (List PV->Mo PV)}{o:PV}{st:Sto}{kk:Nat->(List PV->Mo PV)->Res PV}{ρ:List Addr}{H:Hp}{good}(h:Out K mg ρ H (methAt name tab o st kk) good Er) :
  ∃n c ks xs m,o=.ref n/\st[n]?=some (.ins c ks xs)/\name∉ks/\tab c=some m/\Out K mg ρ H (kk n m) good Er:=by
 cases o with
 | ref n =>
  obtain ⟨c,ks,xs,e,h⟩:=zby h
  split at h
  ·exact False.elim h
  ·rename_i hn
   cases hc:tab c with
   | none=>rw [hc] at h;exact False.elim h
   | some m=>rw [hc] at h;exact ⟨n,c,ks,xs,m,rfl,e,hn,hc,h⟩
 | _=>exact False.elim h
theorem yS {pl:Sem Bool}{name:Str}{tab:Str->Option (List PV->Mo PV)}(hT:∀c m,tab c=some m->MOk X.prog X.w X.K X.mg X.base c name k m) (ho:ME X Er o fo) (hr:Room k X.A) (ht:jq X Er) (ha:MA X Er (e::es) fs)
  (hst:starEach (e::es) X.env=(false,eval e X.env)::starEach es X.env:=by rfl) (hpl:(backTo pos (starEach es X.env)).any (·.1)=false:=by rfl)
  (hev:eval (.Call (.Attribute o name apos) (e::es) [] pos) X.env=(do
   let ov <-eval o X.env
   standAt apos.atName
   let (f,first) <-holding [ov] (getMethod ov name pl)
   callWith pos f first (backTo pos (starEach (e::es) X.env)) (backToKw pos (keywordEach [] X.env))):=by rfl) :
  ME X Er (.Call (.Attribute o name apos) (e::es) [] pos) (zX name tab fo fs) :=
 PE.weak (zlf (pl:=pl) ho hr (zbn ht) ha hst hpl hev) fun U H Q ⟨env,st,ρ,re,rs,h⟩=>⟨env,st,ρ,re,rs,h.then fun af H1 x st1 e1 s1 h1 v rv=>by
  obtain ⟨n,c,ks,xs,m,rfl,hn,hk,hc,h1⟩:=zfl h1
  obtain ⟨C,f,fd,ps,hC,cl,hm,hb,F⟩:=hT c m hc
  obtain ⟨p,rfl,hp⟩:=rv
  obtain ⟨C',dx,vs,hC',hH,hR,hl⟩:=s1.addr hn hp
  rw [hC] at hC'
  cases hC'
  exact ⟨p,C,dx,_,f,fd,ps,_,rfl,hH,zaN hk,cl,hm,hb,F,env,st1,af,re.ext e1,s1,Out.then h1 fun ak H2 ys st2 e2 s2 h2 ws rws=>⟨.ref n::ys,st2,ak,⟨_,_,rfl,⟨p,rfl,e2.get hp⟩,rws⟩,s2,h2⟩⟩⟩
theorem jx {pl:Sem Bool}{name:Str}{tab:Str->Option (List PV->Mo PV)}(hT:∀c m,tab c=some m->MOk X.prog X.w X.K X.mg X.base c name k m) (ho:ME X Er o fo) (hr:Room k X.A) (ht:jq X Er)
  (hev:eval (.Call (.Attribute o name apos) [] [] pos) X.env=(do
   let ov <-eval o X.env
   standAt apos.atName
   let (f,first) <-holding [ov] (getMethod ov name pl)
   callWith pos f first (backTo pos (starEach [] X.env)) (backToKw pos (keywordEach [] X.env))):=by rfl) :
  ME X Er (.Call (.Attribute o name apos) [] [] pos) (zX name tab fo zj) :=
 PE.weak (zlg (pl:=pl) ho hr (zbn ht) hev) fun U H Q ⟨env,st,ρ,re,rs,h⟩=>⟨env,st,ρ,re,rs,h.then fun af H1 x st1 e1 s1 h1 v rv=>by
  obtain ⟨n,c,ks,xs,m,rfl,hn,hk,hc,h1⟩:=zfl h1
  obtain ⟨C,f,fd,ps,hC,cl,hm,hb,F⟩:=hT c m hc
  obtain ⟨p,rfl,hp⟩:=rv
  obtain ⟨C',dx,vs,hC',hH,hR,hl⟩:=s1.addr hn hp
  rw [hC] at hC'
  cases hC'
  exact ⟨p,C,dx,_,f,fd,ps,_,rfl,hH,zaN hk,cl,hm,hb,F,⟨[.ref n],st1,af,⟨_,_,rfl,⟨p,rfl,hp⟩,rfl⟩,s1,h1⟩⟩⟩
def newI (c:Str) (m:List PV->Mo PV) (ys:List PV):Mo PV:=fun st=>(m (.ref st.length::ys) (st++[.ins c [] []])).bind fun r st2=>if isNon r=true then .ok (.ref st.length) st2 else .stuck
theorem zlh {x:PV}(h:isNon x=true):x=.non:=by cases x<;>first|rfl|cases h
theorem zli {cn:Str}{C f:Addr}{ρ:List Addr}{H:Hp}{st:Sto}{ys:List PV}{vs:List V}{Q:VK}(hC:mg cn=some (.ref C)) (s:StR K mg ρ H st) (r:Rs K mg ρ H ys vs) (h:Out K mg ρ H (newI cn m ys st) (gV K mg Q) Er) :
  ∀x dx,H x=none->H dx=none->dx≠x->spM K mg m (.ref x::vs) (upd (upd H dx (.own x)) x (.ins C dx [])) (fun v H2=>v=.non/\Q (.ref x) H2) Er:=fun x dx hx hdx ne=>by
 have hx':upd H dx (.own x) x=none:=by rw [zD (Ne.symm ne)];exact hx
 have s1:=s.new (o:=.own x) hdx
 have e1:Ext ρ H ρ (upd H dx (.own x)):=Ext.new hdx
 have e2:Ext ρ H (ρ++[x]) (upd (upd H dx (.own x)) x (.ins C dx [])):=e1.trans (Ext.push hx')
 have s2:StR K mg (ρ++[x]) (upd (upd H dx (.own x)) x (.ins C dx [])) (st++[.ins cn [] []]):=s1.push hx' ⟨C,dx,[],hC,yn,rfl,rfl⟩
 have gx:(ρ++[x])[st.length]?=some x:=by rw [<-s.len];simp
 refine ⟨.ref st.length::ys,_,ρ++[x],⟨_,_,rfl,⟨x,rfl,gx⟩,Rs.ext e2 ys r⟩,s2,Out.then (Out.ext h e2) fun am H3 r3 st3 e3 s3 h3 v rv=>?_⟩
 obtain ⟨hn,h3⟩:=Out.ifp h3
 obtain rfl:=zlh hn
 exact ⟨rv,h3.now s3 _ ⟨x,rfl,e3.get gx⟩⟩
theorem zlj {cn:Str} (C:NOk X.prog X.w X.K X.mg X.base cn k m) (hr:Room (k+1) X.A) (ht:jq X Er) (ha:MA X Er (e::es) fs) (hg:Gl X cn:=by rfl) (hdb:(cn==("__debug__" : Str))=false:=by decide)
  (he:starEach (e::es) X.env=(false,eval e X.env)::starEach es X.env:=by rfl) (hpl:(backTo pos (starEach es X.env)).any (·.1)=false:=by rfl):ME X Er (.Call (.Name cn p) (e::es) [] pos) (zm (newI cn m) fs):=by
 obtain ⟨C,f,fd,ps,hm,M,hb,F⟩:=C
 exact PE.weak (zjm M F hr hg hm hb .nil (zbn ht) ha hdb he hpl) fun U H Q ⟨env,st,ρ,re,rs,h⟩=>⟨env,st,ρ,re,rs,h.then fun af H1 xs st1 e1 s1 k vs rv x dx hx hdx ne=>by
  rw [List.append_nil]
  exact zli (f:=f) hm s1 rv k x dx hx hdx ne⟩
def fldAt (f:Str) (ins exc:Str->Bool):PV->Mo PV
 | .ref n,st=>yh st n fun c ks xs=>if ins c=true then optR ((ks.zip xs).lookup f) st else .stuck
 | .exo c ks xs,st=>if exc c=true then optR ((ks.zip xs).lookup f) st else .stuck
 | _,_=>.stuck
structure FldF (K:Frag) (mg:Str->Option Value) (f:Str) (ins exc:Str->Bool):Prop where
 i:∀c,ins c=true->∃C,mg c=some (.ref C)/\Cls K C/\NoAttr K C f
 x:∀c,exc c=true->∃C,mg c=some (.ref C)/\ExGa K C/\hasDictIn K C=true/\findIn K (.ref C) f=some none
def zlk (K:Frag) (ta:TE) (f:Str):TE:=fun U H Q=>ta U H fun x H1=>(∃a C dx fs v,x=.ref a/\H1 a=some (.ins C dx fs)/\Cls K C/\NoAttr K C f/\fs.lookup f=some v/\Q v H1) \/
 ∃a C d fs v,x=.ref a/\H1 a=some (exC C (some d) a)/\H1 d=some (.xd fs)/\ExGa K C/\hasDictIn K C=true/\findIn K (.ref C) f=some none/\fs.lookup f=some v/\Q v H1
theorem zll {f:Str}{ta:TE}(he:PE X e ta) (hb:attributeBase e f X.env (eval e X.env)=eval e X.env):PE X (.Attribute e f pos) (zlk X.K ta f):=by
 intro pins s U H Q I h
 refine zi4 hb (thn (he pins s U H _ I h) fun u s1 ⟨x,H1,I1,rx,h1⟩=>?_)
 rcases h1 with ⟨a,C,dx,fs,v,ex,ea,c,n,l,q⟩|⟨a,C,dx,fs,v,ex,ea,ed,g,hh,no,l,q⟩
 ·subst ex
  obtain rfl:u=Value.ref a:=rx
  exact zes I1 ea c n l fun u' s2 I2 ru=>⟨v,H1,I2,ru,q⟩
 ·subst ex
  obtain rfl:u=Value.ref a:=rx
  exact zkB I1 ea ed g hh no l fun u' s2 I2 ru=>⟨v,H1,I2,ru,q⟩
theorem jd {f:Str}{ins exc:Str->Bool}(F:FldF X.K X.mg f ins exc) (he:ME X Er e fa) (hb:attributeBase e f X.env (eval e X.env)=eval e X.env:=by rfl):ME X Er (.Attribute e f pos) (yg (fldAt f ins exc) fa) :=
 PE.weak (zll he hb) fun U H Q ⟨env,st,ρ,re,rs,h⟩=>⟨env,st,ρ,re,rs,h.then fun af H1 x st1 e1 s1 h1 v rv=>by
  cases x with
  | ref n =>
   obtain ⟨c,ks,xs,hn,h1⟩:=zby h1
   obtain ⟨hc,h1⟩:=Out.ifp h1
   obtain ⟨y,hy,h1⟩:=wf h1
   obtain ⟨p,rfl,hp⟩:=rv
   obtain ⟨C',dx,vs,hC',hH,hR,hl⟩:=s1.addr hn hp
   obtain ⟨C,hC,cl,na⟩:=F.i c hc
   rw [hC] at hC'
   cases hC'
   obtain ⟨v,hv,rv⟩:=j2 hR hy
   exact .inl ⟨p,_,dx,_,v,rfl,hH,cl,na,hv,h1.now s1 _ rv⟩
  | exo c ks xs =>
   obtain ⟨hc,h1⟩:=Out.ifp h1
   obtain ⟨y,hy,h1⟩:=wf h1
   obtain ⟨a,C',d,vs,rfl,hC',hH,hd,hR,hl⟩:=rv
   obtain ⟨C,hC,g,hh,no⟩:=F.x c hc
   rw [hC] at hC'
   cases hC'
   obtain ⟨v,hv,rv⟩:=j2 hR hy
   exact .inr ⟨a,_,d,_,v,rfl,hH,hd,g,hh,no,hv,h1.now s1 _ rv⟩
  | _=>exact False.elim h1⟩
def soCls:Option SO->Option (String ⊕ (Bool×Str))
 | some (.lst _)=>some (.inl "list")
 | some (.dic _ _)=>some (.inl "dict")
 | some (.ins c _ _)=>some (.inr (false,c))
 | some (.fdi _ _)=>none
 | none=>none
def clsP (st:Sto):PV->Option (String ⊕ (Bool×Str))
 | .non=>some (.inl "NoneType")
 | .bl _=>some (.inl "bool")
 | .int _=>some (.inl "int")
 | .str _=>some (.inl "str")
 | .tup _=>some (.inl "tuple")
 | .ref n=>soCls st[n]?
 | .exo c _ _=>some (.inr (true,c))
 | _=>none
def optB (o:Option Bool):Mo PV:=fun st=>match o with
 | some b=>.ok (.bl b) st
 | none=>.stuck
theorem zbF {ρ:List Addr}{H:Hp}{o:Option Bool}{st:Sto}{good}(h:Out K mg ρ H (optB o st) good Er):∃b,o=some b/\Out K mg ρ H (.ok (.bl b) st) good Er:=by
 cases o with
 | some x=>exact ⟨x,rfl,h⟩
 | none=>exact False.elim h
structure IsT where
 isx:Str->Bool
 sub:Str->Str->Option Bool
 subT:Str->String->Option Bool
 tyC:String->Str->Option Bool
def isiA (t:IsT) (st:Sto):PV->Option (String ⊕ (Bool×Str))->Mo PV
 | .ty n,some (.inl T),st=>optB (tyb T n) st
 | .ty n,some (.inr (f,c)),st=>if t.isx c=f then optB (t.subT c n) st else .stuck
 | .fn B,some (.inl T),st=>optB (t.tyC T B) st
 | .fn B,some (.inr (f,c)),st=>if t.isx c=f then optB (t.sub c B) st else .stuck
 | _,_,_=>.stuck
def yf (t:IsT):List PV->Mo PV
 | [x,y],st=>isiA t st y (clsP st x) st
 | _,_=>.stuck
structure InIs (K:Frag) (C:Addr):Prop where
 cl:Cls K C
 ha:findIn K (.ref C) "__class__" = some (some (.builtin "object.__class__"))
 hn:specialIn K (.builtin "object.__class__") "__get__" = some (some (.builtin "getset_descriptor.__get__"))
 tk:takesIn K (.builtin "object.__class__")=some true
 hm:mroIn K C (.type "object")=some true
structure IsF (K:Frag) (mg:Str->Option Value) (t:IsT):Prop where
 s:∀c B b,t.sub c B=some b->∃C D,mg c=some (.ref C)/\mg B=some (.ref D)/\kitOne K (.ref C) (.ref D)=some b
 tt:∀c n b,t.subT c n=some b->∃C,mg c=some (.ref C)/\kitOne K (.ref C) (.type n)=some b
 u:∀T B b,t.tyC T B=some b->∃D,mg B=some (.ref D)/\kitOne K (.type T) (.ref D)=some b
 x:∀c C,t.isx c=true->mg c=some (.ref C)->((∃B b,t.sub c B=some b)\/∃n b,t.subT c n=some b)->ExIs K C
 i:∀c C,t.isx c=false->mg c=some (.ref C)->((∃B b,t.sub c B=some b)\/∃n b,t.subT c n=some b)->InIs K C
inductive TyA (K:Frag) (H:Hp):V->Value->Prop where
 | of {v:V} {t:Value} (h:TyOf K H v t):TyA K H v t
 | tup {a:Addr} {vs:List V} (h:SqT K H a vs):TyA K H (.ref a) (.type "tuple")
 | exc {a C d:Addr} {fs:List (Str×V)} (ha:H a=some (exC C (some d) a)) (hd:H d=some (.xd fs)) (k:ExIs K C):TyA K H (.ref a) (.ref C)
theorem zlm {pins:List (Addr×Obj)}{U:L2.St}{H:Hp}{s:Shared}{v:V}{u t c:Value}{b:Bool}{Q:Value->Shared->Prop}{A:Around}{E:Value->Shared->Prop}(I:Inv X pins U H s) (r:RelV v u) (ty:TyA X.K H v t) (e:kitOne X.K t c=some b) (h:∀tk,Q (.bool b) { s with toks:=tk }) :
  wpAny (model X.prog X.w) A (call (.builtin "isinstance") [u,c]) Q E s:=by
 cases ty with
 | of ty=>exact zja I r ty e h
 | @tup a vs hq =>
  obtain rfl:u=Value.ref a:=r
  obtain ⟨its,_,p,_⟩:=I.tuple hq
  obtain ⟨o,h1,h2,_⟩:=p
  exact PySem.W.kia_one PySem.W.kitx_tuple I.kIn ⟨o,h1,h2⟩ e (fun z=>nomatch z) h
 | @exc a C d fs ha hd k =>
  obtain rfl:u=Value.ref a:=r
  exact zkC I ha hd k e h
theorem zln:CallR X (.builtin "isinstance") (fun xs H Q=>∃v w t c b,xs=[v,w]/\TyA X.K H v t/\RelV w c/\(∀c',RelV w c'->c'=c)/\kitOne X.K t c=some b/\Q (.bl b) H):=by
 intro pins s U H xs us Q I r h
 obtain ⟨v,w,t,c,b,rfl,ty,rw,un,e,q⟩:=h
 obtain ⟨u,w',rfl,ru,rw'⟩:=zen r
 obtain rfl:=un w' rw'
 exact zlm I ru ty e fun tk=>⟨.bl b,H,I.tok _,rfl,q⟩
theorem zfm {ρ:List Addr}{H:Hp}{st:Sto}{x:PV}{v:V}{T:String}(s:StR K mg ρ H st) (r:R K mg ρ H x v) (h:clsP st x=some (.inl T)):TyA K H v (.type T):=by
 cases x with
 | non=>cases h;cases r;exact .of .non
 | bl b=>cases h;cases r;exact .of (.bl b)
 | int i=>cases h;cases r;exact .of (.int i)
 | str z=>cases h;cases r;exact .of (.str z)
 | tup xs=>cases h;obtain ⟨a,vs,rfl,h1,_⟩:=r;exact .tup h1
 | frl xs=>cases h
 | ref n =>
  obtain ⟨a,rfl,ha⟩:=r
  have h:soCls st[n]?=some (.inl T):=h
  cases e:st[n]? with
  | none=>rw [e] at h;cases h
  | some so =>
   rw [e] at h
   cases so with
   | lst xs=>cases h;obtain ⟨vs,h1,_⟩:=s.addr e ha;exact .of (.lst h1)
   | dic ks xs=>cases h;obtain ⟨vs,h1,_⟩:=s.addr e ha;exact .of (.dK h1)
   | ins c ks xs=>cases h
   | fdi ks xs=>cases h
 | ty _=>cases h
 | fn _=>cases h
 | kd _ _=>cases h
 | exo _ _ _=>cases h
theorem zfn {ρ:List Addr}{H:Hp}{st:Sto}{x:PV}{v:V}{f:Bool}{c:Str}(hx:∀C,f=true->mg c=some (.ref C)->ExIs K C) (hi:∀C,f=false->mg c=some (.ref C)->InIs K C) (s:StR K mg ρ H st) (r:R K mg ρ H x v) (h:clsP st x=some (.inr (f,c))):∃C,mg c=some (.ref C)/\TyA K H v (.ref C):=by
 cases x with
 | ref n =>
  obtain ⟨a,rfl,ha⟩:=r
  have h:soCls st[n]?=some (.inr (f,c)):=h
  cases e:st[n]? with
  | none=>rw [e] at h;cases h
  | some so =>
   rw [e] at h
   cases so with
   | lst xs=>cases h
   | dic ks xs=>cases h
   | fdi ks xs=>cases h
   | ins c' ks xs =>
    cases h
    obtain ⟨C,dx,vs,hC,hH,_⟩:=s.addr e ha
    have q:=hi C rfl hC
    exact ⟨C,hC,.of (.ins hH q.cl q.ha q.hn q.tk q.hm)⟩
 | exo c' ks xs =>
  cases h
  obtain ⟨a,C,d,vs,rfl,hC,hH,hd,_⟩:=r
  exact ⟨C,hC,.exc hH hd (hx C rfl hC)⟩
 | non=>cases h
 | bl _=>cases h
 | int _=>cases h
 | str _=>cases h
 | tup _=>cases h
 | frl _=>cases h
 | ty _=>cases h
 | fn _=>cases h
 | kd _ _=>cases h
theorem yD {t:IsT} (F:IsF X.K X.mg t):BltOk X (.builtin "isinstance") (yf t):=⟨_,zln,fun ρ H st xs vs Q E s r h=>by
 match xs,r,h with
 | [x,y],r,h =>
  obtain ⟨v,w,rfl,rx,ry⟩:=Rs.two r
  have h:Out X.K X.mg ρ H (isiA t st y (clsP st x) st) (gV X.K X.mg Q) E:=h
  cases hc:clsP st x with
  | none=>rw [hc] at h;cases y<;>exact False.elim h
  | some cc =>
   rw [hc] at h
   cases cc with
   | inl T =>
    cases y with
    | ty n =>
     cases ry
     obtain ⟨b,hb,h⟩:=zbF h
     exact ⟨v,_,_,_,b,rfl,zfm s rx hc,rfl,fun c' h=>h,zle X.K hb,h.now s _ rfl⟩
    | fn B =>
     obtain ⟨D,rfl,hD⟩:=ry
     obtain ⟨b,hb,h⟩:=zbF h
     obtain ⟨D',hD',k⟩:=F.u T B b hb
     rw [hD] at hD'
     cases hD'
     exact ⟨v,_,_,_,b,rfl,zfm s rx hc,rfl,fun c' h=>h,k,h.now s _ rfl⟩
    | _=>exact False.elim h
   | inr fc =>
    obtain ⟨f,c⟩:=fc
    cases y with
    | ty n =>
     cases ry
     obtain ⟨hf,h⟩:=Out.ifp h
     obtain ⟨b,hb,h⟩:=zbF h
     obtain ⟨C,hC,k⟩:=F.tt c n b hb
     obtain ⟨C',hC',ty⟩:=zfn (fun C e hC=>F.x c C (hf.trans e) hC (.inr ⟨n,b,hb⟩)) (fun C e hC=>F.i c C (hf.trans e) hC (.inr ⟨n,b,hb⟩)) s rx hc
     rw [hC] at hC'
     cases hC'
     exact ⟨v,_,_,_,b,rfl,ty,rfl,fun c' h=>h,k,h.now s _ rfl⟩
    | fn B =>
     obtain ⟨D,rfl,hD⟩:=ry
     obtain ⟨hf,h⟩:=Out.ifp h
     obtain ⟨b,hb,h⟩:=zbF h
     obtain ⟨C,D',hC,hD',k⟩:=F.s c B b hb
     rw [hD] at hD'
     cases hD'
     obtain ⟨C',hC',ty⟩:=zfn (fun C e hC=>F.x c C (hf.trans e) hC (.inl ⟨B,b,hb⟩)) (fun C e hC=>F.i c C (hf.trans e) hC (.inl ⟨B,b,hb⟩)) s rx hc
     rw [hC] at hC'
     cases hC'
     exact ⟨v,_,_,_,b,rfl,ty,rfl,fun c' h=>h,k,h.now s _ rfl⟩
    | _=>exact False.elim h
 | [],r,h=>exact False.elim h
 | [_],r,h=>exact False.elim h
 | _::_::_::_,r,h=>exact False.elim h⟩
end
section
variable {X:Cx}{Er:XK}{K:Frag}{mg:Str->Option Value}{a b c e o:Expr}{es:List Expr}{st:Stmt}{sts:List Stmt}{pos p apos pos':Pos}{fa fb fc fo:zc->Mo PV}{fs:zc->Mo (List PV)}{k:Nat}{x:Str}{m:List PV->Mo PV}
variable {g g' gb:zc->Mo Fl}{ga:zc->Mo Bool}
theorem Out.fl {ρ:List Addr}{H:Hp}{st:Sto}{D:Ends}{fl:Fl}{E:XK}(h:Out K mg ρ H (.ok fl st) (gS K mg D) E) (s:StR K mg ρ H st):gS K mg D ρ H fl st:=h.now s
def zL:zc->Mo Fl:=fun env st=>.ok (.nx env) st
def flowOn (g:zc->Mo Fl):Fl->Mo Fl
 | .nx env,st=>g env st
 | fl,st=>.ok fl st
def zq (g g':zc->Mo Fl):zc->Mo Fl:=fun env st=>(g env st).bind (flowOn g')
theorem zS:MSs X Er [] zL:=PSs.weak zig fun D U H ⟨env,st,ρ,re,rs,h⟩=>h.now rs U re
theorem zv (h1:MS X Er st g) (h2:MSs X Er sts g'):MSs X Er (st::sts) (zq g g') :=
 PSs.weak (zih h1 h2) fun D U H ⟨env,st,ρ,re,rs,h⟩=>⟨env,st,ρ,re,rs,h.then fun af H1 fl st1 e1 s1 h1=>by
  cases fl with
  | nx env1=>exact fun ap re1=>⟨env1,st1,af,re1,s1,h1⟩
  | rt v=>exact Out.fl (D:=D) (fl:=.rt v) (E:=Er) h1 s1
  | bk env1=>exact Out.fl (D:=D) (fl:=.bk env1) (E:=Er) h1 s1
  | ct env1=>exact Out.fl (D:=D) (fl:=.ct env1) (E:=Er) h1 s1⟩
theorem zx (h1:MS X Er st g):MSs X Er [st] g:=zii h1
def zH (i:Nat) (f:zc->Mo PV):zc->Mo Fl:=fun env st=>(f env st).bind fun x st1=>.ok (.nx (env.set i (some x))) st1
theorem zV (i:Nat) {x:Str}(he:ME X Er e fa) (hN:X.N.Nodup) (hi:X.N[i]?=some x:=by rfl) (hx:Loc X.env.scope x:=by first|exact Or.inl rfl|exact Or.inr rfl) (hs:swapsWith e (some (.Name x pos')) pos.line X.env=pure false:=by rfl)
  (hf:X.fn x=true\/X.env.scope.names.lookup x=some .local:=by first|exact .inl rfl|exact .inr rfl|assumption):MS X Er (.Assign [.Name x pos'] e pos) (zH i fa) :=
 PS.weak (ziv hN hi hx he hs hf) fun D U H ⟨env,st,ρ,re,rs,h⟩=>⟨env,st,ρ,re,rs,h.then fun af H1 x st1 e1 s1 h1 v rv=>h1.now s1 _ ((re.ext e1).set i rv)⟩
def yY (f:zc->Mo PV):zc->Mo Fl:=fun env st=>(f env st).bind fun _ st1=>.ok (.nx env) st1
theorem wM (he:ME X Er e fa) (hs:swapsWith e none pos.line X.env=pure false:=by rfl):MS X Er (.Expr e pos) (yY fa) :=
 PS.weak (zik he hs) fun D U H ⟨env,st,ρ,re,rs,h⟩=>⟨env,st,ρ,re,rs,h.then fun af H1 x st1 e1 s1 h1 v rv=>h1.now s1 _ (re.ext e1)⟩
def zE (f:zc->Mo PV):zc->Mo Fl:=fun env st=>(f env st).bind fun x st1=>.ok (.rt x) st1
theorem zI (he:ME X Er e fa):MS X Er (.Return (some e) pos) (zE fa) :=
 PS.weak (zim he) fun D U H ⟨env,st,ρ,re,rs,h⟩=>⟨env,st,ρ,re,rs,h.then fun af H1 x st1 e1 s1 h1 v rv=>h1.now s1 _ rv⟩
def zK (t:zc->Mo Bool) (g g':zc->Mo Fl):zc->Mo Fl:=fun env st=>(t env st).bind fun c st1=>if c=true then g env st1 else g' env st1
theorem zT {A B:List Stmt}(hc:MT X Er c ga) (ha:MSs X Er A g) (hb:MSs X Er B g'):MS X Er (.If c A B pos) (zK ga g g') :=
 PS.weak (zio hc ha hb) fun D U H ⟨env,st,ρ,re,rs,h⟩=>⟨env,st,ρ,re,rs,h.then fun af H1 k st1 e1 s1 h1=>by
  cases k with
  | true=>exact ⟨env,st1,af,re.ext e1,s1,h1⟩
  | false=>exact ⟨env,st1,af,re.ext e1,s1,h1⟩⟩
def putK (f:Str) (x:PV):List Str->List PV->List Str×List PV
 | k::ks,y::ys=>if k=f then (k::ks,x::ys) else (k::(putK f x ks ys).1,y::(putK f x ks ys).2)
 | _,_=>([f],[x])
theorem zcU {ρ:List Addr}{H:Hp}{f:Str}{x:PV}{v:V}(r:R K mg ρ H x v):∀{ks:List Str}{xs:List PV}{vs:List V},ks.length=vs.length->Rs K mg ρ H xs vs->∃ws,putF f v (ks.zip vs)=(putK f x ks xs).1.zip ws/\Rs K mg ρ H (putK f x ks xs).2 ws/\(putK f x ks xs).1.length=ws.length
 | [],xs,vs,hl,h=>by
  have:vs=[]:=by cases vs with|nil=>rfl|cons=>simp at hl
  subst this
  have:xs=[]:=by cases xs with|nil=>rfl|cons=>obtain ⟨_,_,e,_⟩:=h;cases e
  subst this
  exact ⟨[v],rfl,⟨v,[],rfl,r,rfl⟩,rfl⟩
 | k::ks,xs,vs,hl,h=>by
  cases vs with
  | nil=>simp at hl
  | cons v0 vs =>
   cases xs with
   | nil=>cases h
   | cons y ys =>
    obtain ⟨v0',r',e,h1,h2⟩:=h
    cases e
    simp only [putK,List.zip_cons_cons,putF]
    by_cases hk:k=f
    ·rw [if_pos hk,if_pos hk]
     exact ⟨v::vs,rfl,⟨v,vs,rfl,r,h2⟩,by simpa using hl⟩
    ·rw [if_neg hk,if_neg hk]
     obtain ⟨ws,e1,e2,e3⟩:=zcU r (by simpa using hl) h2
     exact ⟨v0::ws,by rw [e1];rfl,⟨v0,ws,rfl,h1,e2⟩,by simp [e3]⟩
def putAt (f:Str) (ins:Str->Bool) (x:PV):PV->Mo Unit
 | .ref n,st=>yh st n fun c ks xs=>if ins c=true/\ks.length<1000 then .ok () (st.set n (.ins c (putK f x ks xs).1 (putK f x ks xs).2)) else .stuck
 | _,_=>.stuck
def sFld (f:Str) (ins:Str->Bool) (fo fv:zc->Mo PV):zc->Mo Fl:=fun env st=>(fv env st).bind fun x st1=>(fo env st1).bind fun o st2=>(putAt f ins x o st2).bind fun _ st3=>.ok (.nx env) st3
theorem zcV {f:Str}{ins exc:Str->Bool}(F:FldF X.K X.mg f ins exc) (ho:ME X Er o fo) (he:ME X Er e fa) (hs:swapsWith e (some (.Attribute o f pos')) pos.line X.env=pure false:=by rfl):MS X Er (.Assign [.Attribute o f pos'] e pos) (sFld f ins fo fa) :=
 PS.weak (zi6 ho he hs) fun D U H ⟨env,st,ρ,re,rs,h⟩=>⟨env,st,ρ,re,rs,h.then fun af H1 x st1 e1 s1 h1 v rv=>⟨env,st1,af,re.ext e1,s1,h1.then fun ak H2 y st2 e2 s2 h2 w rw=>by
  cases y with
  | ref n =>
   cases hn:st2[n]? with
   | none=>simp only [putAt,yh,hn] at h2;exact False.elim h2
   | some so =>
    cases so with
    | lst _=>simp only [putAt,yh,hn] at h2;exact False.elim h2
    | dic _ _=>simp only [putAt,yh,hn] at h2;exact False.elim h2
    | fdi _ _=>simp only [putAt,yh,hn] at h2;exact False.elim h2
    | ins c ks xs =>
     simp only [putAt,yh,hn] at h2
     by_cases hc:ins c=true/\ks.length<1000
     ·rw [if_pos hc] at h2
      obtain ⟨p,rfl,hp⟩:=rw
      obtain ⟨C',dx,vs,hC',hH,hR,hl⟩:=s2.addr hn hp
      obtain ⟨C,hC,cl,na⟩:=F.i c hc.1
      rw [hC] at hC'
      cases hC'
      obtain ⟨ws,k1,k2,k3⟩:=zcU (f:=f) (R.ext e2 x rv) hl hR
      refine ⟨p,_,dx,_,rfl,hH,cl,na,?_,?_⟩
      ·rw [List.length_zip,<-hl];have:=hc.2;omega
      ·have ew:Ext ak H2 ak (upd H2 p (.ins C' dx (putF f v (ks.zip vs)))):=Ext.write hH rfl
       exact h2 ak _ ew (s2.write hp ew ⟨_,dx,ws,hC,by rw [yn,k1],Rs.ext ew _ k2,k3⟩) U (((re.ext e1).ext e2).ext ew)
     ·rw [if_neg hc] at h2;exact False.elim h2
  | _=>exact False.elim h2⟩⟩
def MG (X:Cx) (Er:XK) (e:Expr) (g:PV->zc->Option zc):Prop:=PG X e fun v U H Q=>∃x env env' ρ,R X.K X.mg ρ H x v/\EnvR X.K X.mg ρ H env U/\g x env=some env'/\∀ah,EnvR X.K X.mg ρ H env' ah->Q ah H
theorem PG.weak {t t':TG}(h:PG X e t) (w:∀v U H Q,t' v U H Q->t v U H Q):PG X e t':=fun pins s U H v u Q I r q=>h pins s U H v u Q I r (w v U H Q q)
def gN (i:Nat):PV->zc->Option zc:=fun x env=>some (env.set i (some x))
theorem wN (i:Nat) {x:Str}(hN:X.N.Nodup) (hi:X.N[i]?=some x:=by rfl) (hx:Loc X.env.scope x:=by first|exact Or.inl rfl|exact Or.inr rfl) (hf:X.fn x=true\/X.env.scope.names.lookup x=some .local:=by first|exact .inl rfl|exact .inr rfl|assumption):MG X Er (.Name x pos) (gN i) :=
 PG.weak (zaA hN hi hx hf) fun v U H Q ⟨x,env,env',ρ,rx,re,hg,q⟩=>by
  cases hg
  exact q _ (re.set i rx)
def g2 (i j:Nat):PV->zc->Option zc
 | .tup [x,y],env=>some ((env.set i (some x)).set j (some y))
 | _,_=>none
def g3 (i j k:Nat):PV->zc->Option zc
 | .tup [x,y,z],env=>some (((env.set i (some x)).set j (some y)).set k (some z))
 | _,_=>none
inductive Sq where
 | im (xs:List PV)|rf (n:Nat)
def Walk (K:Frag) (mg:Str->Option Value) (J:It) (ρ:List Addr) (H:Hp):Sq->Prop
 | .im xs=>(∀i ag H',Ext ρ H ag H'->i<xs.length->J.go i H')/\(∀i ag H',Ext ρ H ag H'->xs.length<=i->J.stop i H') /\
  ∀i ag H' st v H2,Ext ρ H ag H'->StR K mg ag H' st->i<xs.length->J.yld i H' v H2->∃x,xs[i]?=some x/\Ext ag H' ag H2/\StR K mg ag H2 st/\R K mg ag H2 x v
 | .rf n=>∃a,ρ[n]?=some a/\J=Itl K a
def MI (X:Cx) (Er:XK) (tg iter:Expr) (src:zc->Mo Sq):Prop:=PI X tg iter fun U H R=>∃env st ρ,EnvR X.K X.mg ρ H env U/\StR X.K X.mg ρ H st/\Out X.K X.mg ρ H (src env st) (fun ag H' q st'=>∀J,Walk X.K X.mg J ag H' q->R J H') Er
def forL (g:PV->zc->Option zc) (body:zc->Mo Fl):List PV->zc->Mo Fl
 | [],env,st=>.ok (.nx env) st
 | x::xs,env,st=>match g x env with
  | none=>.stuck
  | some env1=>(body env1 st).bind fun fl st2=>match fl with
   | .nx e=>forL g body xs e st2
   | .ct e=>forL g body xs e st2
   | .bk e=>.ok (.nx e) st2
   | .rt v=>.ok (.rt v) st2
def forR (g:PV->zc->Option zc) (body:zc->Mo Fl) (n:Nat):Nat->Nat->zc->Mo Fl
 | 0,_,_,_=>.stuck
 | m+1,i,env,st=>z9 st n fun xs=>match xs[i]? with
  | none=>.ok (.nx env) st
  | some x=>match g x env with
   | none=>.stuck
   | some env1=>(body env1 st).bind fun fl st2=>match fl with
    | .nx e=>forR g body n m (i+1) e st2
    | .ct e=>forR g body n m (i+1) e st2
    | .bk e=>.ok (.nx e) st2
    | .rt v=>.ok (.rt v) st2
def forS (g:PV->zc->Option zc) (body:zc->Mo Fl):Sq->zc->Mo Fl
 | .im xs=>forL g body xs
 | .rf n=>forR g body n (lim+1) 0
def jy (src:zc->Mo Sq) (g:PV->zc->Option zc) (body:zc->Mo Fl):zc->Mo Fl:=fun env st=>(src env st).bind fun q st1=>forS g body q env st1
theorem wO {tg iter:Expr}{src:zc->Mo Sq}{gt:PV->zc->Option zc}(hp:PassesOwn (model X.prog X.w) X.A X.env X.xe) (hc:X.calm=true) (hi:MI X Er tg iter src) (hg:MG X Er tg gt) (hb:MSs X Er sts gb)
  (hs:∀x,foldedSetIterable iter X.env x=pure x:=by intro _;rfl):MS X Er (.For tg iter sts [] pos) (jy src gt gb) :=
 PS.weak (ziF hp hc hi hg hb hs) fun D U H ⟨env,st,ρ,re,rs,h⟩=>⟨env,st,ρ,re,rs,h.then fun ao H0 q st0 e0 s0 h0 J wk=>by
  cases q with
  | im xs =>
   obtain ⟨w1,w2,w3⟩:=wk
   refine ⟨fun i m U H=>m=xs.length-i/\i<=xs.length/\∃env st ρ,EnvR X.K X.mg ρ H env U/\StR X.K X.mg ρ H st/\Ext ao H0 ρ H/\Out X.K X.mg ρ H (forL gt gb (xs.drop i) env st) (gS X.K X.mg D) Er,⟨xs.length,by simp,Nat.zero_le _,env,st0,ao,re.ext e0,s0,Ext.refl,h0⟩,?_⟩
   rintro i m U H ⟨rfl,hi,env,st,ρ,re,rs,ex,h⟩
   by_cases hlt:i<xs.length
   ·refine .inr ⟨w1 i ρ H ex hlt,_,fun ah H' p'=>⟨xs.length-(i+1),by omega,rfl,hlt,p'⟩,fun v H' y=>?_⟩
    obtain ⟨x,hx,ex2,s2,rx⟩:=w3 i ρ H st v H' ex rs hlt y
    have hd:xs.drop i=x::xs.drop (i+1):=by
     rw [List.drop_eq_getElem_cons hlt]
     have:=(List.getElem?_eq_some_iff.mp hx).2
     rw [this]
    rw [hd] at h
    cases hgx:gt x env with
    | none=>simp only [forL,hgx] at h;exact False.elim h
    | some env1 =>
     simp only [forL,hgx] at h
     refine ⟨x,env,env1,ρ,rx,re.ext ex2,hgx,fun ap r1=>⟨env1,st,ρ,r1,s2,Out.then (Out.ext h ex2) fun am H3 fl st3 e3 s3 h3=>?_⟩⟩
     cases fl with
     | nx e=>exact fun ay r4=>⟨e,st3,am,r4,s3,(ex.trans ex2).trans e3,h3⟩
     | ct e=>exact fun ay r4=>⟨e,st3,am,r4,s3,(ex.trans ex2).trans e3,h3⟩
     | bk e=>exact Out.fl (D:=D) (fl:=.nx e) (E:=Er) h3 s3
     | rt v=>exact Out.fl (D:=D) (fl:=.rt v) (E:=Er) h3 s3
   ·have e:i=xs.length:=by omega
    subst e
    rw [List.drop_length] at h
    exact .inl ⟨w2 _ ρ H ex (Nat.le_refl _),Out.now (x:=Fl.nx env) h rs U re⟩
  | rf n =>
   obtain ⟨a,ha,rfl⟩:=wk
   refine ⟨fun i m U H=>∃env st ρ,EnvR X.K X.mg ρ H env U/\StR X.K X.mg ρ H st/\ρ[n]?=some a/\Out X.K X.mg ρ H (forR gt gb n m i env st) (gS X.K X.mg D) Er,⟨lim+1,env,st0,ao,re.ext e0,s0,ha,h0⟩,?_⟩
   rintro i m U H ⟨env,st,ρ,re,rs,ha,h⟩
   cases m with
   | zero=>exact False.elim h
   | succ m =>
    obtain ⟨xs,hn,h⟩:=yW h
    obtain ⟨vs,hH,hR⟩:=rs.addr hn ha
    cases hx:xs[i]? with
    | none =>
     simp only [hx] at h
     have:vs.length<=i:=by rw [<-hR.len];exact List.getElem?_eq_none_iff.mp hx
     exact .inl ⟨⟨vs,SqL.of hH,this⟩,Out.now (x:=Fl.nx env) h rs U re⟩
    | some x =>
     simp only [hx] at h
     obtain ⟨v,hv,rv⟩:=hR.get hx
     refine .inr ⟨⟨vs,v,SqL.of hH,hv⟩,_,fun ah H' p'=>⟨m,Nat.lt_succ_self m,p'⟩,fun v' H' y=>?_⟩
     obtain ⟨e1,y⟩:=y
     subst e1
     have e2:=y vs (SqL.of hH)
     rw [hv] at e2
     cases e2
     cases hgx:gt x env with
     | none=>simp only [hgx] at h;exact False.elim h
     | some env1 =>
      simp only [hgx] at h
      refine ⟨x,env,env1,ρ,rv,re,hgx,fun ap r1=>⟨env1,st,ρ,r1,rs,Out.then h fun am H3 fl st3 e3 s3 h3=>?_⟩⟩
      cases fl with
      | nx e=>exact fun ay r4=>⟨e,st3,am,r4,s3,e3.get ha,h3⟩
      | ct e=>exact fun ay r4=>⟨e,st3,am,r4,s3,e3.get ha,h3⟩
      | bk e=>exact Out.fl (D:=D) (fl:=.nx e) (E:=Er) h3 s3
      | rt v=>exact Out.fl (D:=D) (fl:=.rt v) (E:=Er) h3 s3⟩
end
section
variable {X:Cx}{Er:XK}{K:Frag}{mg:Str->Option Value}{a b c e o tg:Expr}{es:List Expr}{st:Stmt}{sts:List Stmt}{pos p apos pos':Pos}{fa fb fc fo:zc->Mo PV}{fs:zc->Mo (List PV)}{k:Nat}{x:Str}{m:List PV->Mo PV}
variable {g g' gb:zc->Mo Fl}{ga:zc->Mo Bool}
theorem PI.weak {t t':TI}(h:PI X tg e t) (w:∀U H Q,t' U H Q->t U H Q):PI X tg e t':=fun pins s U H Q I q=>h pins s U H Q I (w U H Q q)
def zlo (K:Frag) (tl:TE):TI:=fun U H R=>tl U H fun x H1=>(∃a,x=.ref a/\(∃xs,SqL K H1 a xs)/\R (Itl K a) H1)\/(∃a,x=.ref a/\(∃xs,SqT K H1 a xs)/\R (Itt K a) H1)\/∃z,x=.str z/\R (Its z) H1
theorem zlp {l:Expr}{tl:TE}(hl:PE X l tl):PI X tg l (zlo X.K tl):=by
 intro pins s U H R I h
 refine thn (hl pins s U H _ I h) fun v s1 ⟨x,H1,I1,r1,q1⟩=>?_
 have fin:∀b∈[s1.heap.objs.size],FpOk X pins H1 b:=fun b hb=>by
  have e:b=s1.heap.objs.size:=by simpa using hb
  subst e
  exact I1.fpOk (Nat.le_refl _) (I1.hok.fresh (Nat.le_refl _))
 rcases q1 with ⟨a,e,⟨xs,hq⟩,q⟩|⟨a,e,⟨xs,hq⟩,q⟩|⟨z,rfl,q⟩
 ·subst e
  cases r1
  obtain ⟨its,rv,p,hz⟩:=I1.list hq
  exact wpAny_pyIter_list p.isList ⟨s1.heap.objs.size,[s1.heap.objs.size],_,_,H1,rfl,I1.kept (t':=s1.toks) (fun b o e=>Heap.get?_push_of_some _ e),ziy a _,⟨_,Heap.get?_push_size _ rfl,rfl,rfl⟩,fin,q⟩
 ·subst e
  cases r1
  obtain ⟨its,rv,p,hz⟩:=I1.tuple hq
  exact wpAny_pyIter_tuple (show s1.heap.IsTuple a its.toArray from p) ⟨s1.heap.objs.size,[s1.heap.objs.size],_,_,H1,rfl,I1.kept (t':=s1.toks) (fun b o e=>Heap.get?_push_of_some _ e),ziz a _,⟨_,Heap.get?_push_size _ rfl,rfl,rfl⟩,fin,q⟩
 ·obtain ⟨t,rfl⟩:=r1
  cases ha:z.cps.all (·<128) with
  | false=>exact wpAny_pyIter_wide ha ⟨s1.heap.objs.size,[s1.heap.objs.size],_,_,H1,rfl,I1.kept (t':=s1.toks) (fun b o e=>Heap.get?_push_of_some _ e),zeW z t _ "str_iterator" (.inr rfl),⟨_,Heap.get?_push_size _ rfl,rfl,rfl⟩,fin,q⟩
  | true=>exact wpAny_pyIter_ascii ha ⟨s1.heap.objs.size,[s1.heap.objs.size],_,_,H1,rfl,I1.kept (t':=s1.toks) (fun b o e=>Heap.get?_push_of_some _ e),zeW z t _ "str_ascii_iterator" (.inl rfl),⟨_,Heap.get?_push_size _ rfl,rfl,rfl⟩,fin,q⟩
theorem zlq {ρ:List Addr}{H:Hp}{a:Addr}{xs:List PV}{vs:List V}(h:SqT K H a vs) (r:Rs K mg ρ H xs vs):Walk K mg (Itt K a) ρ H (.im xs):=by
 refine ⟨fun i ag H' e hi=>?_,fun i ag H' e hi=>⟨vs,e.sqT h,by rw [<-r.len];exact hi⟩,fun i ag H' st v H2 e s hi y=>?_⟩
 ·obtain ⟨v,hv,_⟩:=r.get (List.getElem?_eq_getElem hi)
  exact ⟨vs,v,e.sqT h,hv⟩
 ·obtain ⟨e1,y⟩:=y
  subst e1
  obtain ⟨v',hv,rv⟩:=r.get (List.getElem?_eq_getElem hi)
  have:=y vs (e.sqT h)
  rw [hv] at this
  cases this
  exact ⟨_,List.getElem?_eq_getElem hi,Ext.refl,s,R.ext e _ rv⟩
theorem zlr {ρ:List Addr}{H:Hp}{a:Addr}{xs:List PV}{vs:List V}(h:FrL K H a vs) (r:Rs K mg ρ H xs vs):Walk K mg (Itl K a) ρ H (.im xs):=by
 have hs:∀{ag H'},Ext ρ H ag H'->SqL K H' a vs:=fun e=>(e.frl h).sq
 refine ⟨fun i ag H' e hi=>?_,fun i ag H' e hi=>⟨vs,hs e,by rw [<-r.len];exact hi⟩,fun i ag H' st v H2 e s hi y=>?_⟩
 ·obtain ⟨v,hv,_⟩:=r.get (List.getElem?_eq_getElem hi)
  exact ⟨vs,v,hs e,hv⟩
 ·obtain ⟨e1,y⟩:=y
  subst e1
  obtain ⟨v',hv,rv⟩:=r.get (List.getElem?_eq_getElem hi)
  have:=y vs (hs e)
  rw [hv] at this
  cases this
  exact ⟨_,List.getElem?_eq_getElem hi,Ext.refl,s,R.ext e _ rv⟩
def signs (z:Str):List PV:=z.cps.toList.map fun c=>.str ⟨#[c]⟩
theorem zls {ρ:List Addr}{H:Hp}(z:Str):Walk K mg (Its z) ρ H (.im (signs z)):=by
 have hl:(signs z).length=z.cps.size:=by simp [signs]
 refine ⟨fun i ag H' e hi=>by rw [hl] at hi;exact hi,fun i ag H' e hi=>by rw [hl] at hi;exact hi,fun i ag H' st v H2 e s hi y=>?_⟩
 obtain ⟨e1,c,hc,e2⟩:=y
 subst e1 e2
 refine ⟨.str ⟨#[c]⟩,?_,Ext.refl,s,rfl⟩
 simp [signs,hc]
def nums (lo:Int) (n:Nat):List PV:=(List.range n).map fun i=>.int (lo+(i:Nat))
theorem zlt {ρ:List Addr}{H:Hp}(lo:Int) (n:Nat):Walk K mg (Itr lo n) ρ H (.im (nums lo n)):=by
 have hl:(nums lo n).length=n:=by simp [nums]
 refine ⟨fun i ag H' e hi=>by rw [hl] at hi;exact hi,fun i ag H' e hi=>by rw [hl] at hi;exact hi,fun i ag H' st v H2 e s hi y=>?_⟩
 obtain ⟨e1,e2⟩:=y
 subst e1 e2
 rw [hl] at hi
 exact ⟨.int (lo+i),by simp [nums,hi],Ext.refl,s,rfl⟩
def seqOf:PV->Mo Sq
 | .tup xs,st=>.ok (.im xs) st
 | .frl xs,st=>.ok (.im xs) st
 | .str z,st=>.ok (.im (signs z)) st
 | .ref n,st=>z9 st n fun _=>.ok (.rf n) st
 | _,_=>.stuck
def yM (f:zc->Mo PV):zc->Mo Sq:=fun env st=>(f env st).bind seqOf
theorem wg (h:ME X Er e fa):MI X Er tg e (yM fa):=PI.weak (zlp h) fun U H Q ⟨env,st,ρ,re,rs,h⟩=>⟨env,st,ρ,re,rs,h.then fun af H1 x st1 e1 s1 h1 v rv=>by
 cases x with
 | tup xs =>
  obtain ⟨a,vs,rfl,k1,k2⟩:=rv
  exact .inr (.inl ⟨a,rfl,⟨vs,k1⟩,Out.now (x:=Sq.im xs) h1 s1 _ (zlq k1 k2)⟩)
 | frl xs =>
  obtain ⟨a,vs,rfl,k1,k2⟩:=rv
  exact .inl ⟨a,rfl,⟨vs,k1.sq⟩,Out.now (x:=Sq.im xs) h1 s1 _ (zlr k1 k2)⟩
 | str z =>
  cases rv
  exact .inr (.inr ⟨z,rfl,Out.now (x:=Sq.im (signs z)) h1 s1 _ (zls z)⟩)
 | ref n =>
  obtain ⟨a,rfl,ha⟩:=rv
  obtain ⟨xs,hn,h1⟩:=yW h1
  obtain ⟨vs,k1,k2⟩:=s1.addr hn ha
  exact .inl ⟨a,rfl,⟨vs,SqL.of k1⟩,h1.now s1 _ ⟨a,ha,rfl⟩⟩
 | _=>exact False.elim h1⟩
abbrev cR (j:Int):Bool:=decide (-(2 ^ 62)<=j)&&decide (j<2 ^ 62)
def wP:List PV->Mo Sq
 | [.int j],st=>if cR j=true then .ok (.im (nums 0 j.toNat)) st else .stuck
 | _,_=>.stuck
def zlu:List PV->Mo Sq
 | [.int i,.int j],st=>if cR i=true/\cR j=true then .ok (.im (nums i (j-i).toNat)) st else .stuck
 | _,_=>.stuck
theorem zlv {ρ:List Addr}{H:Hp}{xs:List PV}{st:Sto}{good:List Addr->Hp->Sq->Sto->Prop}(h:Out K mg ρ H (wP xs st) good Er):∃j,xs=[.int j] /\ -(2 ^ 62)<=j/\j<2 ^ 62/\Out K mg ρ H (.ok (.im (nums 0 j.toNat)) st) good Er:=by
 unfold wP at h
 split at h
 ·obtain ⟨c,h⟩:=Out.ifp h
  simp [cR] at c
  exact ⟨_,rfl,c.1,c.2,h⟩
 ·exact False.elim h
def iRng1 (fs:zc->Mo (List PV)):zc->Mo Sq:=fun env st=>(fs env st).bind wP
def iRng2 (fs:zc->Mo (List PV)):zc->Mo Sq:=fun env st=>(fs env st).bind zlu
theorem jI {a:Expr} (hm:X.mg "range" = none) (ha:MA X Er [a] fs) (hg:Gl X "range" := by rfl) (hs:starEach [a] X.env=[(false,eval a X.env)]:=by rfl):MI X Er tg (.Call (.Name "range" p) [a] [] pos) (iRng1 fs) :=
 PI.weak (ziC hg hm ha hs) fun U H Q ⟨env,st,ρ,re,rs,h⟩=>⟨env,st,ρ,re,rs,h.then fun af H1 xs st1 e1 s1 h1 vs rv=>by
  obtain ⟨j,rfl,c1,c2,h1⟩:=zlv h1
  obtain ⟨v,rfl,rfl⟩:=Rs.one rv
  exact ⟨j,rfl,c1,c2,h1.now s1 _ (zlt 0 j.toNat)⟩⟩
def wQ (xs ys:List PV):List PV:=(xs.zip ys).map fun q=>.tup [q.1,q.2]
def zaO:List PV->Mo Sq
 | [.tup xs,.tup ys],st=>.ok (.im (wQ xs ys)) st
 | _,_=>.stuck
theorem zlw {ρ:List Addr}{H:Hp}{xs:List PV}{st:Sto}{good:List Addr->Hp->Sq->Sto->Prop}(h:Out K mg ρ H (zaO xs st) good Er):∃ys zs,xs=[.tup ys,.tup zs]/\Out K mg ρ H (.ok (.im (wQ ys zs)) st) good Er:=by
 unfold zaO at h
 split at h
 ·exact ⟨_,_,rfl,h⟩
 ·exact False.elim h
theorem zlx {ρ:List Addr}{H:Hp}{a b:Addr}{xs ys:List PV}{vs ws:List V}(h:SqT K H a vs) (r:Rs K mg ρ H xs vs) (h':SqT K H b ws) (r':Rs K mg ρ H ys ws):Walk K mg (Itz K a b) ρ H (.im (wQ xs ys)):=by
 have hl:(wQ xs ys).length=min xs.length ys.length:=by simp [wQ]
 have l1:=r.len
 have l2:=r'.len
 refine ⟨fun i ag H' e hi=>?_,fun i ag H' e hi=>⟨vs,ws,e.sqT h,e.sqT h',by rw [hl] at hi;omega⟩,fun i ag H' st v H2 e s hi y=>?_⟩
 ·rw [hl] at hi
  obtain ⟨v,hv,_⟩:=r.get (List.getElem?_eq_getElem (show i<xs.length by omega))
  obtain ⟨w,hw,_⟩:=r'.get (List.getElem?_eq_getElem (show i<ys.length by omega))
  exact ⟨vs,ws,v,w,e.sqT h,e.sqT h',hv,hw⟩
 ·rw [hl] at hi
  obtain ⟨T,v',w',hT,rfl,rfl,y1,y2⟩:=y
  have k1:i<xs.length:=by omega
  have k2:i<ys.length:=by omega
  obtain ⟨v,hv,rv⟩:=r.get (List.getElem?_eq_getElem k1)
  obtain ⟨w,hw,rw'⟩:=r'.get (List.getElem?_eq_getElem k2)
  have q1:=y1 vs (e.sqT h)
  have q2:=y2 ws (e.sqT h')
  rw [hv] at q1
  rw [hw] at q2
  cases q1;cases q2
  refine ⟨.tup [xs[i],ys[i]],?_,Ext.new hT,s.new hT,R.tup_of ⟨_,[_],rfl,R.ext e _ rv,_,[],rfl,R.ext e _ rw',rfl⟩ hT⟩
  rw [wQ,List.getElem?_map,List.getElem?_eq_getElem (by simp;omega)]
  simp
def zcW (fs:zc->Mo (List PV)):zc->Mo Sq:=fun env st=>(fs env st).bind zaO
theorem zly {elts:List Expr} {kt:Nat} {tp:Pos} {x y:Expr} (hm:X.mg "zip" = none) (ha:MA X Er [x,y] fs) (hg:Gl X "zip" := by rfl) (hs:starEach [x,y] X.env=[(false,eval x X.env),(false,eval y X.env)]:=by rfl) (hs2:starEach [y] X.env=[(false,eval y X.env)]:=by rfl) :
  MI X Er (.Tuple elts kt tp) (.Call (.Name "zip" p) [x,y] [] pos) (zcW fs) :=
 PI.weak (zkK hg hm ha hs hs2) fun U H Q ⟨env,st,ρ,re,rs,h⟩=>⟨env,st,ρ,re,rs,h.then fun af H1 xs st1 e1 s1 h1 vs rv=>by
  obtain ⟨ys,zs,rfl,h1⟩:=zlw h1
  obtain ⟨v,w,rfl,⟨a,us,rfl,k1,k2⟩,⟨b,ws,rfl,k3,k4⟩⟩:=Rs.two rv
  exact ⟨a,b,rfl,⟨us,k1⟩,⟨ws,k3⟩,h1.now s1 _ (zlx k1 k2 k3 k4)⟩⟩
def whileF (t:zc->Mo Bool) (b:zc->Mo Fl):Nat->zc->Mo Fl
 | 0,_,_=>.stuck
 | n+1,env,st=>(t env st).bind fun c st1=>if c=true then (b env st1).bind fun fl st2=>match fl with
   | .nx e=>whileF t b n e st2
   | .ct e=>whileF t b n e st2
   | .bk e=>.ok (.nx e) st2
   | .rt v=>.ok (.rt v) st2
  else .ok (.nx env) st1
def zbG (t:zc->Mo Bool) (b:zc->Mo Fl):zc->Mo Fl:=whileF t b lim
theorem zcX (hp:PassesOwn (model X.prog X.w) X.A X.env X.xe) (hc:MT X Er c ga) (hb:MSs X Er sts gb):MS X Er (.While c sts [] pos) (zbG ga gb) :=
 PS.weak (zix hp hc hb) fun D U H ⟨env,st,ρ,re,rs,h⟩=>by
  refine ⟨fun m U H=>∃env st ρ,EnvR X.K X.mg ρ H env U/\StR X.K X.mg ρ H st/\Out X.K X.mg ρ H (whileF ga gb m env st) (gS X.K X.mg D) Er,⟨lim,env,st,ρ,re,rs,h⟩,?_⟩
  rintro m U H ⟨env,st,ρ,re,rs,h⟩
  cases m with
  | zero=>exact False.elim h
  | succ m =>
   refine ⟨env,st,ρ,re,rs,Out.then h fun af H1 k st1 e1 s1 h1=>?_⟩
   cases k with
   | true =>
    change (if true=true then _ else D.nx U H1)
    rw [if_pos rfl]
    refine ⟨_,fun ah H' p'=>⟨m,Nat.lt_succ_self m,p'⟩,env,st1,af,re.ext e1,s1,Out.then h1 fun am H3 fl st3 e3 s3 h3=>?_⟩
    cases fl with
    | nx e=>exact fun ay r4=>⟨e,st3,am,r4,s3,h3⟩
    | ct e=>exact fun ay r4=>⟨e,st3,am,r4,s3,h3⟩
    | bk e=>exact Out.fl (D:=D) (fl:=.nx e) (E:=Er) h3 s3
    | rt v=>exact Out.fl (D:=D) (fl:=.rt v) (E:=Er) h3 s3
   | false =>
    have z:D.nx U H1:=Out.fl (D:=D) (fl:=.nx env) (E:=Er) h1 s1 U (re.ext e1)
    exact z
def sRaise0 (cn:Str):zc->Mo Fl:=fun _ st=>.err cn [] [] st
def noErr {α:Type}:Res α->Res α
 | .err _ _ _ _=>.stuck
 | r=>r
theorem zaP {α β:Type}{ρ:List Addr}{H:Hp}{r:Res β}{f:β->Mo α}{good:List Addr->Hp->α->Sto->Prop}{good':List Addr->Hp->β->Sto->Prop}{E E':XK}(h:Out K mg ρ H ((noErr r).bind f) good E) (g:∀ag H' x st,Ext ρ H ag H'->StR K mg ag H' st->Out K mg ag H' (f x st) good E->good' ag H' x st):Out K mg ρ H r good' E':=by
 cases r with
 | ok x st=>exact fun ag H' e s=>g ag H' x st e s (Out.ext h e)
 | err=>exact False.elim h
 | stuck=>exact False.elim h
def wR:PV->PV->Mo PV
 | .ref n,y,st=>z9 st n fun xs=>if xs.length<lim then .ok .non (st.set n (.lst (xs++[y]))) else .stuck
 | _,_,_=>.stuck
theorem R.refL {ρ:List Addr}{H:Hp}{st:Sto}{n:Nat}{xs:List PV}{v:V}(s:StR K mg ρ H st) (r:R K mg ρ H (.ref n) v) (h:st[n]?=some (.lst xs)):∃a vs,v=.ref a/\ρ[n]?=some a/\H a=some (.lst vs)/\Rs K mg ρ H xs vs:=by
 obtain ⟨a,rfl,ha⟩:=r
 obtain ⟨vs,h1,h2⟩:=s.addr h ha
 exact ⟨a,vs,rfl,ha,h1,h2⟩
def recL:PV->Mo PV
 | .ref n,st=>z9 st n fun _=>.ok (.ref n) st
 | _,_=>.stuck
def jJ (op:PV->PV->Mo PV) (fo fv:zc->Mo PV):zc->Mo PV:=fun env st=>(fo env st).bind fun o st1=>(recL o st1).bind fun o st1=>(fv env st1).bind fun y st2=>op o y st2
theorem zfo {α:Type}{ρ:List Addr}{H:Hp}{x:PV}{st:Sto}{f:PV->Mo α}{good:List Addr->Hp->α->Sto->Prop}(h:Out K mg ρ H ((recL x st).bind f) good Er):∃n xs,x=.ref n/\st[n]?=some (.lst xs)/\Out K mg ρ H (f (.ref n) st) good Er:=by
 cases x with
 | ref n =>
  unfold recL z9 at h
  cases hn:st[n]? with
  | none=>simp only [hn] at h;exact False.elim h
  | some so =>
   cases so with
   | lst xs=>simp only [hn] at h;exact ⟨n,xs,rfl,hn,h⟩
   | _=>simp only [hn] at h;exact False.elim h
 | _=>exact False.elim h
theorem zfp {cpos:Pos} (ho:ME X Er o fo) (he:ME X Er e fa) (hbase:attributeBase o "append" X.env (eval o X.env)=eval o X.env:=by rfl)
  (hfew:((backTo cpos (starEach [e] X.env)).all (fun x=>!x.1)&&(backToKw cpos (keywordEach [] X.env)).all (fun x=>x.1.isSome)&&decide ([e].length+([]:List Keyword).length+(if ([]:List Keyword).isEmpty then 0 else 1)<30))=true:=by rfl)
  (hline:(apos.endLine==cpos.line)=true:=by rfl) (hs:starEach [e] X.env=(false,eval e X.env)::starEach [] X.env:=by rfl) (hpl:(backTo cpos (starEach [] X.env)).any (·.1)=false:=by rfl):ME X Er (.Call (.Attribute o "append" apos) [e] [] cpos) (jJ wR fo fa) :=
 PE.weak (zcy PySem.F.plainAttrs_list PySem.F.slot_list_append PySem.F.type_list_append zjT ho (zbh he zbg hs) hbase hfew hline hs hpl) fun U H Q ⟨env,st,ρ,re,rs,h⟩=>⟨env,st,ρ,re,rs,h.then fun af H1 x st1 e1 s1 h1 v rv=>by
  obtain ⟨n,xs,rfl,hn,h1⟩:=zfo h1
  obtain ⟨p,vs,rfl,hp,k1,k2⟩:=R.refL s1 rv hn
  refine ⟨.inl ⟨rfl,vs,SqL.of k1⟩,env,st1,af,re.ext e1,s1,h1.then fun ak H2 y st2 e2 s2 h2 w rw=>?_⟩
  obtain ⟨xs2,hn2,h2⟩:=yW h2
  obtain ⟨c,h2⟩:=Out.ifp h2
  obtain ⟨p',vs2,e3,hp2,k3,k4⟩:=R.refL s2 (R.ext e2 _ rv) hn2
  cases e3
  have ew:Ext ak H2 ak (upd H2 p (.lst (vs2++[w]))):=Ext.write k3 rfl
  refine ⟨p,vs2,w,rfl,rfl,k3,?_,h2 ak _ ew (s2.write hp2 ew ⟨vs2++[w],yn,Rs.ext ew _ (k4.append ⟨w,[],rfl,rw,rfl⟩)⟩) _ rfl⟩
  rw [<-k4.len,sizeLine_eq];have:xs2.length<1000000:=c;omega⟩
end
def endOf:Fl->Mo PV
 | .rt v,st=>.ok v st
 | .nx _,st=>.ok .non st
 | _,_=>.stuck
def zU (np nN:Nat) (g:zc->Mo Fl):List PV->Mo PV:=fun xs st=>if xs.length=np then (g (xs.map some++List.replicate (nN-np) none) st).bind endOf else .stuck
section
variable {P:Program}{w:World}{K:Frag}{mg:Str->Option Value}{base:Heap}
abbrev cxD (P:Program) (w:World) (K:Frag) (mg:Str->Option Value) (base:Heap) (N:List Str) (qual:Str) (scope:Scope) (f:Addr) (cd:Value) (A:Around) (outer:List Env) (s:Shared) (H:Hp) (E:XK):Cx :=
 (cxOf (CXe P w) P w K mg base N qual scope f cd A outer s H E).wish (XA (cxOf (CXe P w) P w K mg base N qual scope f cd A outer s H E) E)
theorem zlz {N:List Str}{np:Nat}{ρ:List Addr}{H:Hp}{xs:List PV}{vs:List V}(r:Rs K mg ρ H xs vs) (h:xs.length=np):EnvR K mg ρ H (xs.map some++List.replicate (N.length-np) none) (L2.start N vs):=by
 have hl:=r.len
 refine ⟨by simp [L2.start,<-hl,h],fun i x hx=>?_⟩
 by_cases hi:i<xs.length
 ·rw [List.getElem?_append_left (by simpa using hi)] at hx
  simp only [List.getElem?_map] at hx
  cases hq:xs[i]? with
  | none=>rw [hq] at hx;cases hx
  | some y =>
   rw [hq] at hx
   cases hx
   obtain ⟨v,hv,rv⟩:=r.get hq
   refine ⟨v,?_,rv⟩
   unfold L2.start
   rw [List.getElem?_append_left (by simp;omega)]
   simp [hv]
 ·rw [List.getElem?_append_right (by simpa using hi)] at hx
  rw [List.getElem?_replicate] at hx
  split at hx<;>cases hx
theorem zbH {x qual:Str}{sm:Stmt}{f:Addr}{fd:FuncData}{N ps:List Str}{k:Nat}{g:zc->Mo Fl}(F:Fun K x qual sm f fd) (S:FnScope N ps (zB sm))
  (hb:∀(cdv:Value) (A:Around) (outer:List Env) (s:Shared) (H:Hp) (E:XK),Room k (A.deeper (PyProof.Rows.envOfC qual (zB sm) s.heap.objs.size f cdv))->MSs (cxD P w K mg base N qual (zB sm) f cdv A outer s H E) E (yI sm) g) :
  FnOk P w K mg base (CXe P w) (k+1) f fd ps (spM K mg (zU ps.length N.length g)):=by
 refine F.okT S (fun vs H Q E h=>?_) fun cdv A outer s H vs Q E hr h=>⟨_,hb cdv A outer s H E hr,?_⟩
 ·obtain ⟨xs,st,ρ,r,_,h⟩:=h
  obtain ⟨hl,_⟩:=Out.ifp h
  rw [<-r.len];exact hl
 ·obtain ⟨xs,st,ρ,r,rs,h⟩:=h
  obtain ⟨hl,h⟩:=Out.ifp h
  refine ⟨_,st,ρ,zlz r hl,rs,h.then fun af H1 fl st1 e1 s1 h1=>?_⟩
  cases fl with
  | rt v=>exact fun u ru=>Out.now (x:=v) h1 s1 u ru
  | nx e=>exact fun ah _=>Out.now (x:=PV.non) h1 s1 _ rfl
  | _=>exact False.elim h1
theorem fok {x:Str}{f:Addr}{fd:FuncData}{ps:List Str}{k:Nat}{m:List PV->Mo PV}{sm:Stmt}{qual nm:Str}(hm:mg x=some (.ref f)) (F:Fun K nm qual sm f fd) (hb:Binds K fd ps []) (h:FnOk P w K mg base (CXe P w) k f fd ps (spM K mg m)):FOk P w K mg base x k m:=⟨f,fd,ps,hm,F.kp,hb,h⟩
end
section
variable {X:Cx}{Er:XK}{P:Program}{w:World}{K:Frag}{mg:Str->Option Value}{base:Heap}{pos:Pos}{x:Str}{st:Stmt}
theorem zM {k:Nat}{A:Around}(hr:Room k A):A.units+200<cLine:=by have:=hr.un;omega
def yN:zc->Mo Fl:=fun _ _=>.stuck
theorem wj:MS X Er st yN:=PS.weak ziq fun D U H ⟨env,st,ρ,re,rs,h⟩=>h
theorem zcY {n:Int} (h:∃t,X.mg x=some (.int n t)) (hg:Gl X x:=by rfl) (hd:(x==("__debug__" : Str))=false:=by decide):ME X Er (.Name x pos) (mC (.int n)):=let ⟨t,h⟩:=h;zfc (v:=.int n) h ⟨t,rfl⟩ (fun _ _=>rfl) hg hd
theorem zcZ {z:Str} (h:∃t,X.mg x=some (.str z t)) (hg:Gl X x:=by rfl) (hd:(x==("__debug__" : Str))=false:=by decide):ME X Er (.Name x pos) (mC (.str z)):=let ⟨t,h⟩:=h;zfc (v:=.str z) h ⟨t,rfl⟩ (fun _ _=>rfl) hg hd
def FnF (K:Frag) (mg:Str->Option Value) (x:Str) (sm:Stmt) (ps:List Str):Prop:=∃f fd,mg x=some (.ref f)/\Fun K x x sm f fd/\Binds K fd ps []
def MtF (K:Frag) (mg:Str->Option Value) (c name qual:Str) (sm:Stmt) (ps:List Str):Prop:=∃C f fd,mg c=some (.ref C)/\Cls K C/\Meth K C name f/\Fun K name qual sm f fd/\Binds K fd ps []
def NwF (K:Frag) (mg:Str->Option Value) (c qual:Str) (sm:Stmt) (ps:List Str):Prop:=∃C f fd,mg c=some (.ref C)/\Mk K C f/\Fun K "__init__" qual sm f fd/\Binds K fd ps []
theorem FnF.ok {sm:Stmt}{N ps:List Str}{k:Nat}{g:zc->Mo Fl}(h:FnF K mg x sm ps) (S:FnScope N ps (zB sm))
  (hb:∀(f:Addr) (cdv:Value) (A:Around) (outer:List Env) (s:Shared) (H:Hp) (E:XK),Room k (A.deeper (PyProof.Rows.envOfC x (zB sm) s.heap.objs.size f cdv))->MSs (cxD P w K mg base N x (zB sm) f cdv A outer s H E) E (yI sm) g) :
  FOk P w K mg base x (k+1) (zU ps.length N.length g):=by
 obtain ⟨f,fd,hm,F,b⟩:=h
 exact fok hm F b (zbH F S (hb f))
theorem MtF.ok {c name qual:Str}{sm:Stmt}{N ps:List Str}{k:Nat}{g:zc->Mo Fl}(h:MtF K mg c name qual sm ps) (S:FnScope N ps (zB sm))
  (hb:∀(f:Addr) (cdv:Value) (A:Around) (outer:List Env) (s:Shared) (H:Hp) (E:XK),Room k (A.deeper (PyProof.Rows.envOfC qual (zB sm) s.heap.objs.size f cdv))->MSs (cxD P w K mg base N qual (zB sm) f cdv A outer s H E) E (yI sm) g) :
  MOk P w K mg base c name (k+1) (zU ps.length N.length g):=by
 obtain ⟨C,f,fd,hm,cl,mt,F,b⟩:=h
 exact ⟨C,f,fd,ps,hm,cl,mt,b,zbH F S (hb f)⟩
theorem NwF.ok {c qual:Str}{sm:Stmt}{N ps:List Str}{k:Nat}{g:zc->Mo Fl}(h:NwF K mg c qual sm ps) (S:FnScope N ps (zB sm))
  (hb:∀(f:Addr) (cdv:Value) (A:Around) (outer:List Env) (s:Shared) (H:Hp) (E:XK),Room k (A.deeper (PyProof.Rows.envOfC qual (zB sm) s.heap.objs.size f cdv))->MSs (cxD P w K mg base N qual (zB sm) f cdv A outer s H E) E (yI sm) g) :
  NOk P w K mg base c (k+1) (zU ps.length N.length g):=by
 obtain ⟨C,f,fd,hm,mk,F,b⟩:=h
 exact ⟨C,f,fd,ps,hm,mk,b,zbH F S (hb f)⟩
theorem je:bootBuiltins "len" = some (.builtin "len"):=by decide +kernel
theorem yE:bootBuiltins "isinstance" = some (.builtin "isinstance"):=by decide +kernel
theorem zbI:bootBuiltins "int" = some (.type "int"):=by decide +kernel
theorem zlA:bootBuiltins "bool" = some (.type "bool"):=by decide +kernel
theorem wm:bootBuiltins "str" = some (.type "str"):=by decide +kernel
theorem jK:bootBuiltins "tuple" = some (.type "tuple"):=by decide +kernel
theorem zbJ:bootBuiltins "dict" = some (.type "dict"):=by decide +kernel
end
theorem FOk.mono {P:Program}{w:World}{K:Frag}{mg:Str->Option Value}{base:Heap}{x:Str}{j k:Nat}{m:List PV->Mo PV}(h:FOk P w K mg base x j m) (hjk:j<=k):FOk P w K mg base x k m:=by
 obtain ⟨f,fd,ps,h1,h2,h3,h4⟩:=h
 exact ⟨f,fd,ps,h1,h2,h3,h4.mono hjk⟩
theorem MOk.mono {P:Program}{w:World}{K:Frag}{mg:Str->Option Value}{base:Heap}{c x:Str}{j k:Nat}{m:List PV->Mo PV}(h:MOk P w K mg base c x j m) (hjk:j<=k):MOk P w K mg base c x k m:=by
 obtain ⟨C,f,fd,ps,h1,h2,h3,h4,h5⟩:=h
 exact ⟨C,f,fd,ps,h1,h2,h3,h4,h5.mono hjk⟩
def spLaw (K:Frag):Sp:=fun vs H Q _=>∃(a:Addr) (ns:List Int),vs=[.ref a]/\SqL K H a (ns.map V.int)/\Only H/\ns.length<=63/\∀H',Q (.bl true) H'
theorem zfq {K:Frag}{mg:Str->Option Value}{ρ:List Addr}{H:Hp}:∀ns:List Int,Rs K mg ρ H (ns.map PV.int) (ns.map V.int)
 | []=>rfl
 | n::ns=>⟨_,_,rfl,rfl,zfq ns⟩
theorem zlB {K:Frag}{H:Hp}{a:Addr}{vs:List V}(h:SqL K H a vs) (o:Only H):FrL K H a vs:=by
 rcases h with (h|⟨ob,h⟩)|h
 ·rcases o a with z|⟨ob,xs,z⟩
  ·rw [h] at z;cases z
  ·rw [h] at z;cases z
 ·exact .inl ⟨ob,h⟩
 ·exact .inr h
theorem zlC {P:Program}{w:World}{K:Frag}{mg:Str->Option Value}{base:Heap}{k:Nat}{f:Addr}{fd:FuncData}{ps:List Str}{m:List PV->Mo PV}(F:FnOk P w K mg base (CXe P w) k f fd ps (spM K mg m)) (h:∀ns:List Int,ns.length<=63->∃st,m [.frl (ns.map PV.int)] []=.ok (.bl true) st):FnOk P w K mg base (CXe P w) k f fd ps (spLaw K) :=
 F.imp fun vs H Q E ⟨a,ns,e,hs,ho,hl,q⟩=>by
  subst e
  obtain ⟨st,hm⟩:=h ns hl
  refine ⟨[.frl (ns.map PV.int)],[],[],⟨_,[],rfl,⟨a,_,rfl,zlB hs ho,zfq ns⟩,rfl⟩,⟨rfl,List.nodup_nil,fun n so e=>by simp at e⟩,?_⟩
  rw [hm]
  intro ag H' _ _ v rv
  cases rv
  exact q H'
theorem walkM {l:PySem.W.OpenLaw}{k:Nat}{x:Str}{q:Program}{loose:List Str}{XP:(Str->Option Value)->Heap->Prop}{YP:World->Heap->Prop}{d:DefRec}{K:Params->PySem.W.Frag}(hn:l.most=some 63) (hdf:d.params.defaults=[]) (hr:Room k callerA)
  (hY:∀(w:World) (h:Heap),YP w h->(K w.params).In h)
  (F:∀(w:World) (mg:Str->Option Value) (fa:Addr) (h:Heap),(K w.params).In h->h.Ns mainGlobals mg->mg d.name=some (.ref fa) ->
   ∃fd:FuncData,(∀(s:Shared) (u:Value),BindsTo s fd ⟨[u],[]⟩ [(x,u)])/\∀base:Heap,(K w.params).In base->base.Ns mainGlobals mg->FnOk l.prog w (K w.params) mg base (CXe l.prog w) k fa fd [x] (spLaw (K w.params))) :
  PySem.W.WalkO q loose XP YP l.row.toRowW d [] (fun f vs=>PySem.call f vs) :=
 L2.zj2 (n:=63) (k:=k) (x:=x) (CX:=fun w=>CXe l.prog w) (sp:=fun w=>spLaw (K w.params)) hn (by decide) hdf hr hY F (fun _ _ a ns hl ho hS=>⟨a,ns,rfl,hS,ho,hl,fun _=>rfl⟩) fun w H s e s' ⟨_,_,_,_,_,_,_,_,_,_,_,_,_,_,_,z⟩=>z
section
variable {α β:Type}{env:zc}{st st1:Sto}{fa fb fc fo fv:zc->Mo PV}{fs:zc->Mo (List PV)}{ga gb:zc->Mo Bool}{g g':zc->Mo Fl}{op op':PV->PV->Mo PV}{o1:PV->Mo PV}{m:List PV->Mo PV}
@[simp] theorem zw (a:α) (f:α->Mo β):(Res.ok a st).bind f=f a st:=(rfl)
@[simp] theorem zlD (i:Nat):zd i env st=(match env[i]? with|some (some x)=>.ok x st|_=>.stuck):=(rfl)
@[simp] theorem zqg (x:PV):mC x env st=.ok x st:=(rfl)
@[simp] theorem zlE:zh op fa fb env st=(fa env st).bind fun x st1=>(fb env st1).bind fun y st2=>op x y st2:=(rfl)
@[simp] theorem zlF:yg o1 fa env st=(fa env st).bind o1:=(rfl)
@[simp] theorem zlG:mB fa env st=(fa env st).bind asB:=(rfl)
@[simp] theorem zc0 (b:Bool):asB (.bl b) st=.ok b st:=(rfl)
@[simp] theorem zfr:jG ga gb env st=(ga env st).bind fun c st1=>if c=true then gb env st1 else .ok false st1:=(rfl)
@[simp] theorem zfs:yR ga gb env st=(ga env st).bind fun c st1=>if c=true then .ok true st1 else gb env st1:=(rfl)
@[simp] theorem zlH:yA ga env st=(ga env st).bind fun c st1=>.ok (!c) st1:=(rfl)
@[simp] theorem zlI:jH fa fb env st=(fa env st).bind fun x st1=>(asB x st1).bind fun c st2=>if c=true then fb env st2 else .ok (.bl false) st2:=(rfl)
@[simp] theorem zqh:zcJ fa env st=(fa env st).bind fun x st1=>(asB x st1).bind fun c st2=>.ok (.bl (!c)) st2:=(rfl)
@[simp] theorem zft:mIf ga fa fb env st=(ga env st).bind fun c st1=>if c=true then fa env st1 else fb env st1:=(rfl)
@[simp] theorem zqi:zj env st=.ok [] st:=(rfl)
@[simp] theorem zlJ:zf fa fs env st=(fa env st).bind fun x st1=>(fs env st1).bind fun xs st2=>.ok (x::xs) st2:=(rfl)
@[simp] theorem zlK:wa fs env st=(fs env st).bind fun xs st1=>if xs.length<=lim then .ok (.tup xs) st1 else .stuck:=(rfl)
@[simp] theorem zlL:jZ fs env st=(fs env st).bind fun xs st1=>if xs.length<=lim then .ok (.ref st1.length) (st1++[.lst xs]) else .stuck:=(rfl)
@[simp] theorem zlM (fl fu:zc->Mo (Option Int)):wK fa fl fu env st=(fa env st).bind fun x st1=>(fl env st1).bind fun l st2=>(fu env st2).bind fun u st3=>oSl x l u st3:=(rfl)
@[simp] theorem zlN:pSome fa env st=(fa env st).bind asI:=(rfl)
@[simp] theorem zlO (i:Int):asI (.int i) st=.ok (some i) st:=(rfl)
@[simp] theorem zlP:zm m fs env st=(fs env st).bind m:=(rfl)
@[simp] theorem zlQ (i:Int):zbz (.int i) st=.ok (.int (-i)) st:=(rfl)
@[simp] theorem zlR (x y:Str):zR (.str x) (.str y) st=if x.length+y.length<=lim then .ok (.str (x++y)) st else .stuck:=(rfl)
@[simp] theorem zqj (x:PV):optR (some x) st=.ok x st:=(rfl)
@[simp] theorem zlS (xs:List PV) (l u:Option Int):oSl (.frl xs) l u st=.ok (.ref st.length) (st++[.lst (cutP xs l u)]):=(rfl)
@[simp] theorem zqk (x y:PV):yq x y st=if plain x=true/\plain y=true/\dep x<=150 then .ok (.bl (eqP x y)) st else .stuck:=(rfl)
@[simp] theorem zql (x y:PV):j0 x y st=if plain x=true/\plain y=true/\dep x<=150 then .ok (.bl (!eqP x y)) st else .stuck:=(rfl)
@[simp] theorem zlT:zL env st=.ok (.nx env) st:=(rfl)
@[simp] theorem zfu:zq g g' env st=(g env st).bind (flowOn g'):=(rfl)
@[simp] theorem zlU:flowOn g (.nx env) st=g env st:=(rfl)
@[simp] theorem zlV (x:PV):flowOn g (.rt x) st=.ok (.rt x) st:=(rfl)
@[simp] theorem zlW (i:Nat):zH i fa env st=(fa env st).bind fun x st1=>.ok (.nx (env.set i (some x))) st1:=(rfl)
@[simp] theorem zlX:yY fa env st=(fa env st).bind fun _ st1=>.ok (.nx env) st1:=(rfl)
@[simp] theorem zlY:zE fa env st=(fa env st).bind fun x st1=>.ok (.rt x) st1:=(rfl)
@[simp] theorem zfv:zK ga g g' env st=(ga env st).bind fun c st1=>if c=true then g env st1 else g' env st1:=(rfl)
@[simp] theorem zlZ (x:PV):endOf (.rt x) st=.ok x st:=(rfl)
@[simp] theorem zfw:yM fa env st=(fa env st).bind seqOf:=(rfl)
@[simp] theorem zl0:zcW fs env st=(fs env st).bind zaO:=(rfl)
@[simp] theorem zfx (src:zc->Mo Sq) (gt:PV->zc->Option zc):jy src gt g env st=(src env st).bind fun q st1=>forS gt g q env st1:=(rfl)
@[simp] theorem zl1 (gt:PV->zc->Option zc) (xs:List PV):forS gt g (.im xs) env st=forL gt g xs env st:=(rfl)
@[simp] theorem zqm (gt:PV->zc->Option zc):forL gt g [] env st=.ok (.nx env) st:=(rfl)
@[simp] theorem zaQ (a:α):noErr (Res.ok a st)=.ok a st:=(rfl)
theorem yl {n:Nat}{xs:List PV}(h:st[n]?=some (.lst xs)) (k:List PV->Res α):z9 st n k=k xs:=by unfold z9;rw [h]
@[simp] theorem zl2:jJ op fo fv env st=(fo env st).bind fun o st1=>(recL o st1).bind fun o st1=>(fv env st1).bind fun y st2=>op o y st2:=(rfl)
@[simp] theorem zl3 (n:Nat):recL (.ref n) st=z9 st n fun _=>.ok (.ref n) st:=(rfl)
theorem zaa (n:Nat):whileF ga g (n+1) env st=(ga env st).bind fun c st1=>if c=true then (g env st1).bind fun fl st2=>match fl with
   | .nx e=>whileF ga g n e st2
   | .ct e=>whileF ga g n e st2
   | .bk e=>.ok (.nx e) st2
   | .rt v=>.ok (.rt v) st2
  else .ok (.nx env) st1:=rfl
@[simp] theorem zl4:lim=1000000:=(rfl)
end
section
variable {K:Frag}{mg:Str->Option Value}{h:Heap}{x:Str}{f C:Addr}{oc:Value}{od an:Option Addr}{osl:Array (Option Value)}{kV doc pm cdv ct:Value}{sm:Stmt}{ps:List Str}
theorem yZ (X:K.In h) (G:h.Ns mainGlobals mg) (a:nsIn K mainGlobals x=some (some (.ref f))) (l:K.lookup f=some ⟨oc,od,.func (fnOf x x (jp sm) (yI sm) (zB sm) .none kV doc pm an cdv ct),osl⟩) (c:codeIn K cdv x=true) (k:keepIn K (.ref f)=true)
  (b:∀(kV doc pm:Value) (an:Option Addr) (cdv ct:Value) (us:List Value),us.length=ps.length->bindArgs (fnOf x x (jp sm) (yI sm) (zB sm) .none kV doc pm an cdv ct) ⟨us,[]⟩=pure (ps.zip us)):FnF K mg x sm ps :=
 ⟨f,_,mg_of X G a,w5 l c k,(w5 l c k).binds b⟩
theorem jL {c name qual:Str} (X:K.In h) (G:h.Ns mainGlobals mg) (aC:nsIn K mainGlobals c=some (some (.ref C))) (pg:plainGet K C Str.empty=true) (hd:hasDictIn K C=true) (po:plainOver K C=true) (sa:findIn K (.ref C) "__setattr__" = some (some (.builtin "object.__setattr__")))
  (a:findIn K (.ref C) name=some (some (.ref f))) (i:isFn K (.ref f)=true) (l:K.lookup f=some ⟨oc,od,.func (fnOf name qual (jp sm) (yI sm) (zB sm) .none kV doc pm an cdv ct),osl⟩) (cd:codeIn K cdv qual=true) (k:keepIn K (.ref f)=true)
  (b:∀(kV doc pm:Value) (an:Option Addr) (cdv ct:Value) (us:List Value),us.length=ps.length->bindArgs (fnOf name qual (jp sm) (yI sm) (zB sm) .none kV doc pm an cdv ct) ⟨us,[]⟩=pure (ps.zip us)):MtF K mg c name qual sm ps :=
 ⟨C,f,_,mg_of X G aC,⟨pg,hd,po,sa⟩,⟨a,i,k⟩,w5 l cd k,(w5 l cd k).binds b⟩
theorem zl5 {c qual:Str}(X:K.In h) (G:h.Ns mainGlobals mg) (aC:nsIn K mainGlobals c=some (some (.ref C))) (mk:makesIn K C=true) (kc:keepIn K (.ref C)=true)
  (a:findIn K (.ref C) "__init__" = some (some (.ref f))) (i:isFn K (.ref f)=true) (l:K.lookup f=some ⟨oc,od,.func (fnOf "__init__" qual (jp sm) (yI sm) (zB sm) .none kV doc pm an cdv ct),osl⟩) (cd:codeIn K cdv qual=true) (k:keepIn K (.ref f)=true)
  (b:∀(kV doc pm:Value) (an:Option Addr) (cdv ct:Value) (us:List Value),us.length=ps.length->bindArgs (fnOf "__init__" qual (jp sm) (yI sm) (zB sm) .none kV doc pm an cdv ct) ⟨us,[]⟩=pure (ps.zip us)):NwF K mg c qual sm ps :=
 ⟨C,f,_,mg_of X G aC,⟨mk,a,i,kc⟩,w5 l cd k,(w5 l cd k).binds b⟩
theorem zc1 {c fld:Str} (X:K.In h) (G:h.Ns mainGlobals mg) (aC:nsIn K mainGlobals c=some (some (.ref C))) (pg:plainGet K C Str.empty=true) (hd:hasDictIn K C=true) (po:plainOver K C=true) (sa:findIn K (.ref C) "__setattr__" = some (some (.builtin "object.__setattr__"))) (na:findIn K (.ref C) fld=some none) :
  ∃C,mg c=some (.ref C)/\Cls K C/\NoAttr K C fld:=⟨C,mg_of X G aC,⟨pg,hd,po,sa⟩,na⟩
theorem all_cons {α:Type}{P:α->Prop}{a:α}{l:List α}(h:P a) (t:∀p∈l,P p):∀p∈a::l,P p:=fun p hp=>by
 rcases List.mem_cons.mp hp with rfl|hp
 ·exact h
 ·exact t p hp
end
theorem zl6 {P:Program}{w:World}{K:Frag}{mg:Str->Option Value}{x y:Str}{sm:Stmt}{fa:Addr}{k:Nat}{m:List PV->Mo PV}(h:FnF K mg x sm [y]) (hmg:mg x=some (.ref fa))
  (hb:∀(kV doc pm:Value) (an:Option Addr) (cdv ct:Value) (u:Value),bindArgs (fnOf x x (jp sm) (yI sm) (zB sm) .none kV doc pm an cdv ct) ⟨[u],[]⟩=pure [(y,u)])
  (hok:∀(f:Addr) (fd:FuncData),Fun K x x sm f fd->∀base:Heap,FnOk P w K mg base (CXe P w) k f fd [y] (spM K mg m)) (hp:∀ns:List Int,ns.length<=63->∃st,m [.frl (ns.map PV.int)] []=.ok (.bl true) st) :
  ∃fd:FuncData,(∀(s:Shared) (u:Value),BindsTo s fd ⟨[u],[]⟩ [(y,u)])/\∀base:Heap,K.In base->base.Ns mainGlobals mg->FnOk P w K mg base (CXe P w) k fa fd [y] (spLaw K):=by
 obtain ⟨f,fd,hm,F,_⟩:=h
 rw [hmg] at hm
 cases hm
 refine ⟨fd,fun s u=>?_,fun base _ _=>zlC (hok fa fd F base) hp⟩
 obtain ⟨oc,od,kV,doc,pm,an,cdv,ct,osl,rfl,_⟩:=F.ex
 exact .of_eq (hb kV doc pm an cdv ct u)
theorem zc2 {K:Frag}{mg:Str->Option Value}{h:Heap}{x:Str}{i:Int}{t:Tok}(X:K.In h) (G:h.Ns mainGlobals mg) (a:nsIn K mainGlobals x=some (some (.int i t))):∃t,mg x=some (.int i t):=⟨t,mg_of X G a⟩
theorem zfy {K:Frag}{mg:Str->Option Value}{h:Heap}{x z:Str}{t:Tok}(X:K.In h) (G:h.Ns mainGlobals mg) (a:nsIn K mainGlobals x=some (some (.str z t))):∃t,mg x=some (.str z t):=⟨t,mg_of X G a⟩
theorem jf {K:Frag}{mg:Str->Option Value}{h:Heap}{x:Str}(X:K.In h) (G:h.Ns mainGlobals mg) (a:nsIn K mainGlobals x=some none):mg x=none:=mg_none_of X G a
section
variable {X:Cx}{Er:XK}{K:Frag}{mg:Str->Option Value}{a b c e o:Expr}{es:List Expr}{pos p apos pos':Pos}{fa fb fc fo:zc->Mo PV}{fs:zc->Mo (List PV)}
abbrev kz (ks:List Str) (vs:List V):List (Key×V):=(ks.map Sum.inr).zip vs
theorem zaR {z:Str}:∀{ks:List Str}{vs:List V},valV (kz ks vs) (Sum.inr z)=(ks.zip vs).lookup z
 | [],_=>by simp [kz,valV]
 | k::ks,[]=>by simp [kz,valV]
 | k::ks,v::vs=>by
  have ih:=zaR (z:=z) (ks:=ks) (vs:=vs)
  by_cases h:k=z
  ·subst h
   rw [show kz (k::ks) (v::vs)=(Sum.inr k,v)::kz ks vs from rfl,zbi rfl]
   simp [List.lookup_cons]
  ·rw [show kz (k::ks) (v::vs)=(Sum.inr k,v)::kz ks vs from rfl,zbj (by simpa using h),ih]
   have:(z==k)=false:=by simpa using fun q=>h q.symm
   simp [List.lookup_cons,this]
theorem zfz {z:Str}:∀{ks:List Str}{vs:List V},ks.length=vs.length->((kz ks vs).any fun kv=>decide (kv.1=Sum.inr z))=ks.contains z
 | [],_,_=>by simp [kz]
 | k::ks,[],h=>by simp at h
 | k::ks,v::vs,h=>by
  have ih:=zfz (z:=z) (ks:=ks) (vs:=vs) (by simpa using h)
  rw [show kz (k::ks) (v::vs)=(Sum.inr k,v)::kz ks vs from rfl,List.any_cons,ih,List.contains_cons]
  congr 1
  by_cases hz:k=z
  ·subst hz;simp
  ·have:(z==k)=false:=by simpa using fun q=>hz q.symm
   simp [hz,this]
def repl {α:Type}(z:Str) (x:α):List Str->List α->List α
 | k::ks,y::ys=>(if k=z then x else y)::repl z x ks ys
 | _,ys=>ys
def yO (z:Str) (x:PV) (ks:List Str) (xs:List PV):List Str×List PV:=if ks.contains z=true then (ks,repl z x ks xs) else (ks++[z],xs++[x])
theorem zfA {z:Str}{v:V}:∀{ks:List Str}{vs:List V},(kz ks vs).map (fun kv=>if kv.1=Sum.inr z then (kv.1,v) else kv)=kz ks (repl z v ks vs)
 | [],_=>by simp [kz]
 | k::ks,[]=>by simp [kz,repl]
 | k::ks,w::vs=>by
  rw [show kz (k::ks) (w::vs)=(Sum.inr k,w)::kz ks vs from rfl,List.map_cons,zfA,show repl z v (k::ks) (w::vs)=(if k=z then v else w)::repl z v ks vs from rfl,show ∀u us,kz (k::ks) (u::us)=(Sum.inr k,u)::kz ks us from fun _ _=>rfl]
  by_cases h:k=z
  ·subst h;simp
  ·rw [if_neg (by simpa using h),if_neg h]
theorem zfB {ρ:List Addr}{H:Hp}{z:Str}{x:PV}{v:V}(r:R K mg ρ H x v):∀{ks:List Str}{xs:List PV}{vs:List V},Rs K mg ρ H xs vs->Rs K mg ρ H (repl z x ks xs) (repl z v ks vs)
 | [],xs,vs,h=>by cases xs<;>cases vs<;>exact h
 | k::ks,[],vs,h=>by cases h;exact rfl
 | k::ks,y::ys,vs,h=>by
  obtain ⟨w,ws,rfl,h1,h2⟩:=h
  refine ⟨_,_,rfl,?_,zfB r h2⟩
  split
  ·exact r
  ·exact h1
theorem zfC {α:Type}{z:Str}{x:α}:∀{ks:List Str}{xs:List α},(repl z x ks xs).length=xs.length
 | [],xs=>by cases xs<;>rfl
 | k::ks,[]=>rfl
 | k::ks,y::ys=>by simp [repl,zfC (ks:=ks)]
theorem zfD {ρ:List Addr}{H:Hp}{z:Str}{x:PV}{v:V}(r:R K mg ρ H x v) {ks:List Str}{xs:List PV}{vs:List V}(hl:ks.length=vs.length) (h:Rs K mg ρ H xs vs):∃ws,L2.putK (kz ks vs) (Sum.inr z) v=kz (yO z x ks xs).1 ws/\Rs K mg ρ H (yO z x ks xs).2 ws/\(yO z x ks xs).1.length=ws.length:=by
 unfold L2.putK yO
 rw [zfz hl]
 by_cases hc:ks.contains z=true
 ·rw [if_pos hc,if_pos hc]
  exact ⟨repl z v ks vs,zfA,zfB r h,by rw [zfC];exact hl⟩
 ·rw [if_neg hc,if_neg hc]
  refine ⟨vs++[v],?_,h.append ⟨v,[],rfl,r,rfl⟩,by simp [hl]⟩
  show _=(List.map Sum.inr (ks++[z])).zip (vs++[v])
  rw [List.map_append,List.zip_append (by simpa using hl)]
  rfl
def zab:zc->Mo PV:=fun _ st=>.ok (.ref st.length) (st++[.dic [] []])
theorem zaS:ME X Er (.Dict [] [] pos) zab:=PE.weak zkl fun U H Q ⟨env,st,ρ,re,rs,h⟩=>fun q hq =>
 h (ρ++[q]) _ (Ext.push hq) (rs.push hq ⟨[],yn,rfl,rfl⟩) _ ⟨q,rfl,by rw [<-rs.len];simp⟩
def zbK:PV->PV->Mo PV
 | .ref n,.str z,st=>yp st n fun ks xs=>optR ((ks.zip xs).lookup z) st
 | _,_,_=>.stuck
def zJ:PV->PV->Mo PV
 | .ref n,.str z,st=>zbK (.ref n) (.str z) st
 | x,y,st=>oIx x y st
def zl7:R2:=fun x y H Q=>∃a v,x=.ref a/\DGet H a y (some v)/\Q v H
theorem zfE (hu:X.A.units+1<cLine):IxR X zl7:=by
 intro value slice pins s U H x y v u Q I rx ry h hs
 obtain ⟨a,w,rfl,g,q⟩:=h
 obtain rfl:v=Value.ref a:=rx
 exact PyProof.Rows.tail_any (zkh I g) PySem.F.slot_dict_getitem.lookup (zkd hu I g ry fun w' s' I' rw'=>⟨w,H,I',rw',q⟩) hs
theorem R.refD {ρ:List Addr}{H:Hp}{st:Sto}{n:Nat}{ks:List Str}{xs:List PV}{v:V}(s:StR K mg ρ H st) (r:R K mg ρ H (.ref n) v) (h:st[n]?=some (.dic ks xs)):∃a vs,v=.ref a/\ρ[n]?=some a/\H a=some (.dK (kz ks vs))/\Rs K mg ρ H xs vs/\ks.length=vs.length:=by
 obtain ⟨a,rfl,ha⟩:=r
 obtain ⟨vs,h1,h2,h3⟩:=s.addr h ha
 exact ⟨a,vs,rfl,ha,h1,h2,h3⟩
theorem zfF {H:Hp}{a:Addr}{ks:List Str}{vs:List V}{z:Str}(h:H a=some (.dK (kz ks vs))):DGet H a (.str z) ((ks.zip vs).lookup z):=by
 have g:=DGet.k (k:=Sum.inr z) h
 rw [zaR] at g
 exact g
theorem yr (hu:X.A.units+200<cLine):IxOk X zJ:=by
 obtain ⟨r,h1,h2⟩:=zk6 (X:=X)
 refine ⟨_,h1.or (zfE (by omega)),fun ρ H st x y v w Q E s rx ry h=>?_⟩
 by_cases hx:∃n z,x=.ref n/\y=.str z
 ·obtain ⟨n,z,rfl,rfl⟩:=hx
  obtain ⟨ks,xs,e,h⟩:=zaH (show Out X.K X.mg ρ H (yp st n fun ks xs=>optR ((ks.zip xs).lookup z) st) (gV X.K X.mg Q) E from h)
  obtain ⟨q,hq,h⟩:=wf h
  obtain ⟨a,vs,rfl,_,k1,k2,_⟩:=R.refD s rx e
  cases ry
  obtain ⟨v,hv,rv⟩:=j2 k2 hq
  refine .inr ⟨a,v,rfl,?_,h.now s _ rv⟩
  have g:=zfF (z:=z) k1
  rw [hv] at g
  exact g
 ·refine .inl (h2 ρ H st x y v w Q E s rx ry ?_)
  have:zJ x y st=oIx x y st:=by
   unfold zJ
   split
   ·rename_i n z;exact absurd ⟨n,z,rfl,rfl⟩ hx
   ·rfl
  rw [this] at h
  exact h
def zac (z x:PV):PV->Mo Unit
 | .ref n,st=>match z with
  | .str z=>yp st n fun ks xs=>if ks.length<lim then .ok () (st.set n (.dic (yO z x ks xs).1 (yO z x ks xs).2)) else .stuck
  | _=>.stuck
 | _,_=>.stuck
def y0 (fo fi fv:zc->Mo PV):zc->Mo Fl:=fun env st=>(fv env st).bind fun x st1=>(fo env st1).bind fun o st2=>(fi env st2).bind fun z st3=>(zac z x o st3).bind fun _ st4=>.ok (.nx env) st4
theorem zbL {i value:Expr}{fi fv:zc->Mo PV}(hu:X.A.units+200<cLine) (ho:ME X Er o fo) (hi:ME X Er i fi) (hv:ME X Er value fv) (hs:swapsWith value (some (.Subscript o i pos')) pos.line X.env=pure false:=by rfl):MS X Er (.Assign [.Subscript o i pos'] value pos) (y0 fo fi fv) :=
 PS.weak (zkj (by omega) ho hi hv hs) fun D U H ⟨env,st,ρ,re,rs,h⟩=>⟨env,st,ρ,re,rs,h.then fun af H1 x st1 e1 s1 h1 v rv=>⟨env,st1,af,re.ext e1,s1,h1.then fun ak H2 y st2 e2 s2 h2 w rw=>⟨env,st2,ak,(re.ext e1).ext e2,s2,h2.then fun am H3 zz st3 e3 s3 h3 u ru=>by
  cases y with
  | ref n =>
   cases zz with
   | str z =>
    cases hn:st3[n]? with
    | none=>simp only [zac,yp,hn] at h3;exact False.elim h3
    | some so =>
     cases so with
     | lst _=>simp only [zac,yp,hn] at h3;exact False.elim h3
     | ins _ _ _=>simp only [zac,yp,hn] at h3;exact False.elim h3
     | fdi _ _=>simp only [zac,yp,hn] at h3;exact False.elim h3
     | dic ks xs =>
      simp only [zac,yp,hn] at h3
      by_cases hc:ks.length<lim
      ·rw [if_pos hc] at h3
       obtain ⟨a,vs,e4,ha,k1,k2,k3⟩:=R.refD s3 (R.ext e3 _ rw) hn
       subst e4
       cases ru
       obtain ⟨ws,q1,q2,q3⟩:=zfD (z:=z) (R.ext e3 x (R.ext e2 x rv)) k3 k2
       have hlen:(kz ks vs).length<sizeLine:=by
        have:(kz ks vs).length=ks.length:=by simp [kz,k3]
        rw [this,sizeLine_eq]
        have:ks.length<1000000:=hc
        omega
       have g:=DPut.k (k:=Sum.inr z) (v:=v) k1 hlen
       have ew:Ext am H3 am (upd H3 a (.dK (L2.putK (kz ks vs) (Sum.inr z) v))):=Ext.write k1 rfl
       refine ⟨a,_,rfl,g,h3 am _ ew (s3.write ha ew ⟨ws,by rw [yn,q1],Rs.ext ew _ q2,q3⟩) U ((((re.ext e1).ext e2).ext e3).ext ew)⟩
      ·rw [if_neg hc] at h3;exact False.elim h3
   | _=>exact False.elim h3
  | _=>exact False.elim h3⟩⟩⟩
end
open Classical in
noncomputable def eIn (K:Frag) (mg:Str->Option Value) (ρ:List Addr) (H:Hp) (ys:List PV) (x:PV) (u:Value):Bool:=decide (∃y v,y∈ys/\R K mg ρ H y v/\RelV v u/\eqP y x=true)
section
variable {X:Cx}{Er:XK}{K:Frag}{mg:Str->Option Value}{ρ:List Addr}{pins:List (Addr×Obj)}{U:L2.St}{H:Hp}{s:Shared}
def okIn (x:PV) (ys:List PV):Prop:=Mi.plain x=true/\plains ys=true/\deps ys<=150
instance (x:PV) (ys:List PV):Decidable (okIn x ys):=by unfold okIn;infer_instance
theorem Rs.mem:∀{xs:List PV}{vs:List V}{us:List Value}{u:Value},Rs K mg ρ H xs vs->Vals vs us->u∈us->∃y v,y∈xs/\R K mg ρ H y v/\RelV v u
 | [],_,_,_,h,hv,hu=>by cases h;cases hv;cases hu
 | x::xs,_,_,u,h,hv,hu=>by
  obtain ⟨v,r,rfl,h1,h2⟩:=h
  cases hv with
  | cons r1 r2 =>
   rcases List.mem_cons.mp hu with rfl|hu
   ·exact ⟨x,v,by simp,h1,r1⟩
   ·obtain ⟨y,w,q1,q2,q3⟩:=Rs.mem h2 r2 hu
    exact ⟨y,w,by simp [q1],q2,q3⟩
theorem Rs.mem':∀{xs:List PV}{vs:List V}{us:List Value}{y:PV},Rs K mg ρ H xs vs->Vals vs us->y∈xs->∃u v,u∈us/\R K mg ρ H y v/\RelV v u
 | [],_,_,_,_,_,hy=>by cases hy
 | x::xs,_,_,y,h,hv,hy=>by
  obtain ⟨v,r,rfl,h1,h2⟩:=h
  cases hv with
  | cons r1 r2 =>
   rcases List.mem_cons.mp hy with rfl|hy
   ·exact ⟨_,v,by simp,h1,r1⟩
   ·obtain ⟨u,w,q1,q2,q3⟩:=Rs.mem' h2 r2 hy
    exact ⟨u,w,by simp [q1],q2,q3⟩
theorem zl8 {ys:List PV}{y:PV}(h:plains ys=true) (hy:y∈ys):Mi.plain y=true:=by
 obtain ⟨i,hi⟩:=List.getElem?_of_mem hy
 exact zbB h hi
theorem zl9 {ys:List PV}{y:PV}(hy:y∈ys):dep y<=deps ys:=by
 obtain ⟨i,hi⟩:=List.getElem?_of_mem hy
 exact zcR hi
open Classical in
theorem zfG (I:Inv X pins U H s) {A:Around}(hu:A.units+200<cLine) {ys:List PV}{vs:List V}{us:List Value}{x:PV}{w:V}{v:Value}(ok:okIn x ys) (ry:Rs X.K mg ρ H ys vs) (rv:Vals vs us) (rx:R X.K mg ρ H x w) (rw:RelV w v) :
  (∀u∈us,SeqAt.EqAt A.in1 s u v (eIn X.K mg ρ H ys x u))/\us.any (eIn X.K mg ρ H ys x)=ys.any fun y=>eqP y x:=by
 obtain ⟨px,py,hd⟩:=ok
 have one:∀y v' u,y∈ys->R X.K mg ρ H y v'->RelV v' u->SeqAt.EqAt A.in1 s u v (eqP y x):=fun y v' u hy r1 r2 =>
  (zcS I 150 y x A.in1 (Nat.le_trans (zl9 hy) hd) (zl8 py hy) px r1 rx r2 rw (by rw [zbC];omega)).1
 refine ⟨fun u hu'=>?_,?_⟩
 ·obtain ⟨y,v',q1,q2,q3⟩:=Rs.mem ry rv hu'
  by_cases h:∃y v,y∈ys/\R X.K mg ρ H y v/\RelV v u/\eqP y x=true
  ·have e:eIn X.K mg ρ H ys x u=true:=by simpa [eIn] using h
   obtain ⟨y2,v2,z1,z2,z3,z4⟩:=h
   rw [e,<-z4]
   exact one y2 v2 u z1 z2 z3
  ·have e:eIn X.K mg ρ H ys x u=false:=by unfold eIn;exact decide_eq_false h
   rw [e]
   have:eqP y x=false:=by
    cases hq:eqP y x with
    | false=>rfl
    | true=>exact absurd ⟨y,v',q1,q2,q3,hq⟩ h
   rw [<-this]
   exact one y v' u q1 q2 q3
 ·rw [Bool.eq_iff_iff]
  simp only [List.any_eq_true]
  constructor
  ·rintro ⟨u,hu',he⟩
   have h:∃y v,y∈ys/\R X.K mg ρ H y v/\RelV v u/\eqP y x=true:=by unfold eIn at he;exact of_decide_eq_true he
   obtain ⟨y,v',z1,_,_,z4⟩:=h
   exact ⟨y,z1,z4⟩
  ·rintro ⟨y,hy,he⟩
   obtain ⟨u,v',q1,q2,q3⟩:=Rs.mem' ry rv hy
   exact ⟨u,q1,by unfold eIn;exact decide_eq_true ⟨y,v',hy,q2,q3,he⟩⟩
def yK (neg:Bool):PV->PV->Mo PV
 | x,.tup ys,st=>if okIn x ys then .ok (.bl (neg.xor (ys.any fun y=>eqP y x))) st else .stuck
 | x,.frl ys,st=>if okIn x ys then .ok (.bl (neg.xor (ys.any fun y=>eqP y x))) st else .stuck
 | x,.ref n,st=>match st[n]?,x with
  | some (.lst ys),x=>if okIn x ys then .ok (.bl (neg.xor (ys.any fun y=>eqP y x))) st else .stuck
  | some (.dic ks xs),.str z=>.ok (.bl (neg.xor ((ks.zip xs).lookup z).isSome)) st
  | _,_=>.stuck
 | .str ⟨⟨[c]⟩⟩,.str z,st=>.ok (.bl (neg.xor (decide (c∈z.cps.toList)))) st
 | _,_,_=>.stuck
def zc3 (K:Frag) (mg:Str->Option Value) (neg:Bool):R2:=fun v w H Q =>
 (∃ρ x ys vs p,okIn x ys/\w=.ref p/\(SqL K H p vs\/SqT K H p vs)/\Rs K mg ρ H ys vs/\R K mg ρ H x v/\Q (.bl (neg.xor (ys.any fun y=>eqP y x))) H) \/
 (∃p o,w=.ref p/\DGet H p v o/\Q (.bl (neg.xor o.isSome)) H)\/∃(c:Nat) (z:Str),v=.str ⟨#[c]⟩/\w=.str z/\Q (.bl (neg.xor (decide (c∈z.cps.toList)))) H
theorem zfH (hu:X.A.units+200<cLine):OpR X (compareOp .In) (zc3 X.K X.mg false):=by
 intro pins s U H x y v u Q I rx ry h
 rcases h with ⟨ρ,a,ys,vs,p,ok,rfl,hq,rys,ra,q⟩|⟨p,o,rfl,g,q⟩|⟨c,z,rfl,rfl,q⟩
 ·obtain rfl:u=Value.ref p:=ry
  rcases hq with hq|hq
  ·obtain ⟨its,r,pl,_⟩:=I.list hq
   obtain ⟨f1,f2⟩:=zfG I hu ok rys r ra rx
   refine SeqAt.in_listAt (eIn X.K X.mg ρ H ys a) pl.isList (fun w hw=>f1 w (by simpa using hw)) ⟨.bl _,H,I,rfl,?_⟩
   rw [show its.toArray.any (eIn X.K X.mg ρ H ys a)=its.any (eIn X.K X.mg ρ H ys a) by simp,f2]
   simpa using q
  ·obtain ⟨its,r,pl,_⟩:=I.tuple hq
   obtain ⟨f1,f2⟩:=zfG I hu ok rys r ra rx
   refine SeqAt.in_tupleAt (eIn X.K X.mg ρ H ys a) pl (fun w hw=>f1 w (by simpa using hw)) ⟨.bl _,H,I,rfl,?_⟩
   rw [show its.toArray.any (eIn X.K X.mg ρ H ys a)=its.any (eIn X.K X.mg ρ H ys a) by simp,f2]
   simpa using q
 ·obtain rfl:u=Value.ref p:=ry
  exact zke (by omega) I g rx fun s' I'=>⟨.bl o.isSome,H,I',rfl,by simpa using q⟩
 ·exact zkb pins s U H _ _ v u Q I rx ry ⟨c,z,rfl,rfl,by simpa using q⟩
theorem zfI {neg:Bool}:OpM K mg (zc3 K mg neg) (yK neg):=by
 intro ρ H st x y v w Q E s rx ry h
 cases y with
 | tup ys =>
  obtain ⟨p,vs,rfl,k1,k2⟩:=ry
  obtain ⟨ok,h⟩:=Out.ifp (show Out K mg ρ H (if okIn x ys then .ok (.bl (neg.xor (ys.any fun y=>eqP y x))) st else .stuck) (gV K mg Q) E from by cases x<;>exact h)
  exact .inl ⟨ρ,x,ys,vs,p,ok,rfl,.inr k1,k2,rx,h.now s _ rfl⟩
 | frl ys =>
  obtain ⟨p,vs,rfl,k1,k2⟩:=ry
  obtain ⟨ok,h⟩:=Out.ifp (show Out K mg ρ H (if okIn x ys then .ok (.bl (neg.xor (ys.any fun y=>eqP y x))) st else .stuck) (gV K mg Q) E from by cases x<;>exact h)
  exact .inl ⟨ρ,x,ys,vs,p,ok,rfl,.inl k1.sq,k2,rx,h.now s _ rfl⟩
 | ref n =>
  cases hn:st[n]? with
  | none=>exfalso;cases x<;>(simp only [yK,hn] at h;exact h)
  | some so =>
   cases so with
   | lst ys =>
    obtain ⟨p,vs,rfl,_,k1,k2⟩:=R.refL s ry hn
    obtain ⟨ok,h⟩:=Out.ifp (show Out K mg ρ H (if okIn x ys then .ok (.bl (neg.xor (ys.any fun y=>eqP y x))) st else .stuck) (gV K mg Q) E from by cases x<;>(simp only [yK,hn] at h;exact h))
    exact .inl ⟨ρ,x,ys,vs,p,ok,rfl,.inl (SqL.of k1),k2,rx,h.now s _ rfl⟩
   | dic ks xs =>
    obtain ⟨p,vs,rfl,_,k1,k2,k3⟩:=R.refD s ry hn
    cases x with
    | str z =>
     simp only [yK,hn] at h
     cases rx
     refine .inr (.inl ⟨p,_,rfl,zfF k1,?_⟩)
     have e:((ks.zip vs).lookup z).isSome=((ks.zip xs).lookup z).isSome:=by
      cases hq:(ks.zip xs).lookup z with
      | some q=>obtain ⟨v,hv,_⟩:=j2 k2 hq;rw [hv];rfl
      | none =>
       have:z∉ks:=by
        intro hz
        obtain ⟨i,hi⟩:=List.getElem?_of_mem hz
        have hl:i<xs.length:=by rw [k2.len,<-k3];exact (List.getElem?_eq_some_iff.mp hi).1
        have:=List.lookup_eq_none_iff.mp hq (z,xs[i]) (List.mem_iff_getElem?.mpr ⟨i,by simp [List.getElem?_zip_eq_some,hi,hl]⟩)
        simp at this
       rw [zaN this];rfl
     rw [e]
     exact h.now s _ rfl
    | _=>simp only [yK,hn] at h;exact False.elim h
   | ins c ks xs=>exfalso;cases x<;>(simp only [yK,hn] at h;exact h)
   | fdi ks xs=>exfalso;cases x<;>(simp only [yK,hn] at h;exact h)
 | str z =>
  cases x with
  | str q =>
   obtain ⟨⟨l⟩⟩:=q
   match l,rx,h with
   | [c],rx,h=>cases rx;cases ry;exact .inr (.inr ⟨c,z,rfl,rfl,Out.now (x:=PV.bl _) h s _ rfl⟩)
   | [],rx,h=>exact False.elim h
   | _::_::_,rx,h=>exact False.elim h
  | _=>exact False.elim h
 | non=>exfalso;cases x<;>exact h
 | bl _=>exfalso;cases x<;>exact h
 | int _=>exfalso;cases x<;>exact h
 | ty _=>exfalso;cases x<;>exact h
 | fn _=>exfalso;cases x<;>exact h
 | kd _ _=>exfalso;cases x<;>exact h
 | exo _ _ _=>exfalso;cases x<;>exact h
theorem zfJ (hu:X.A.units+200<cLine):CmpOk X .In (yK false):=⟨_,zfH hu,zfI⟩
end
section
variable {X:Cx}{Er:XK}{pos:Pos}
abbrev XN:XK:=fun _ _ _=>False
theorem wn:jq X XN:=fun _ _ _ _ _ _ _ _ _ q=>q.elim
def compL (fe:zc->Mo PV) (env:zc):List PV->List PV->Mo PV
 | [],ys,st=>.ok (.ref st.length) (st++[.lst ys])
 | x::xs,ys,st=>(noErr (fe (some x::env) st)).bind fun y st1=>compL fe env xs (ys++[y]) st1
def compR (fe:zc->Mo PV) (env:zc) (n:Nat):Nat->Nat->List PV->Mo PV
 | 0,_,_,_=>.stuck
 | m+1,i,ys,st=>z9 st n fun xs=>match xs[i]? with
  | none=>.ok (.ref st.length) (st++[.lst ys])
  | some x=>(noErr (fe (some x::env) st)).bind fun y st1=>compR fe env n m (i+1) (ys++[y]) st1
def compS (fe:zc->Mo PV) (env:zc):Sq->Mo PV
 | .im xs,st=>if xs.length<=lim then compL fe env xs [] st else .stuck
 | .rf n,st=>compR fe env n (lim+1) 0 [] st
def yt (src:zc->Mo Sq) (fe:zc->Mo PV):zc->Mo PV:=fun env st=>(src env st).bind fun q st1=>compS fe env q st1
theorem Rs.snoc {K:Frag}{mg:Str->Option Value}{ρ:List Addr}{H:Hp}{x:PV}{v:V}(r:R K mg ρ H x v):∀{xs:List PV}{vs:List V},Rs K mg ρ H xs vs->Rs K mg ρ H (xs++[x]) (vs++[v])
 | [],_,h=>by cases h;exact ⟨v,[],rfl,r,rfl⟩
 | y::xs,_,h=>by
  obtain ⟨w,q,rfl,h1,h2⟩:=h
  exact ⟨w,q++[v],rfl,h1,Rs.snoc r h2⟩
theorem zbM {elt iter:Expr} {x:Str} {px:Pos} {scope:Scope} {src:zc->Mo Sq} {fe:zc->Mo PV} {M:List Str} (hc:X.calm=true) (S:CompSc X.env.scope scope x) (eN:Hid scope M X.N) (hN0:((".0" : Str)::x::M).Nodup)
  (hi:MI X Er (.Name x px) iter src) (he:∀cl C ae ai fp,ME (cxH X M scope cl x C ae ai fp (fun _ _=>False)) XN elt fe)
  (hs:∀v,foldedSetIterable iter X.env v=pure v:=by intro _;rfl):ME X Er (.ListComp elt [⟨.Name x px,iter,[],0⟩] scope pos) (yt src fe) :=
 PE.weak (zeV (te:=tM X.K X.mg XN fe) hc S eN hN0 hi (fun cl C ae ai fp=>he cl C ae ai fp) hs) fun U H Q ⟨env,st,ρ,re,rs,h⟩=>⟨env,st,ρ,re,rs,h.then fun ao H0 q st0 e0 s0 h0 J wk=>by
  cases q with
  | im xs =>
   obtain ⟨hl,h0⟩:=Out.ifp h0
   obtain ⟨w1,w2,w3⟩:=wk
   refine ⟨fun i m ys H=>m=xs.length-i/\i<=xs.length/\ys.length=i/\∃ps st ρ,Rs X.K X.mg ρ H ps ys/\StR X.K X.mg ρ H st/\Ext ao H0 ρ H/\Out X.K X.mg ρ H (compL fe env (xs.drop i) ps st) (gV X.K X.mg Q) Er,⟨xs.length,by simp,Nat.zero_le _,rfl,[],st0,ao,rfl,s0,Ext.refl,h0⟩,?_⟩
   rintro i m ys H ⟨rfl,hi,hy,ps,st,ρ,rps,rs,ex,h⟩
   by_cases hlt:i<xs.length
   ·refine .inr ⟨w1 i ρ H ex hlt,yz (by omega),fun v H' y=>?_⟩
    obtain ⟨x,hx,ex2,s2,rx⟩:=w3 i ρ H st v H' ex rs hlt y
    have hd:xs.drop i=x::xs.drop (i+1):=by
     rw [List.drop_eq_getElem_cons hlt]
     have:=(List.getElem?_eq_some_iff.mp hx).2
     rw [this]
    rw [hd] at h
    simp only [compL] at h
    refine ⟨some x::env,st,ρ,(re.ext (e0.trans (ex.trans ex2))).cons rx,s2,zaP (Out.ext h ex2) fun am H3 y st3 e3 s3 h3 v ry=>⟨xs.length-(i+1),by omega,rfl,hlt,by simp [hy],ps++[y],st3,am,Rs.snoc ry (Rs.ext (ex2.trans e3) ps rps),s3,(ex.trans ex2).trans e3,h3⟩⟩
   ·have e:i=xs.length:=by omega
    subst e
    rw [List.drop_length] at h
    exact .inl ⟨w2 _ ρ H ex (Nat.le_refl _),yz (by omega),fun l hl=>Out.newList h rs rps hl⟩
  | rf n =>
   obtain ⟨a,ha,rfl⟩:=wk
   refine ⟨fun i m ys H=>m+i=lim+1/\ys.length=i/\∃ps st ρ,Rs X.K X.mg ρ H ps ys/\StR X.K X.mg ρ H st/\Ext ao H0 ρ H/\ρ[n]?=some a/\Out X.K X.mg ρ H (compR fe env n m i ps st) (gV X.K X.mg Q) Er,⟨lim+1,rfl,rfl,[],st0,ao,rfl,s0,Ext.refl,ha,h0⟩,?_⟩
   rintro i m ys H ⟨hm,hy,ps,st,ρ,rps,rs,ex,ha,h⟩
   cases m with
   | zero=>exact False.elim h
   | succ m =>
    obtain ⟨xs,hn,h⟩:=yW h
    obtain ⟨vs,hH,hR⟩:=rs.addr hn ha
    cases hx:xs[i]? with
    | none =>
     simp only [hx] at h
     have:vs.length<=i:=by rw [<-hR.len];exact List.getElem?_eq_none_iff.mp hx
     exact .inl ⟨⟨vs,SqL.of hH,this⟩,yz (by omega),fun l hl=>Out.newList h rs rps hl⟩
    | some x =>
     simp only [hx] at h
     obtain ⟨v,hv,rv⟩:=hR.get hx
     refine .inr ⟨⟨vs,v,SqL.of hH,hv⟩,yz (by omega),fun v' H' y=>?_⟩
     obtain ⟨e1,y⟩:=y
     subst e1
     have e2:=y vs (SqL.of hH)
     rw [hv] at e2
     cases e2
     exact ⟨some x::env,st,ρ,(re.ext (e0.trans ex)).cons rv,rs,zaP h fun am H3 y st3 e3 s3 h3 v ry=>⟨m,Nat.lt_succ_self m,by omega,by simp [hy],ps++[y],st3,am,Rs.snoc ry (Rs.ext e3 ps rps),s3,ex.trans e3,e3.get ha,h3⟩⟩⟩
theorem zad {elt iter:Expr} {x:Str} {px:Pos} {scope:Scope} {src:zc->Mo Sq} {fe:zc->Mo PV} {N:List Str} (hc:X.calm=true) (S:CompSc X.env.scope scope x) (eN:X.N=N) (hN0:((".0" : Str)::x::N).Nodup)
  (hi:MI X Er (.Name x px) iter src) (he:∀cl C ae ai fp,ME (cxC X scope cl x C ae ai fp (fun _ _=>False)) XN elt fe)
  (hs:∀v,foldedSetIterable iter X.env v=pure v:=by intro _;rfl):ME X Er (.ListComp elt [⟨.Name x px,iter,[],0⟩] scope pos) (yt src fe) :=
 zbM hc S Hid.refl (eN▸hN0) hi he hs
end
section
variable {env:Env}{es:List Expr}{pos:Pos}
abbrev St1 (e:Expr) (es:List Expr) (env:Env):Prop:=starEach (e::es) env=(false,eval e env)::starEach es env
end
end Mi
namespace L2
open PySem PySem.Spec PyProof.Rows PySem.W
abbrev ZB (h:Heap) (z TI TO T:Addr) (f:Bool):Prop:=h.get? z=some { cls:=.type "zip", dict:=none,data:=.fields #[rawInt T,.bool f,.bool false,.ref TI,.ref TO],slots:=#[] }
section
variable {prog:Program}{w:World}{A:Around}{E:Value->Shared->Prop}{s:Shared}{z TI TO T i1 i2 t1 t2:Addr}{k:Nat}{xs ys:Array Value}{x y a b:Value}{S1 S2:Nat->Heap->Prop}{f:Bool}{o:Obj}
end
structure ZS (z TI TO i1 i2 a b:Addr) (xs ys:Array Value) (k:Nat) (h:Heap):Prop where
 zi:(IsZip h z TI TO .none/\∃u v,IsPair h TO u v)\/∃T f o,ZB h z TI TO T f/\h.get? T=some o
 ti:IsPair h TI (.ref i1) (.ref i2)
 s1:StT i1 a xs k h
 s2:StT i2 b ys k h
section
variable {prog:Program}{w:World}{A:Around}{E:Value->Shared->Prop}{s:Shared}{z TI TO i1 i2 a b:Addr}{k:Nat}{xs ys:Array Value}{x y:Value}
end
def putAll (ps:List (Key×V)) (kvs:List (Key×V)):List (Key×V):=ps.foldl (fun m p=>putK m p.1 p.2) kvs
structure Ap (d z TI TO i1 i2 a b:Addr):Prop where
 z:d≠z
 TI:d≠TI
 TO:d≠TO
 i1:d≠i1
 i2:d≠i2
 a:d≠a
 b:d≠b
section
variable {prog:Program}{w:World}{A:Around}{R:Result->Shared->Prop}{z TI TO i1 i2 a b d:Addr}{xs ys:Array Value}{keys:List Key}{vals:List V}
theorem ZS.keep {k:Nat}{h h':Heap}(st:ZS z TI TO i1 i2 a b xs ys k h) (P:Ap d z TI TO i1 i2 a b) (hs:Heap.SameBut d h h') (hd:∃o,h'.get? d=some o):ZS z TI TO i1 i2 a b xs ys k h':=by
 have up:∀c o,c≠d->h.get? c=some o->h'.get? c=some o:=fun c o n e=>hs.extBut _ _ n e
 obtain ⟨⟨⟨o1,g1,r1⟩,⟨p1,e1,t1⟩⟩,⟨⟨o2,g2,r2⟩,⟨p2,e2,t2⟩⟩⟩:=And.intro st.s1 st.s2
 refine ⟨?_,up _ _ P.TI.symm st.ti,⟨⟨o1,up _ _ P.i1.symm g1,r1⟩,⟨p1,up _ _ P.a.symm e1,t1⟩⟩,⟨⟨o2,up _ _ P.i2.symm g2,r2⟩,⟨p2,up _ _ P.b.symm e2,t2⟩⟩⟩
 rcases st.zi with ⟨hz,u,v,hTO⟩|⟨T,f,o,hz,hT⟩
 ·exact .inl ⟨up _ _ P.z.symm hz,u,v,up _ _ P.TO.symm hTO⟩
 ·by_cases e:T=d
  ·obtain ⟨o',ho'⟩:=hd
   exact .inr ⟨T,f,o',up _ _ P.z.symm hz,by rw [e];exact ho'⟩
  ·exact .inr ⟨T,f,o,up _ _ P.z.symm hz,up _ _ e hT⟩
end
section
variable {prog:Program}{w:World}{A:Around}{E:Value->Shared->Prop}{s:Shared}{z TI TO i1 i2 a b:Addr}{xs ys:Array Value}{keys:List Key}{vals:List V}
end
end L2
namespace Mi
open PySem L2 PySem.W PySem.Spec
section
variable {X:Cx}{K:Frag}{mg:Str->Option Value}{Er:XK}{e o:Expr}{es:List Expr}{pos p apos:Pos}{k:Nat}{x:Str}{m:List PV->Mo PV}{fs:zc->Mo (List PV)}{fo fa:zc->Mo PV}
end
section
variable {X:Cx}{K:Frag}{mg:Str->Option Value}{Er:XK}{e o:Expr}{es:List Expr}{pos p apos:Pos}{fs:zc->Mo (List PV)}{fo fa:zc->Mo PV}
def augGet (f:Str) (ins:Str->Bool) (o:PV) (st:Sto) (k:Nat->Str->Int->Res Fl):Res Fl:=match o with
 | .ref n=>yh st n fun c ks xs=>if ins c=true then match (ks.zip xs).lookup f with
  | some (.int i)=>k n c i
  | _=>.stuck
  else .stuck
 | _=>.stuck
def augPut (f:Str) (n:Nat) (c:Str) (i:Int) (y:PV) (env:zc) (st:Sto):Res Fl:=match y with
 | .int j=>yh st n fun c' ks xs=>if c'=c/\ks.length<1000 then .ok (.nx env) (st.set n (.ins c (putK f (.int (i+j)) ks xs).1 (putK f (.int (i+j)) ks xs).2)) else .stuck
 | _=>.stuck
def jM (f:Str) (ins:Str->Bool) (fo fv:zc->Mo PV):zc->Mo Fl:=fun env st=>(fo env st).bind fun o st1=>augGet f ins o st1 fun n c i=>(fv env st1).bind fun y st2=>augPut f n c i y env st2
theorem zbN {f:Str}{ins exc:Str->Bool}{tpos:Pos}(F:FldF X.K X.mg f ins exc) (ho:ME X Er o fo) (he:ME X Er e fa):MS X Er (.AugAssign (.Attribute o f tpos) .Add e pos) (jM f ins fo fa) :=
 PS.weak (zi7 ho he zi9) fun D U H ⟨env,st,ρ,re,rs,h⟩=>⟨env,st,ρ,re,rs,h.then fun af H1 x st1 e1 s1 h1 v rv=>by
  cases x with
  | ref n =>
   obtain ⟨c,ks,xs,hn,h1⟩:=zby h1
   obtain ⟨hc,h1⟩:=Out.ifp h1
   cases hl:(ks.zip xs).lookup f with
   | none=>simp only [hl] at h1;exact False.elim h1
   | some y =>
    cases y with
    | int i =>
     simp only [hl] at h1
     obtain ⟨p,rfl,hp⟩:=rv
     obtain ⟨C',dx,vs,hC',hH,hR,hlen⟩:=s1.addr hn hp
     obtain ⟨C,hC,cl,na⟩:=F.i c hc
     rw [hC] at hC'
     cases hC'
     obtain ⟨v,hv,rv⟩:=j2 hR hl
     cases rv
     refine ⟨p,_,dx,_,_,rfl,hH,cl,na,hv,env,st1,af,re.ext e1,s1,h1.then fun ak H2 y st2 e2 s2 h2 w rw=>?_⟩
     cases y with
     | int j =>
      obtain ⟨c2,ks2,xs2,hn2,h2⟩:=zby h2
      obtain ⟨⟨hcc,hk2⟩,h2⟩:=Out.ifp h2
      subst hcc
      cases rw
      have hp2:=e2.get hp
      obtain ⟨C2,dx2,vs2,hC2,hH2,hR2,hl2⟩:=s2.addr hn2 hp2
      rw [hC] at hC2
      cases hC2
      obtain ⟨ws,k1,k2,k3⟩:=zcU (f:=f) (x:=PV.int (i+j)) (v:=V.int (i+j)) (K:=X.K) (mg:=X.mg) (ρ:=ak) (H:=H2) rfl hl2 hR2
      refine ⟨i,j,rfl,rfl,dx2,_,hH2,?_,?_⟩
      ·rw [List.length_zip,<-hl2];omega
      ·have ew:Ext ak H2 ak (upd H2 p (.ins C' dx2 (putF f (V.int (i+j)) (ks2.zip vs2)))):=Ext.write hH2 rfl
       exact h2 ak _ ew (s2.write hp2 ew ⟨_,dx2,ws,hC,by rw [yn,k1],Rs.ext ew _ k2,k3⟩) U (((re.ext e1).ext e2).ext ew)
     | _=>exact False.elim h2
    | _=>simp only [hl] at h1;exact False.elim h1
  | _=>exact False.elim h1⟩
def strsOf:List PV->Option (List Str)
 | []=>some []
 | .str z::r=>(strsOf r).map (z::·)
 | _::_=>none
def zae:List (Str×PV)->List Str->List PV->List Str×List PV
 | [],ks,xs=>(ks,xs)
 | q::r,ks,xs=>zae r (yO q.1 q.2 ks xs).1 (yO q.1 q.2 ks xs).2
theorem zfK {ρ:List Addr}{H:Hp}:∀{xs:List PV}{zs:List Str}{vs:List V},strsOf xs=some zs->Rs K mg ρ H xs vs->vs=(zs.map Sum.inr:List Key).map kV
 | [],zs,vs,e,h=>by cases e;cases h;rfl
 | .str z::r,zs,vs,e,h=>by
  simp only [strsOf,Option.map_eq_some_iff] at e
  obtain ⟨zr,e1,rfl⟩:=e
  obtain ⟨v,r',rfl,h1,h2⟩:=h
  cases h1
  rw [zfK e1 h2]
  rfl
 | .non::_,_,_,e,_=>by cases e
 | .bl _::_,_,_,e,_=>by cases e
 | .int _::_,_,_,e,_=>by cases e
 | .ty _::_,_,_,e,_=>by cases e
 | .tup _::_,_,_,e,_=>by cases e
 | .frl _::_,_,_,e,_=>by cases e
 | .ref _::_,_,_,e,_=>by cases e
 | .fn _::_,_,_,e,_=>by cases e
 | .kd _ _::_,_,_,e,_=>by cases e
 | .exo _ _ _::_,_,_,e,_=>by cases e
theorem zfL {ρ:List Addr}{H:Hp}:∀{zs:List Str}{ys:List PV}{us:List V}{ks:List Str}{xs:List PV}{vs:List V},Rs K mg ρ H ys us->Rs K mg ρ H xs vs->ks.length=vs.length ->
  ∃ws,putAll ((zs.map Sum.inr:List Key).zip us) (kz ks vs)=kz (zae (zs.zip ys) ks xs).1 ws/\Rs K mg ρ H (zae (zs.zip ys) ks xs).2 ws/\(zae (zs.zip ys) ks xs).1.length=ws.length
 | [],ys,us,ks,xs,vs,_,h,hl=>⟨vs,rfl,h,hl⟩
 | z::zs,[],us,ks,xs,vs,hy,h,hl=>by
  cases hy
  exact ⟨vs,rfl,h,hl⟩
 | z::zs,y::ys,us,ks,xs,vs,hy,h,hl=>by
  obtain ⟨u,r,rfl,h1,h2⟩:=hy
  obtain ⟨ws,q1,q2,q3⟩:=zfD (z:=z) h1 hl h
  obtain ⟨ws',p1,p2,p3⟩:=zfL (zs:=zs) h2 q2 q3
  refine ⟨ws',?_,p2,p3⟩
  show putAll _ (L2.putK (kz ks vs) (Sum.inr z) u)=_
  rw [q1]
  exact p1
end
end Mi
namespace L2
open PySem PySem.Spec PyProof.Rows PySem.W
end L2
namespace Mi
open PySem L2 PySem.W PySem.Spec
section
variable {X:Cx}{Er:XK}{pos:Pos}{sts:List Stmt}{gb:zc->Mo Fl}{fs:zc->Mo (List PV)}
def zbO:List PV->Mo Nat
 | [.ref n],st=>z9 st n fun _=>.ok n st
 | _,_=>.stuck
theorem zmb {α:Type}{K:Frag}{mg:Str->Option Value}{ρ:List Addr}{H:Hp}{vs:List PV}{st:Sto}{f:Nat->Mo α}{good:List Addr->Hp->α->Sto->Prop}(h:Out K mg ρ H ((zbO vs st).bind f) good Er):∃n xs,vs=[.ref n]/\st[n]?=some (.lst xs)/\Out K mg ρ H (f n st) good Er:=by
 unfold zbO at h
 split at h
 ·rename_i n
  unfold z9 at h
  cases hn:st[n]? with
  | none=>simp only [hn] at h;exact False.elim h
  | some so =>
   cases so with
   | lst xs=>simp only [hn] at h;exact ⟨n,xs,rfl,hn,h⟩
   | _=>simp only [hn] at h;exact False.elim h
 ·exact False.elim h
end
section
variable {X:Cx}{Er:XK}{pos:Pos}{fs:zc->Mo (List PV)}
end
end Mi
namespace L2
open PySem PySem.Spec PyProof.Rows PySem.W
def repS (z:Str) (n:Int):Str:=if n<1 then Str.empty else if (n==1||z.length==0)=true then z else ⟨(List.replicate n.toNat z.cps).foldl (·++·) #[]⟩
theorem zfM (c:Array Nat):∀(k:Nat) (a:Array Nat),((List.replicate k c).foldl (·++·) a).size=a.size+k*c.size
 | 0,a=>by simp
 | k+1,a=>by
  rw [List.replicate_succ,List.foldl_cons,zfM c k,Array.size_append,Nat.succ_mul]
  omega
theorem zmc (z:Str) (n:Int):(repS z n).length=n.toNat*z.length:=by
 unfold repS
 split
 ·rename_i h
  have:n.toNat=0:=by omega
  rw [this,Nat.zero_mul];rfl
 ·rename_i h
  split
  ·rename_i h2
   simp only [Bool.or_eq_true,beq_iff_eq] at h2
   rcases h2 with h2|h2
   ·subst h2;simp
   ·rw [h2];simp
  ·show ((List.replicate n.toNat z.cps).foldl (·++·) #[]).size=_
   rw [zfM]
   show 0+n.toNat*z.cps.size=_
   rw [Nat.zero_add];rfl
def zfN:R2:=fun x y H Q=>∃z n,x=.str z/\y=.int n/\(0<=n/\n<=1000/\z.length<=1000)/\Q (.str (repS z n)) H
theorem zmd {X:Cx}:OpR X (binaryOp .Mult) zfN:=by
 intro pins s U H x y v u Q I rx ry h
 obtain ⟨z,n,rfl,rfl,⟨h0,h1,h2⟩,q⟩:=h
 obtain ⟨t,rfl⟩:=rx
 obtain ⟨t',rfl⟩:=ry
 have hb:n.toNat*z.length<=1000000:=by
  have:n.toNat<=1000:=by omega
  calc n.toNat*z.length<=1000*1000:=Nat.mul_le_mul this h2
   _=1000000:=rfl
 have hsz:=sizeLine_eq
 refine PySem.P.mul_str (by rw [decide_eq_false (by omega),decide_eq_false (by omega)];rfl) (fun ha _=>?_) (fun _ _=>?_) ?_
 ·have:(2 ^ 63-1:Int)/n>=1000:=by
   rw [ge_iff_le,Int.le_ediv_iff_mul_le (by omega)]
   omega
  omega
 ·show decide _=false
  rw [decide_eq_false_iff_not]
  have:z.length*n.toNat<=1000000:=by rw [Nat.mul_comm];exact hb
  rw [sizeLine_eq];omega
 ·by_cases c1:n<1
  ·rw [if_pos c1]
   have e:repS z n=Str.empty:=by unfold repS;rw [if_pos c1]
   rw [e] at q
   exact ⟨by decide,.str Str.empty,H,I.tok _,⟨_,rfl⟩,q⟩
  ·rw [if_neg c1]
   by_cases c2:(n==1||z.length==0)=true
   ·rw [if_pos c2]
    have e:repS z n=z:=by unfold repS;rw [if_neg c1,if_pos c2]
    rw [e] at q
    exact ⟨.str z,H,I,⟨_,rfl⟩,q⟩
   ·rw [if_neg c2]
    have e:repS z n=⟨(List.replicate n.toNat z.cps).foldl (·++·) #[]⟩:=by unfold repS;rw [if_neg c1,if_neg c2]
    have hl:=zmc z n
    rw [e] at q hl
    exact ⟨by rw [hl,sizeLine_eq];omega,.str _,H,I.tok _,⟨_,rfl⟩,q⟩
end L2
namespace Mi
open PySem L2 PySem.W PySem.Spec
section
variable {X:Cx}{K:Frag}{mg:Str->Option Value}{Er:XK}{e o:Expr}{es:List Expr}{pos apos:Pos}{fs:zc->Mo (List PV)}{fo fa:zc->Mo PV}
def ym:PV->PV->Mo PV
 | .int i,.int j,st=>zff (.int i) (.int j) st
 | .str z,.int n,st=>if 0<=n/\n<=1000/\z.length<=1000 then .ok (.str (repS z n)) st else .stuck
 | _,_,_=>.stuck
theorem jz:BinOk X .Mult ym:=by
 obtain ⟨r,h1,h2⟩:=zk1 (X:=X)
 refine ⟨fun x y H Q=>r x y H Q\/zfN x y H Q,h1.or zmd,fun ρ H st x y v w Q E s rx ry h=>?_⟩
 cases x with
 | int i =>
  cases y with
  | int j=>exact .inl (h2 ρ H st (.int i) (.int j) v w Q E s rx ry h)
  | _=>exact False.elim h
 | str z =>
  cases y with
  | int n =>
   obtain ⟨c,h⟩:=Out.ifp h
   cases rx;cases ry
   exact .inr ⟨z,n,rfl,rfl,c,Out.now (x:=PV.str (repS z n)) h s _ rfl⟩
  | _=>exact False.elim h
 | _=>exact False.elim h
def zaf:List PV->Mo PV
 | [.int i],st=>if i.natAbs.log2<1920 then .ok (.str (toString i)) st else .stuck
 | _,_=>.stuck
theorem zfO:BltOk X (.type "str") zaf:=⟨_,ziY,fun ρ H st xs vs Q E s r h=>by
 unfold zaf at h
 split at h
 ·rename_i i
  obtain ⟨c,h⟩:=Out.ifp h
  obtain ⟨v,rfl,rfl⟩:=r.one
  exact ⟨i,rfl,c,Out.now (x:=PV.str (toString i)) h s _ rfl⟩
 ·exact False.elim h⟩
end
section
variable {env:zc}{st:Sto}{fa fb fo fi fv fe:zc->Mo PV}{fs:zc->Mo (List PV)}{ft:zc->Mo Bool}{g:zc->Mo Fl}{src:zc->Mo Sq}
@[simp] theorem zaT (n:Nat) (i:Int):zJ (.ref n) (.int i) st=z9 st n fun xs=>optR (atI xs i) st:=(rfl)
@[simp] theorem zfP (z:Str) (i:Int):zJ (.str z) (.int i) st=if z.length<=lim then optR ((atI z.cps.toList i).map fun c=>.str ⟨#[c]⟩) st else .stuck:=(rfl)
@[simp] theorem zag:yt src fe env st=(src env st).bind fun q st1=>compS fe env q st1:=(rfl)
@[simp] theorem zbP (xs:List PV):compS fe env (.im xs) st=if xs.length<=lim then compL fe env xs [] st else .stuck:=(rfl)
@[simp] theorem zfQ:iRng1 fs env st=(fs env st).bind wP:=(rfl)
@[simp] theorem zme (j:Int):wP [.int j] st=if cR j=true then .ok (.im (nums 0 j.toNat)) st else .stuck:=(rfl)
@[simp] theorem zmf (i:Int):zaf [.int i] st=if i.natAbs.log2<1920 then .ok (.str (toString i)) st else .stuck:=(rfl)
@[simp] theorem zmg (i j:Int):ym (.int i) (.int j) st=if cMul i j=true then .ok (.int (i*j)) st else .stuck:=(rfl)
@[simp] theorem zaU (n:Nat):wL [.ref n] st=z9 st n fun xs=>.ok (.tup xs) st:=(rfl)
@[simp] theorem zfR (n:Nat) (y:PV):wR (.ref n) y st=z9 st n fun xs=>if xs.length<lim then .ok .non (st.set n (.lst (xs++[y]))) else .stuck:=(rfl)
end
def Pre (a b:Sto):Prop:=∃d,b=a++d
theorem Pre.of (st d:Sto):Pre st (st++d):=⟨d,rfl⟩
theorem Pre.get {a b:Sto}(h:Pre a b) {n:Nat}{so:SO}(e:a[n]?=some so):b[n]?=some so:=by
 obtain ⟨d,rfl⟩:=h
 rw [List.getElem?_append_left (List.getElem?_eq_some_iff.mp e).1]
 exact e
theorem z0 (st:Sto) (so:SO):(st++[so])[st.length]?=some so:=by simp
theorem zmh {K:Frag}{mg:Str->Option Value}{t:IsT}(hs:t.sub=fun _ _=>none) (hT:t.subT=fun _ _=>none) (hC:t.tyC=fun _ _=>none):IsF K mg t where
 s c B b h:=by rw [hs] at h;cases h
 tt c n b h:=by rw [hT] at h;cases h
 u T B b h:=by rw [hC] at h;cases h
 x c C h hm z:=by
  rcases z with ⟨B,b,z⟩|⟨n,b,z⟩
  ·rw [hs] at z;cases z
  ·rw [hT] at z;cases z
 i c C h hm z:=by
  rcases z with ⟨B,b,z⟩|⟨n,b,z⟩
  ·rw [hs] at z;cases z
  ·rw [hT] at z;cases z
section
variable {X:Cx}{Er:XK}{pos:Pos}
inductive MPs (X:Cx) (Er:XK):List (Option Expr)->List Expr->List Str->List (zc->Mo PV)->Prop
 | nil:MPs X Er [] [] [] []
 | cons {z:Str} {j} {p:Pos} {v:Expr} {f:zc->Mo PV} {ks:List (Option Expr)} {vs:List Expr} {zs:List Str} {fs:List (zc->Mo PV)} (hv:ME X Er v f) (hr:MPs X Er ks vs zs fs):MPs X Er (some (.Constant (.str z) j p)::ks) (v::vs) (z::zs) (f::fs)
theorem MPs.len {ks:List (Option Expr)}{vs:List Expr}{zs:List Str}{fs:List (zc->Mo PV)}(h:MPs X Er ks vs zs fs):ks.length=vs.length/\zs.length=fs.length/\ks.length=zs.length/\ks.all (·.isSome)=true:=by
 induction h with
 | nil=>exact ⟨rfl,rfl,rfl,rfl⟩
 | cons hv hr ih=>exact ⟨by simp [ih.1],by simp [ih.2.1],by simp [ih.2.2.1],by simpa using ih.2.2.2⟩
def isEmp:Option SO->Bool
 | some (.dic [] [])=>true
 | _=>false
theorem zmi {o:Option SO}(h:isEmp o=true):o=some (.dic [] []):=by
 unfold isEmp at h
 split at h
 ·rfl
 ·cases h
theorem zfS:∀{zs:List Str}{vs:List V},(zs.map V.str).zip vs=((zs.map Sum.inr:List Key).zip vs).map fun kv=>(kV kv.1,kv.2)
 | [],_=>rfl
 | _::_,[]=>rfl
 | z::zs,v::vs=>by simp only [List.map_cons,List.zip_cons_cons,zfS (zs:=zs) (vs:=vs)];rfl
end
section
variable {X:Cx}
theorem zmj:bootBuiltins "max" = some (.builtin "max"):=by decide +kernel
end
section
variable {X:Cx}
end
def allE (f:PV->PV->Option Bool):List PV->List PV->Option Bool
 | [],[]=>some true
 | x::xs,y::ys=>match f x y,allE f xs ys with
  | some a,some b=>some (a&&b)
  | _,_=>none
 | _,_=>some false
def hitsE (f:PV->PV->Option Bool) (ks':List Str) (xs':List PV):List Str->List PV->Option Bool
 | k::ks,x::xs=>match (ks'.zip xs').lookup k with
  | none=>some false
  | some y=>match f x y,hitsE f ks' xs' ks xs with
   | some a,some b=>some (a&&b)
   | _,_=>none
 | _,_=>some true
theorem zfT {f:PV->PV->Option Bool}:∀{xs ys:List PV}{b:Bool},allE f xs ys=some b->∃e:Nat->Bool,(∀j x y,xs[j]?=some x->ys[j]?=some y->f x y=some (e j))/\((List.range (min xs.length ys.length)).all e&&xs.length==ys.length)=b
 | [],[],b,h=>by cases h;exact ⟨fun _=>true,fun j x y h=>by simp at h,by simp⟩
 | [],y::ys,b,h=>by cases h;exact ⟨fun _=>true,fun j x y h=>by simp at h,by simp⟩
 | x::xs,[],b,h=>by cases h;exact ⟨fun _=>true,fun j x y _ h=>by simp at h,by simp⟩
 | x::xs,y::ys,b,h=>by
  simp only [allE] at h
  cases hf:f x y with
  | none=>rw [hf] at h;cases h
  | some a =>
   cases hr:allE f xs ys with
   | none=>rw [hf,hr] at h;cases h
   | some c =>
    rw [hf,hr] at h
    cases h
    obtain ⟨e,h1,h2⟩:=zfT hr
    refine ⟨fun j=>match j with|0=>a|j+1=>e j,fun j u v hu hv=>?_,?_⟩
    ·cases j with
     | zero=>simp at hu hv;subst hu;subst hv;exact hf
     | succ j=>simp at hu hv;exact h1 j u v hu hv
    ·have e1:min (x::xs).length (y::ys).length=min xs.length ys.length+1:=by simp only [List.length_cons];omega
     have e2:((x::xs).length==(y::ys).length)=(xs.length==ys.length):=by
      rw [Bool.eq_iff_iff];simp
     rw [e1,e2,List.range_succ_eq_map,List.all_cons,List.all_map,<-h2,Bool.and_assoc]
     rfl
section
variable {X:Cx}{Er:XK}{K:Frag}{mg:Str->Option Value}{ρ:List Addr}{pins:List (Addr×Obj)}{U:L2.St}{H:Hp}{s:Shared}{st:Sto}
theorem zmk {ρ:List Addr}(nd:ρ.Nodup) {n m:Nat}{a:Addr}(h:ρ[n]?=some a) (h':ρ[m]?=some a):n=m:=by
 obtain ⟨h1,h2⟩:=List.getElem?_eq_some_iff.mp h
 obtain ⟨h3,h4⟩:=List.getElem?_eq_some_iff.mp h'
 have pw:=List.pairwise_iff_getElem.mp nd
 rcases Nat.lt_trichotomy n m with c|c|c
 ·exact absurd (h2.trans h4.symm) (pw n m h1 h3 c)
 ·exact c
 ·exact absurd (h4.trans h2.symm) (pw m n h3 h1 c)
theorem zfU {f:PV->PV->Option Bool}(hf:∀x y v b,f x y=some b->R K mg ρ H x v->R K mg ρ H y v->b=true):∀{xs ys:List PV}{vs:List V}{b:Bool},allE f xs ys=some b->Rs K mg ρ H xs vs->Rs K mg ρ H ys vs->b=true
 | [],[],vs,b,h,_,_=>by cases h;rfl
 | [],y::ys,vs,b,h,rx,ry=>by cases rx;obtain ⟨_,_,e,_⟩:=ry;cases e
 | x::xs,[],vs,b,h,rx,ry=>by cases ry;obtain ⟨_,_,e,_⟩:=rx;cases e
 | x::xs,y::ys,vs,b,h,rx,ry=>by
  obtain ⟨v,r,rfl,r1,r2⟩:=rx
  obtain ⟨v',r',e,r3,r4⟩:=ry
  cases e
  simp only [allE] at h
  cases h1:f x y with
  | none=>rw [h1] at h;cases h
  | some a =>
   cases h2:allE f xs ys with
   | none=>rw [h1,h2] at h;cases h
   | some c =>
    rw [h1,h2] at h
    cases h
    rw [hf x y v a h1 r1 r3,zfU hf h2 r2 r4]
    rfl
theorem zfV {f:PV->PV->Option Bool}(hf:∀x v b,f x x=some b->R K mg ρ H x v->b=true) {ks0:List Str}{xs0:List PV}:∀{ks:List Str}{xs:List PV}{vs:List V}{b:Bool},(∀k x,(k,x)∈ks.zip xs->(ks0.zip xs0).lookup k=some x)->hitsE f ks0 xs0 ks xs=some b->Rs K mg ρ H xs vs->b=true
 | [],xs,vs,b,_,h,_=>by cases xs<;>(cases h;rfl)
 | k::ks,[],vs,b,_,h,_=>by cases h;rfl
 | k::ks,x::xs,vs,b,hm,h,rx=>by
  obtain ⟨v,r,rfl,r1,r2⟩:=rx
  simp only [hitsE] at h
  rw [hm k x (by simp)] at h
  simp only at h
  cases h1:f x x with
  | none=>rw [h1] at h;cases h
  | some a =>
   cases h2:hitsE f ks0 xs0 ks xs with
   | none=>rw [h1,h2] at h;cases h
   | some c =>
    rw [h1,h2] at h
    cases h
    rw [hf x v a h1 r1,zfV hf (fun k' x' h'=>hm k' x' (by simp [h'])) h2 r2]
    rfl
theorem zfW:∀{ks:List Str}{xs:List PV},ks.Nodup->∀k x,(k,x)∈ks.zip xs->(ks.zip xs).lookup k=some x
 | [],_,_,k,x,h=>by simp at h
 | _::_,[],_,k,x,h=>by simp at h
 | k0::ks,x0::xs,nd,k,x,h=>by
  rw [List.nodup_cons] at nd
  rw [List.zip_cons_cons] at h ⊢
  rcases List.mem_cons.mp h with e|h'
  ·cases e;simp [List.lookup_cons]
  ·have hk:k∈ks:=(List.of_mem_zip h').1
   have ne:(k==k0)=false:=by
    simp only [beq_eq_false_iff_ne]
    intro e;subst e;exact nd.1 hk
   rw [List.lookup_cons,ne]
   exact zfW nd.2 k x h'
end
def EqW (P:Program) (W:World) (A:Around) (s:Shared) (u u':Value) (b:Bool):Prop:=∀(E:Value->Shared->Prop) (Q:Bool->Shared->Prop),Q b s->wpAny (model P W) A (eqBool u u') Q E s
def RcW (P:Program) (W:World) (A:Around) (s:Shared) (u u':Value) (b:Bool):Prop:=∀(E Q:Value->Shared->Prop),Q (.bool b) s->wpAny (model P W) A (richCompare .Eq u u') Q E s
section
variable {P:Program}{W:World}{A:Around}{s:Shared}
theorem EqW.of_refs {l b:Addr}{k:Bool}(hne:l≠b) (h:RcW P W A s (.ref l) (.ref b) k):EqW P W A s (.ref l) (.ref b) k:=fun E Q hq=>by
 unfold eqBool
 refine wpAny_holding (wpAny_ite_split (fun hab=>absurd (by have:=eq_of_beq hab;injection this) hne) fun _=>?_)
 exact wpAny_bind (h E _ (wpAny_truthy_bool hq))
theorem zml {l b:Addr}{its its2:Array Value}{n n2:Nat}{dd dd2:Option Addr}{sl sl2:Array (Option Value)}{e:Nat->Bool}{E Q:Value->Shared->Prop}
  (hl:s.heap.get? l=some { cls:=.type "tuple", dict:=dd,data:=.seq its n,slots:=sl }) (hb:s.heap.get? b=some { cls:=.type "tuple", dict:=dd2,data:=.seq its2 n2,slots:=sl2 })
  (he:∀j (h1:j<its.size) (h2:j<its2.size),EqW P W A.in1 s its[j] its2[j] (e j)) (h:Q (.bool ((List.range (min its.size its2.size)).all e&&its.size==its2.size)) s) :
  wpAny (model P W) A.in1 (Builtin.«tuple.__eq__» ⟨[.ref l,.ref b],[]⟩) (fun fin s'=>∃v,fin=.done (.ret v)/\Q v s') E s:=by
 obtain ⟨hp,g,d,tk,os⟩:=s
 have f2:=AutoSeq1.sub_tuple_tuple
 have hZ:(its.toList.zip its2.toList).length=min its.size its2.size:=by simp
 wp_walk using AutoSeq1.wpAny_loadPart' hl,AutoSeq1.wpAny_loadPart' hb,wpAny_forIn_list _ (fun rest b s'=>b.1=none/\s'=⟨hp,g,d,tk,os⟩/\∃i,rest=(its.toList.zip its2.toList).drop i/\Q (.bool (((List.range (min its.size its2.size)).drop i).all e&&its.size==its2.size)) ⟨hp,g,d,tk,os⟩) _
 case turn =>
  rintro ⟨y,x⟩ rest b s' ⟨hb',rfl,i,hz,hR⟩
  have hlt:i<(its.toList.zip its2.toList).length:=by
   rcases Nat.lt_or_ge i (its.toList.zip its2.toList).length with h'|h'
   ·exact h'
   ·rw [List.drop_of_length_le h'] at hz;cases hz
  have hm:i<min its.size its2.size:=hZ▸hlt
  have h1:i<its.size:=by omega
  have h2:i<its2.size:=by omega
  rw [List.drop_eq_getElem_cons hlt] at hz
  injection hz with hyx hrest
  have hy:y=its[i]:=by have:=congrArg Prod.fst hyx;simpa using this
  have hx:x=its2[i]:=by have:=congrArg Prod.snd hyx;simpa using this
  subst hy hx
  have hd:(List.range (min its.size its2.size)).drop i=i::(List.range (min its.size its2.size)).drop (i+1):=by simp [List.drop_eq_getElem_cons,hm]
  rw [hd,List.all_cons] at hR
  refine wpAny_bind (he i h1 h2 _ _ ?_)
  cases hy:e i with
  | true =>
   rw [hy] at hR
   wp_walk
   exact ⟨rfl,rfl,i+1,hrest,by simpa using hR⟩
  | false =>
   rw [hy] at hR
   wp_walk
   exact ⟨_,rfl,by simpa using hR⟩
 case fin =>
  rintro ⟨b1,b2⟩ s' ⟨hb',rfl,i,hz,hR⟩
  simp only at hb'
  subst hb'
  have hge:min its.size its2.size<=i:=by
   rcases Nat.lt_or_ge i (its.toList.zip its2.toList).length with h'|h'
   ·rw [List.drop_eq_getElem_cons h'] at hz;cases hz
   ·exact hZ▸h'
  rw [List.drop_of_length_le (by simpa using hge)] at hR
  wp_walk
  exact ⟨_,rfl,by simpa [Builtin.Tuple.tupleCompareSizes] using hR⟩
 case h=>exact ⟨rfl,rfl,0,rfl,by simpa using h⟩
theorem RcW.tuples {l b:Addr}{its its2:Array Value}{e:Nat->Bool}(hl:s.heap.IsTuple l its) (hb:s.heap.IsTuple b its2) (hu:A.units<cLine)
  (he:∀j (h1:j<its.size) (h2:j<its2.size),EqW P W A.in1 s its[j] its2[j] (e j)):RcW P W A s (.ref l) (.ref b) ((List.range (min its.size its2.size)).all e&&its.size==its2.size):=fun E Q h=>by
 obtain ⟨⟨cls,dd,data,sl⟩,ho,hc,n,hd⟩:=id hl
 obtain ⟨⟨cls2,dd2,data2,sl2⟩,ho2,hc2,n2,hd2⟩:=id hb
 simp only at hc hd hc2 hd2
 subst hc hd hc2 hd2
 refine wpAny_richCompare_same_room (op:=.Eq) ⟨_,ho,rfl⟩ ⟨_,ho2,rfl⟩ F.slot_tuple_eq (wpAny_call_entry F.slot_tuple_eq ⟨_,ho,rfl⟩ F.entry_tuple_eq (zml (Q:=fun v s'=>v ≠ .notImplemented/\Q v s') ho ho2 he (show Value.bool ((List.range (min its.size its2.size)).all e&&its.size==its2.size)≠Value.notImplemented/\Q (.bool ((List.range (min its.size its2.size)).all e&&its.size==its2.size)) s from ⟨(fun x=>nomatch x),h⟩)) (F.args_tuple_eq_2 _ _)) hu
end
section
variable {X:Cx}{Er:XK}{K:Frag}{mg:Str->Option Value}{ρ:List Addr}{pins:List (Addr×Obj)}{U:L2.St}{H:Hp}{s:Shared}{st:Sto}
theorem zfX {k:Str}{ks:List Str}{v:V}{vs:List V}{us:List (Key×Value)}(h:KV (kz (k::ks) (v::vs)) us):∃u r,us=(Sum.inr k,u)::r/\RelV v u/\KV (kz ks vs) r:=by
 cases h with
 | @cons p q ps qs h t =>
  obtain ⟨h1,h2⟩:=h
  obtain ⟨k',u⟩:=q
  have:k'=Sum.inr k:=h1.symm
  subst this
  exact ⟨u,qs,rfl,h2,t⟩
theorem zfY {f:Str}:∀{ks:List Str}{xs:List PV}{vs:List V},Rs K mg ρ H xs vs->(ks.zip xs).lookup f=none->(ks.zip vs).lookup f=none
 | [],_,_,_,_=>by simp
 | k::ks,[],_,r,_=>by cases r;simp
 | k::ks,y::xs,_,r,h=>by
  obtain ⟨v,r',rfl,h1,h2⟩:=r
  simp only [List.zip_cons_cons,List.lookup_cons] at h ⊢
  split at h
  ·cases h
  ·exact zfY h2 h
theorem zmm {f:PV->PV->Option Bool}{G:Value->Value->Bool->Prop}(hf:∀x y v w u u' b,f x y=some b->R K mg ρ H x v->R K mg ρ H y w->RelV v u->RelV w u'->G u u' b) {xs ys:List PV}{vs ws:List V}{its its2:List Value}{e:Nat->Bool}(h2:Rs K mg ρ H xs vs) (h4:Rs K mg ρ H ys ws) (r1:Vals vs its) (r2:Vals ws its2) (he:∀j x y,xs[j]?=some x->ys[j]?=some y->f x y=some (e j)) :
  ∀j (g1:j<its.toArray.size) (g2:j<its2.toArray.size),G its.toArray[j] its2.toArray[j] (e j):=by
 intro j g1 g2
 have l1:=h2.len
 have l2:=h4.len
 have l3:=r1.length
 have l4:=r2.length
 have k1:j<xs.length:=by rw [l1,l3];simpa using g1
 have k2:j<ys.length:=by rw [l2,l4];simpa using g2
 obtain ⟨v1,e1,rr1⟩:=h2.get (List.getElem?_eq_getElem k1)
 obtain ⟨v2,e2,rr2⟩:=h4.get (List.getElem?_eq_getElem k2)
 obtain ⟨u1,f1,ru1⟩:=r1.get e1
 obtain ⟨u2,f2,ru2⟩:=r2.get e2
 have w1:its.toArray[j]=u1:=by
  obtain ⟨_,z⟩:=List.getElem?_eq_some_iff.mp f1
  simpa using z
 have w2:its2.toArray[j]=u2:=by
  obtain ⟨_,z⟩:=List.getElem?_eq_some_iff.mp f2
  simpa using z
 rw [w1,w2]
 exact hf xs[j] ys[j] v1 v2 u1 u2 (e j) (he j _ _ (List.getElem?_eq_getElem k1) (List.getElem?_eq_getElem k2)) rr1 rr2 ru1 ru2
end
section
variable {X:Cx}{Er:XK}{K:Frag}{mg:Str->Option Value}
theorem vals_strs:∀{ks:List Str}{us:List Value},us.length=ks.length->(∀(j:Nat) v,us[j]?=some v->∃k,ks[j]?=some k/\∃t,v=Value.str k t)->Vals (ks.map V.str) us
 | [],[],_,_=>.nil
 | [],_::_,h,_=>by simp at h
 | _::_,[],h,_=>by simp at h
 | k::ks,u::us,h,hv=>by
  obtain ⟨k',e,t,ev⟩:=hv 0 u rfl
  simp at e
  subst e
  exact .cons ⟨t,ev⟩ (vals_strs (by simpa using h) fun j v e=>by simpa using hv (j+1) v (by simpa using e))
theorem zah {ss:List Stmt}:MSs X Er ss yN:=PSs.weak zir fun D U H ⟨env,st,ρ,re,rs,h⟩=>h
end
section
variable {P:Program}{W:World}{A:Around}{s:Shared}{E:Value->Shared->Prop}{K:Type} [DecidableEq K] {knd:KeyKind P W K}
theorem zai {d:Addr} {kv:List (K×Value)} {x:Value} {T:String} {name:Str} (sl:Slot "dict" name "dict.__eq__") (hd:s.heap.DictOf knd d kv) (hx:s.TypeIs x T) (hs:isSubtype (.type T) (.type "dict")=pure false) (Q:Value->Shared->Prop) (h:Q .notImplemented s) :
  wpAny (model P W) A (call (.builtin "dict.__eq__") [.ref d,x]) Q E s:=by
 refine wpAny_call_entry sl hd.typeIs PySem.F.entry_dict_eq ?_ (PySem.F.args_dict_eq_2 _ _)
 show wpAny _ _ (Builtin.Dict.dictSlotArgs "__eq__" ⟨[.ref d,x],[]⟩ >>= _) _ _ s
 refine wpAny_bind ?_
 unfold Builtin.Dict.dictSlotArgs
 refine wpAny_bind (wpAny_notOrdered_dict hd.typeIs ?_)
 show wpAny _ _ (pure (Value.ref d,x)) _ _ s
 refine wpAny_pure ?_
 refine wpAny_bind (wpAny_isInstance hx hs ?_)
 simp only [Bool.not_false,if_true]
 exact wpAny_bind (wpAny_rule (wpAny_pure ⟨_,rfl,h⟩))
theorem zfZ {d:Addr} {o:Obj} {b:Int} {u:Tok} {name:Str} (sl:Slot "int" name "int.__eq__") (ho:s.heap.get? d=some o) (hd:o.cls=.type "dict") {es:Array DictEntry} {ep:Nat} (hq':o.data=.dict es ep) (Q:Value->Shared->Prop) (h:Q .notImplemented s) :
  wpAny (model P W) A (call (.builtin "int.__eq__") [.int b u,.ref d]) Q E s:=by
 refine wpAny_call_entry sl (typeIs_int s b u) PySem.F.entry_int_eq ?_ (PySem.F.args_int_eq_2 _ _)
 obtain ⟨hp,g,dd,tk,os⟩:=s
 obtain ⟨c,d1,d2,d3⟩:=o
 cases hd
 cases hq'
 wp_walk using AutoSeq1.wpAny_loadPart' ho,wpAny_load ho
 exact ⟨_,rfl,h⟩
theorem zf0 {d:Addr} {o:Obj} {b:Str} {u:Tok} {name:Str} (sl:Slot "str" name "str.__eq__") (ho:s.heap.get? d=some o) (hd:o.cls=.type "dict") {es:Array DictEntry} {ep:Nat} (hq':o.data=.dict es ep) (Q:Value->Shared->Prop) (h:Q .notImplemented s) :
  wpAny (model P W) A (call (.builtin "str.__eq__") [.str b u,.ref d]) Q E s:=by
 refine wpAny_call_entry sl (typeIs_str s b u) PySem.F.entry_str_eq ?_ (PySem.F.args_str_eq_2 _ _)
 obtain ⟨hp,g,dd,tk,os⟩:=s
 obtain ⟨c,d1,d2,d3⟩:=o
 cases hd
 cases hq'
 wp_walk using AutoSeq1.wpAny_loadPart' ho,wpAny_load ho
 exact ⟨_,rfl,h⟩
theorem zf1 {d t:Addr} {o ot:Obj} {its:Array Value} {n:Nat} {name:Str} (sl:Slot "tuple" name "tuple.__eq__") (ht:s.heap.get? t=some ot) (hc:ot.cls=.type "tuple") (hq:ot.data=.seq its n) (ho:s.heap.get? d=some o) (hd:o.cls=.type "dict") {es:Array DictEntry} {ep:Nat} (hq':o.data=.dict es ep) (Q:Value->Shared->Prop) (h:Q .notImplemented s) :
  wpAny (model P W) A (call (.builtin "tuple.__eq__") [.ref t,.ref d]) Q E s:=by
 refine wpAny_call_entry sl ⟨_,ht,hc⟩ PySem.F.entry_tuple_eq ?_ (PySem.F.args_tuple_eq_2 _ _)
 obtain ⟨hp,g,dd,tk,os⟩:=s
 obtain ⟨c,d1,d2,d3⟩:=o
 obtain ⟨c',d1',d2',d3'⟩:=ot
 cases hd
 cases hq'
 cases hc
 cases hq
 have f1:=PySem.F.sub_dict_tuple
 wp_walk using AutoSeq1.wpAny_loadPart' ht,AutoSeq1.wpAny_loadPart' ho
 exact ⟨_,rfl,h⟩
theorem EqW.of_ref {d:Addr}{u':Value}{k:Bool}(hne:Value.ref d≠u') (h:RcW P W A s (.ref d) u' k):EqW P W A s (.ref d) u' k:=fun E Q hq=>by
 unfold eqBool
 refine wpAny_holding (wpAny_ite_split (fun hab=>absurd (eq_of_beq hab) hne) fun _=>?_)
 exact wpAny_bind (h E _ (wpAny_truthy_bool hq))
theorem EqW.of_num {d:Addr}{b:Int}{u:Tok}{k:Bool}(h:RcW P W A s (.int b u) (.ref d) k):EqW P W A s (.int b u) (.ref d) k:=fun E Q hq=>by
 unfold eqBool
 refine wpAny_holding (wpAny_ite_split (fun hab=>absurd (eq_of_beq hab) nofun) fun _=>?_)
 exact wpAny_bind (h E _ (wpAny_truthy_bool hq))
theorem EqW.of_txt {d:Addr}{b:Str}{u:Tok}{k:Bool}(h:RcW P W A s (.str b u) (.ref d) k):EqW P W A s (.str b u) (.ref d) k:=fun E Q hq=>by
 unfold eqBool
 refine wpAny_holding (wpAny_ite_split (fun hab=>absurd (eq_of_beq hab) nofun) fun _=>?_)
 exact wpAny_bind (h E _ (wpAny_truthy_bool hq))
theorem RcW.rec_num {d:Addr}{kv:List (K×Value)}(hd:s.heap.DictOf knd d kv) (b:Int) (u:Tok) (hu:A.units<cLine):RcW P W A s (.ref d) (.int b u) false:=fun E Q h=>by
 obtain ⟨o,es,ep,ho,hx,hda,_⟩:=id hd
 have ty:=hd.typeIs
 obtain ⟨o',ho',hc⟩:=id ty
 rw [ho] at ho'
 cases ho'
 exact SeqAt.rc_eq_decline_or (k:=false) ty (typeIs_int s b u) (by decide) PySem.F.sub_int_dict PySem.F.slot_dict_eq PySem.F.slot_int_eq_refl (zai PySem.F.slot_dict_eq hd (typeIs_int s b u) PySem.F.sub_int_dict) (zfZ PySem.F.slot_int_eq_refl ho hc hda)
  (fun _ hq=>wpAny_of_eq (rfl:isSame (.ref d) (.int b u)=pure false) hq) (.inr hu) h
theorem RcW.num_rec {d:Addr}{kv:List (K×Value)}(hd:s.heap.DictOf knd d kv) (b:Int) (u:Tok) (hu:A.units<cLine):RcW P W A s (.int b u) (.ref d) false:=fun E Q h=>by
 obtain ⟨o,es,ep,ho,hx,hda,_⟩:=id hd
 have ty:=hd.typeIs
 obtain ⟨o',ho',hc⟩:=id ty
 rw [ho] at ho'
 cases ho'
 exact SeqAt.rc_eq_decline_or (k:=false) (typeIs_int s b u) ty (by decide) PySem.F.sub_dict_int PySem.F.slot_int_eq PySem.F.slot_dict_eq_refl (zfZ PySem.F.slot_int_eq ho hc hda) (zai PySem.F.slot_dict_eq_refl hd (typeIs_int s b u) PySem.F.sub_int_dict)
  (fun _ hq=>wpAny_of_eq (rfl:isSame (.int b u) (.ref d)=pure false) hq) (.inr hu) h
theorem RcW.rec_txt {d:Addr}{kv:List (K×Value)}(hd:s.heap.DictOf knd d kv) (b:Str) (u:Tok) (hu:A.units<cLine):RcW P W A s (.ref d) (.str b u) false:=fun E Q h=>by
 obtain ⟨o,es,ep,ho,hx,hda,_⟩:=id hd
 have ty:=hd.typeIs
 obtain ⟨o',ho',hc⟩:=id ty
 rw [ho] at ho'
 cases ho'
 exact SeqAt.rc_eq_decline_or (k:=false) ty (typeIs_str s b u) (by decide) PySem.F.sub_str_dict PySem.F.slot_dict_eq PySem.F.slot_str_eq_refl (zai PySem.F.slot_dict_eq hd (typeIs_str s b u) PySem.F.sub_str_dict) (zf0 PySem.F.slot_str_eq_refl ho hc hda)
  (fun _ hq=>wpAny_of_eq (rfl:isSame (.ref d) (.str b u)=pure false) hq) (.inr hu) h
theorem RcW.txt_rec {d:Addr}{kv:List (K×Value)}(hd:s.heap.DictOf knd d kv) (b:Str) (u:Tok) (hu:A.units<cLine):RcW P W A s (.str b u) (.ref d) false:=fun E Q h=>by
 obtain ⟨o,es,ep,ho,hx,hda,_⟩:=id hd
 have ty:=hd.typeIs
 obtain ⟨o',ho',hc⟩:=id ty
 rw [ho] at ho'
 cases ho'
 exact SeqAt.rc_eq_decline_or (k:=false) (typeIs_str s b u) ty (by decide) PySem.F.sub_dict_str PySem.F.slot_str_eq PySem.F.slot_dict_eq_refl (zf0 PySem.F.slot_str_eq ho hc hda) (zai PySem.F.slot_dict_eq_refl hd (typeIs_str s b u) PySem.F.sub_str_dict)
  (fun _ hq=>wpAny_of_eq (rfl:isSame (.str b u) (.ref d)=pure false) hq) (.inr hu) h
theorem zaj {d t:Addr}{kv:List (K×Value)}{its:Array Value}(hd:s.heap.DictOf knd d kv) (ht:s.heap.IsTuple t its):d≠t:=fun e=>by
 subst e
 obtain ⟨o,ho,hc⟩:=hd.typeIs
 obtain ⟨o2,ho2,hc2,_⟩:=ht
 rw [ho] at ho2
 cases ho2
 rw [hc] at hc2
 exact absurd hc2 (by simp)
theorem RcW.rec_row {d t:Addr}{kv:List (K×Value)}{its:Array Value}(hd:s.heap.DictOf knd d kv) (ht:s.heap.IsTuple t its) (hu:A.units<cLine):RcW P W A s (.ref d) (.ref t) false:=fun E Q h=>by
 have ne:=zaj hd ht
 obtain ⟨o,es,ep,ho,hx,hda,_⟩:=id hd
 have ty:=hd.typeIs
 obtain ⟨o',ho',hc⟩:=id ty
 rw [ho] at ho'
 cases ho'
 obtain ⟨ot,ht1,ht2,n,ht3⟩:=id ht
 exact SeqAt.rc_eq_decline_or (k:=false) ty ⟨_,ht1,ht2⟩ (by decide) PySem.F.sub_tuple_dict PySem.F.slot_dict_eq PySem.F.slot_tuple_eq_refl (zai PySem.F.slot_dict_eq hd ⟨_,ht1,ht2⟩ PySem.F.sub_tuple_dict) (zf1 PySem.F.slot_tuple_eq_refl ht1 ht2 ht3 ho hc hda)
  (fun _ hq=>wpAny_isSame_ref_other ne ho ht1 (by rw [hc];simp) hq) (.inr hu) h
theorem RcW.row_rec {d t:Addr}{kv:List (K×Value)}{its:Array Value}(hd:s.heap.DictOf knd d kv) (ht:s.heap.IsTuple t its) (hu:A.units<cLine):RcW P W A s (.ref t) (.ref d) false:=fun E Q h=>by
 have ne:=zaj hd ht
 obtain ⟨o,es,ep,ho,hx,hda,_⟩:=id hd
 have ty:=hd.typeIs
 obtain ⟨o',ho',hc⟩:=id ty
 rw [ho] at ho'
 cases ho'
 obtain ⟨ot,ht1,ht2,n,ht3⟩:=id ht
 exact SeqAt.rc_eq_decline_or (k:=false) ⟨_,ht1,ht2⟩ ty (by decide) PySem.F.sub_dict_tuple PySem.F.slot_tuple_eq PySem.F.slot_dict_eq_refl (zf1 PySem.F.slot_tuple_eq ht1 ht2 ht3 ho hc hda) (zai PySem.F.slot_dict_eq_refl hd ⟨_,ht1,ht2⟩ PySem.F.sub_tuple_dict)
  (fun _ hq=>SeqAt.wpAny_isSame_ref_other' ne.symm ht1 ho (by rw [hc];simp) hq) (.inr hu) h
inductive HitsW (P:Program) (W:World) (A:Around) (s:Shared) (kb:List (K×Value)):List (K×Value)->Bool->Prop
 | nil:HitsW P W A s kb [] true
 | miss {k:K} {v:Value} {r:List (K×Value)} (h:valueAt kb k=none):HitsW P W A s kb ((k,v)::r) false
 | hit {k:K} {v y:Value} {r:List (K×Value)} {e b:Bool} (h:valueAt kb k=some y) (he:EqW P W A s v y e) (hr:HitsW P W A s kb r b):HitsW P W A s kb ((k,v)::r) (e&&b)
theorem HitsW.inv {kb r:List (K×Value)}{k:K}{v:Value}{b:Bool}(h:HitsW P W A s kb ((k,v)::r) b):(valueAt kb k=none/\b=false)\/∃y e c,valueAt kb k=some y/\EqW P W A s v y e/\HitsW P W A s kb r c/\b=(e&&c):=by
 cases h with
 | miss h=>exact .inl ⟨h,rfl⟩
 | hit h he hr=>exact .inr ⟨_,_,_,h,he,hr,rfl⟩
theorem pairsW {nm:String}{a b:Addr}{ka kb:List (K×Value)}{r:Bool}{Q:Bool->Shared->Prop}(la:(a==sysModules)=false) (lb:(b==sysModules)=false) (da:s.heap.DictOf knd a ka) (db:s.heap.DictOf knd b kb)
  (hits:ka.length=kb.length->HitsW P W A s kb ka r) (h:Q (ka.length==kb.length&&r) s):wpAny (model P W) A (Builtin.Dict.samePairs nm a b) Q E s:=by
 obtain ⟨oa,ea,na,ga,_,qa,ha,pa,_⟩:=da
 obtain ⟨ob,eb,nb,gb,_,qb,hb,pb,_⟩:=db
 have za:ka.length=ea.size:=by rw [<-pa.length];exact Array.length_toList
 have zb:kb.length=eb.size:=by rw [<-pb.length];exact Array.length_toList
 have look:∀k,findBy knd.is eb k=valueAt kb k:=fun k=>by
  rw [<-pb.find k]
  clear zb pb hb qb gb
  obtain ⟨l⟩:=eb
  simp [findBy]
 rw [za,zb] at h
 unfold Builtin.Dict.samePairs Builtin.Dict.showsAll
 rw [if_neg (by rw [la];decide),if_neg (by rw [lb];decide)]
 refine wpAny_bind (wpAny_pure (wpAny_bind (wpAny_pure (wpAny_bind (wpAny_dictEntries ga qa ?_)))))
 dsimp only
 refine wpAny_bind (wpAny_dictEntries gb qb ?_)
 by_cases hz:ea.size=eb.size
 ·have h':Q r s:=by simpa [hz] using h
  have hh:=hits (by rw [za,zb];exact hz)
  rw [if_neg (by rw [hz];simp)]
  refine wpAny_bind (wpAny_dictEpoch ga qa (wpAny_bind ?_))
  rw [Std.Legacy.Range.forIn_eq_forIn_range']
  simp only [Std.Legacy.Range.size,Nat.sub_zero,Nat.add_sub_cancel,Nat.div_one]
  refine wpAny_forIn_list _ (fun rest q s'=>s'=s/\q=(none,())/\∃i,rest=List.range' i (ea.size-i)/\i<=ea.size/\HitsW P W A s kb (ka.drop i) r) _ ?_ ?_ _ _ ⟨rfl,rfl,0,by simp,Nat.zero_le _,hh⟩
  ·rintro x rest q s' ⟨rfl,rfl,i,hr,hi,hp⟩
   have lt:i<ea.size:=by
    rcases Nat.lt_or_ge i ea.size with c|c
    ·exact c
    ·rw [Nat.sub_eq_zero_of_le c] at hr;simp at hr
   have e0:ea.size-i=(ea.size-(i+1))+1:=by omega
   rw [e0,List.range'_succ] at hr
   injection hr with hx hrest
   subst hx
   refine wpAny_bind (wpAny_dictEntries ga qa ?_)
   rw [Array.getElem?_eq_getElem lt]
   have lt':x<ka.length:=by rw [za];exact lt
   obtain ⟨k,v,hkv⟩:∃k v,ka[x]=(k,v):=⟨_,_,rfl⟩
   have hdrop:ka.drop x=(k,v)::ka.drop (x+1):=by rw [<-hkv];exact List.drop_eq_getElem_cons lt'
   obtain ⟨hkey,hval⟩:=pa.get? (i:=x) (e:=ea[x]) (k:=k) (v:=v) (by rw [Array.getElem?_toList];exact Array.getElem?_eq_getElem lt) (by rw [List.getElem?_eq_getElem lt',hkv])
   obtain ⟨k',hk',hs⟩:=ha ea[x] (Array.getElem_mem lt)
   rw [knd.inj _ _ _ hk' hkey] at hs
   rw [hdrop] at hp
   show wpAny _ _ (holding [ea[x].key,ea[x].val] _ >>= _) _ _ _
   rw [hs]
   refine wpAny_bind (wpAny_holding (wpAny_bind (wpAny_dictFind_of hkey gb qb hb ?_)))
   cases hj:eb.findIdx? fun e=>knd.is k e.key with
   | none =>
    have hn:valueAt kb k=none:=by rw [<-look k,findBy_of_findIdx?,hj]
    rcases hp.inv with ⟨_,er⟩|⟨y,_,_,hy,_⟩
    ·rw [er] at h'
     refine wpAny_pure ?_
     show wpAny _ _ (if (!false)=true then _ else _) _ _ _
     rw [if_pos (by decide)]
     exact wpAny_pure (wpAny_pure h')
    ·rw [hn] at hy;exact nomatch hy
   | some j =>
    obtain ⟨jl,_,_⟩:=Array.findIdx?_eq_some_iff_getElem.mp hj
    have hv':valueAt kb k=some eb[j].val:=by
     rw [<-look k,findBy_of_findIdx?,hj]
     simp [Array.getElem?_eq_getElem jl]
    refine wpAny_bind (wpAny_dictEntries gb qb ?_)
    rw [Array.getElem?_eq_getElem jl]
    rcases hp.inv with ⟨hn,_⟩|⟨y,e,c,hy,he,hrr,er⟩
    ·rw [hv'] at hn;exact nomatch hn
    ·have ey:eb[j].val=y:=Option.some.inj (hv'.symm.trans hy)
     rw [<-ey,<-hval] at he
     refine wpAny_holding (he _ _ ?_)
     cases e with
     | false =>
      rw [er,Bool.false_and] at h'
      show wpAny _ _ (if (!false)=true then _ else _) _ _ _
      rw [if_pos (by decide)]
      exact wpAny_pure (wpAny_pure h')
     | true =>
      rw [Bool.true_and] at er
      rw [<-er] at hrr
      show wpAny _ _ (if (!true)=true then _ else _) _ _ _
      rw [if_neg (by decide)]
      refine wpAny_bind (wpAny_dictEpoch ga qa ?_)
      rw [if_neg (by simp)]
      exact wpAny_pure ⟨rfl,rfl,x+1,hrest,lt,hrr⟩
  ·rintro q s' ⟨rfl,rfl,i,hr,hi,hp⟩
   have hin:i=ea.size:=by
    rcases Nat.lt_or_ge i ea.size with c|c
    ·have e:ea.size-i=(ea.size-(i+1))+1:=by omega
     rw [e,List.range'_succ] at hr;exact nomatch hr
    ·omega
   refine wpAny_pure ?_
   rw [hin,<-za,List.drop_length] at hp
   cases hp
   exact h'
 ·rw [if_pos (by simpa using hz)]
  have hf:(ea.size==eb.size)=false:=by simpa using hz
  rw [hf,Bool.false_and] at h
  exact wpAny_bind (wpAny_rule (wpAny_pure h))
theorem RcW.recs {a b:Addr}{ka kb:List (K×Value)}{r:Bool}(la:(a==sysModules)=false) (lb:(b==sysModules)=false) (da:s.heap.DictOf knd a ka) (db:s.heap.DictOf knd b kb) (hu:A.units<cLine)
  (hits:ka.length=kb.length->HitsW P W A.in1 s kb ka r):RcW P W A s (.ref a) (.ref b) (ka.length==kb.length&&r):=fun E Q h=>by
 refine wpAny_richCompare_same_room (op:=.Eq) da.typeIs db.typeIs PySem.F.slot_dict_eq (wpAny_call_entry PySem.F.slot_dict_eq da.typeIs PySem.F.entry_dict_eq ?_ (PySem.F.args_dict_eq_2 _ _)) hu
 show wpAny _ _ (Builtin.Dict.dictSlotArgs "__eq__" ⟨[.ref a,.ref b],[]⟩ >>= _) _ _ s
 refine wpAny_bind ?_
 unfold Builtin.Dict.dictSlotArgs
 refine wpAny_bind (wpAny_notOrdered_dict da.typeIs ?_)
 show wpAny _ _ (pure (Value.ref a,Value.ref b)) _ _ s
 refine wpAny_pure (wpAny_bind (wpAny_isInstance (T := "dict") db.typeIs PySem.F.sub_dict_dict ?_))
 simp only [Bool.not_true,Bool.false_eq_true,if_false]
 refine wpAny_bind (wpAny_pure (wpAny_bind (wpAny_pure (wpAny_bind (pairsW la lb da db hits ?_)))))
 refine wpAny_pure ⟨_,rfl,(fun x=>nomatch x),?_⟩
 simpa using h
end
section
variable {P:Program}{W:World}
end
def isDic:Option SO->Bool
 | some (.dic _ _)=>true
 | _=>false
def kindN (st:Sto):PV->Option Nat
 | .int _=>some 0
 | .str _=>some 1
 | .tup _=>some 2
 | .ref a=>if isDic st[a]?=true then some 3 else none
 | _=>none
def eqDD (f:PV->PV->Option Bool):Option SO->Option SO->Option Bool
 | some (.dic ks xs),some (.dic ks' xs')=>if ks.Nodup/\ks.length=xs.length then if ks.length=ks'.length then hitsE f ks' xs' ks xs else some false else none
 | _,_=>none
def eqN:Option Nat->Option Nat->Option Bool
 | some i,some j=>if i=j then none else some false
 | _,_=>none
def eqT (st:Sto):Nat->PV->PV->Option Bool
 | 0,_,_=>none
 | n+1,x,y=>match x,y with
  | .int a,.int b=>some (a==b)
  | .str a,.str b=>some (a==b)
  | .tup xs,.tup ys=>allE (eqT st n) xs ys
  | .ref a,.ref b=>eqDD (eqT st n) st[a]? st[b]?
  | x,y=>eqN (kindN st x) (kindN st y)
section
variable {X:Cx}{Er:XK}{K:Frag}{mg:Str->Option Value}{ρ:List Addr}{pins:List (Addr×Obj)}{U:L2.St}{H:Hp}{s:Shared}{st:Sto}
inductive Kn (K:Frag) (mg:Str->Option Value) (ρ:List Addr) (H:Hp) (st:Sto):PV->V->Nat->Prop
 | num (i:Int):Kn K mg ρ H st (.int i) (.int i) 0
 | txt (z:Str):Kn K mg ρ H st (.str z) (.str z) 1
 | row {xs:List PV} {a:Addr} {vs:List V} (h:SqT K H a vs) (r:Rs K mg ρ H xs vs):Kn K mg ρ H st (.tup xs) (.ref a) 2
 | rec_ {n:Nat} {a:Addr} {ks:List Str} {xs:List PV} {vs:List V} (e:st[n]?=some (.dic ks xs)) (ha:ρ[n]?=some a) (h:H a=some (.dK (kz ks vs))) (r:Rs K mg ρ H xs vs) (l:ks.length=vs.length):Kn K mg ρ H st (.ref n) (.ref a) 3
theorem Kn.of (S:StR K mg ρ H st) {x:PV}{v:V}{i:Nat}(r:R K mg ρ H x v) (h:kindN st x=some i):Kn K mg ρ H st x v i:=by
 cases x with
 | int j=>cases h;cases r;exact .num j
 | str z=>cases h;cases r;exact .txt z
 | tup xs=>cases h;obtain ⟨a,vs,rfl,h1,h2⟩:=r;exact .row h1 h2
 | ref n =>
  simp only [kindN] at h
  split at h
  ·rename_i hd
   cases h
   cases e:st[n]? with
   | none=>rw [e] at hd;cases hd
   | some so =>
    cases so with
    | dic ks xs =>
     obtain ⟨a,vs,rfl,ha,k1,k2,k3⟩:=R.refD S r e
     exact .rec_ e ha k1 k2 k3
    | lst _=>rw [e] at hd;cases hd
    | ins _ _ _=>rw [e] at hd;cases hd
    | fdi _ _=>rw [e] at hd;cases hd
  ·cases h
 | _=>cases h
theorem zmn (I:Inv X pins U H s) {x y:PV}{v:V}{i j:Nat}(hx:Kn X.K mg ρ H st x v i) (hy:Kn X.K mg ρ H st y v j):i=j:=by
 cases hx with
 | num=>cases hy;rfl
 | txt=>cases hy;rfl
 | row h1 r1 =>
  cases hy with
  | row=>rfl
  | rec_ e ha h2 =>
   obtain ⟨_,_,kv,_,d⟩:=yL I.hok (.inl h2)
   obtain ⟨its,_,p,_⟩:=I.tuple h1
   exact absurd rfl (zaj d p)
 | rec_ e ha h2 =>
  cases hy with
  | rec_=>rfl
  | row h1 r1 =>
   obtain ⟨_,_,kv,_,d⟩:=yL I.hok (.inl h2)
   obtain ⟨its,_,p,_⟩:=I.tuple h1
   exact absurd rfl (zaj d p)
theorem zmo (I:Inv X pins U H s) {x y:PV}{v w:V}{u u':Value}{i j:Nat}{A:Around}(hx:Kn X.K mg ρ H st x v i) (hy:Kn X.K mg ρ H st y w j) (rv:RelV v u) (rw:RelV w u') (hij:i≠j) (hu:A.units<cLine):EqW X.prog X.w A s u u' false/\RcW X.prog X.w A s u u' false:=by
 cases hx with
 | num a =>
  obtain ⟨t,rfl⟩:=rv
  cases hy with
  | num=>exact absurd rfl hij
  | txt b=>obtain ⟨t',rfl⟩:=rw;exact ⟨fun E Q q=>SeqAt.EqAt.int_str a t b t' _ _ E Q q,fun E Q q=>SeqAt.RcAt.int_str a t b t' _ _ E Q q⟩
  | row h1 r1 =>
   cases rw
   obtain ⟨its,_,p,_⟩:=I.tuple h1
   exact ⟨fun E Q q=>SeqAt.EqAt.int_tuple a t p hu _ _ E Q q,fun E Q q=>SeqAt.RcAt.int_tuple a t p hu _ _ E Q q⟩
  | rec_ e ha h2 =>
   cases rw
   obtain ⟨_,_,kv,_,d⟩:=yL I.hok (.inl h2)
   exact ⟨.of_num (.num_rec d a t hu),.num_rec d a t hu⟩
 | txt a =>
  obtain ⟨t,rfl⟩:=rv
  cases hy with
  | txt=>exact absurd rfl hij
  | num b=>obtain ⟨t',rfl⟩:=rw;exact ⟨fun E Q q=>SeqAt.EqAt.str_int a t b t' _ _ E Q q,fun E Q q=>SeqAt.RcAt.str_int a t b t' _ _ E Q q⟩
  | row h1 r1 =>
   cases rw
   obtain ⟨its,_,p,_⟩:=I.tuple h1
   exact ⟨fun E Q q=>SeqAt.EqAt.str_tuple a t p hu _ _ E Q q,fun E Q q=>SeqAt.RcAt.str_tuple a t p hu _ _ E Q q⟩
  | rec_ e ha h2 =>
   cases rw
   obtain ⟨_,_,kv,_,d⟩:=yL I.hok (.inl h2)
   exact ⟨.of_txt (.txt_rec d a t hu),.txt_rec d a t hu⟩
 | row h0 r0 =>
  cases rv
  obtain ⟨its,_,p,_⟩:=I.tuple h0
  cases hy with
  | row=>exact absurd rfl hij
  | num b=>obtain ⟨t',rfl⟩:=rw;exact ⟨fun E Q q=>SeqAt.EqAt.tuple_int b t' p hu _ _ E Q q,fun E Q q=>SeqAt.RcAt.tuple_int b t' p hu _ _ E Q q⟩
  | txt b=>obtain ⟨t',rfl⟩:=rw;exact ⟨fun E Q q=>SeqAt.EqAt.tuple_str b t' p hu _ _ E Q q,fun E Q q=>SeqAt.RcAt.tuple_str b t' p hu _ _ E Q q⟩
  | rec_ e ha h2 =>
   cases rw
   obtain ⟨_,_,kv,_,d⟩:=yL I.hok (.inl h2)
   have ne:=zaj d p
   exact ⟨.of_ref (fun z=>ne (by injection z with z;exact z.symm)) (.row_rec d p hu),.row_rec d p hu⟩
 | rec_ e0 ha0 h0 =>
  cases rv
  obtain ⟨_,_,kv,_,d⟩:=yL I.hok (.inl h0)
  cases hy with
  | rec_=>exact absurd rfl hij
  | num b=>obtain ⟨t',rfl⟩:=rw;exact ⟨.of_ref nofun (.rec_num d b t' hu),.rec_num d b t' hu⟩
  | txt b=>obtain ⟨t',rfl⟩:=rw;exact ⟨.of_ref nofun (.rec_txt d b t' hu),.rec_txt d b t' hu⟩
  | row h1 r1 =>
   cases rw
   obtain ⟨its,_,p,_⟩:=I.tuple h1
   have ne:=zaj d p
   exact ⟨.of_ref (fun z=>ne (by injection z)) (.rec_row d p hu),.rec_row d p hu⟩
theorem zmp {a b:Option Nat}{k:Bool}(h:eqN a b=some k):∃i j,a=some i/\b=some j/\i≠j/\k=false:=by
 unfold eqN at h
 split at h
 ·split at h
  ·cases h
  ·rename_i i j c;cases h;exact ⟨i,j,rfl,rfl,c,rfl⟩
 ·cases h
inductive EqC (st:Sto) (f:PV->PV->Option Bool):PV->PV->Bool->Prop
 | num (a b:Int):EqC st f (.int a) (.int b) (a==b)
 | txt (a b:Str):EqC st f (.str a) (.str b) (a==b)
 | row {xs ys:List PV} {k:Bool} (h:allE f xs ys=some k):EqC st f (.tup xs) (.tup ys) k
 | rec_ {a b:Nat} {k:Bool} (h:eqDD f st[a]? st[b]?=some k):EqC st f (.ref a) (.ref b) k
 | apart {x y:PV} {i j:Nat} (hx:kindN st x=some i) (hy:kindN st y=some j) (h:i≠j):EqC st f x y false
theorem zf2 {n:Nat}{x y:PV}{k:Bool}(h:eqT st (n+1) x y=some k):EqC st (eqT st n) x y k:=by
 unfold eqT at h
 split at h
 ·cases h;exact .num _ _
 ·cases h;exact .txt _ _
 ·exact .row h
 ·exact .rec_ h
 ·obtain ⟨i,j,h1,h2,h3,rfl⟩:=zmp h
  exact .apart h1 h2 h3
theorem zf3 {f:PV->PV->Option Bool}{a b:Option SO}{k:Bool}(h:eqDD f a b=some k):∃ks xs ks' xs',a=some (.dic ks xs)/\b=some (.dic ks' xs')/\ks.Nodup/\ks.length=xs.length/\((ks.length=ks'.length/\hitsE f ks' xs' ks xs=some k)\/(ks.length≠ks'.length/\k=false)):=by
 unfold eqDD at h
 split at h
 ·rename_i ks xs ks' xs'
  split at h
  ·rename_i c
   split at h
   ·rename_i c';exact ⟨_,_,_,_,rfl,rfl,c.1,c.2,.inl ⟨c',h⟩⟩
   ·rename_i c';cases h;exact ⟨_,_,_,_,rfl,rfl,c.1,c.2,.inr ⟨c',rfl⟩⟩
  ·cases h
 ·cases h
theorem zf4 (I:Inv X pins U H s) (S:StR X.K mg ρ H st):∀(n:Nat) (x y:PV) (v:V) (b:Bool),eqT st n x y=some b->R X.K mg ρ H x v->R X.K mg ρ H y v->b=true:=by
 intro n
 induction n with
 | zero=>intro x y v b h;cases h
 | succ n ih =>
  intro x y v b h rx ry
  cases zf2 h with
  | num a c=>cases rx;cases ry;simp
  | txt a c=>cases rx;cases ry;simp
  | row h0 =>
   obtain ⟨a,vs,rfl,h1,h2⟩:=rx
   obtain ⟨a',ws,e,h3,h4⟩:=ry
   cases e
   have:=I.tuple_inj h1 h3
   subst this
   exact zfU (fun x y v b=>ih x y v b) h0 h2 h4
  | @rec_ i j _ h0 =>
   obtain ⟨a,rfl,h1⟩:=rx
   obtain ⟨a',e,h2⟩:=ry
   cases e
   obtain rfl:=zmk S.nd h1 h2
   obtain ⟨ks,xs,ks',xs',e1,e2,nd,hl,hc⟩:=zf3 h0
   rw [e1] at e2
   cases e2
   obtain ⟨vs,_,k2,_⟩:=S.addr e1 h1
   rcases hc with ⟨_,hc⟩|⟨hc,_⟩
   ·exact zfV (fun x v b e r=>ih x x v b e r r) (zfW nd) hc k2
   ·exact absurd rfl hc
  | apart hx hy hij=>exact absurd (zmn I (Kn.of S rx hx) (Kn.of S ry hy)) hij
theorem zf5 {A:Around}{f:PV->PV->Option Bool}(hf:∀x y v w u u' b,f x y=some b->R K mg ρ H x v->R K mg ρ H y w->RelV v u->RelV w u'->EqW X.prog X.w A s u u' b) {ks':List Str}{xs':List PV}{ws:List V}{kb:List (Key×Value)}(r':Rs K mg ρ H xs' ws) (kv':KV (kz ks' ws) kb) :
  ∀{ks:List Str} {xs:List PV} {vs:List V} {ka:List (Key×Value)} {b:Bool},ks.length=vs.length->Rs K mg ρ H xs vs->KV (kz ks vs) ka->hitsE f ks' xs' ks xs=some b->HitsW X.prog X.w A s kb ka b
 | [],xs,[],ka,b,_,_,kv,h=>by
  have:b=true:=by cases xs<;>(cases h;rfl)
  subst this
  cases kv
  exact .nil
 | [],xs,_::_,ka,b,hl,_,_,_=>by simp at hl
 | k::ks,xs,[],ka,b,hl,_,_,_=>by simp at hl
 | k::ks,xs,v::vs,ka,b,hl,r,kv,h=>by
  obtain ⟨u,ka',rfl,ru,kv2⟩:=zfX kv
  cases xs with
  | nil=>cases r
  | cons x xs =>
   obtain ⟨v',rs',e,r1,r2⟩:=r
   cases e
   simp only [hitsE] at h
   have hv:=kv'.val (Sum.inr k)
   rw [zaR] at hv
   cases hl2:(ks'.zip xs').lookup k with
   | none =>
    rw [hl2] at h
    cases h
    rw [zfY r' hl2] at hv
    cases hu:valueAt kb (Sum.inr k) with
    | none=>exact .miss hu
    | some _=>rw [hu] at hv;exact (show False from hv).elim
   | some y =>
    rw [hl2] at h
    simp only at h
    cases h1:f x y with
    | none=>rw [h1] at h;cases h
    | some a =>
     cases h2:hitsE f ks' xs' ks xs with
     | none=>rw [h1,h2] at h;cases h
     | some c =>
      rw [h1,h2] at h
      cases h
      obtain ⟨w,hw,rw'⟩:=j2 r' hl2
      rw [hw] at hv
      cases hu:valueAt kb (Sum.inr k) with
      | none=>rw [hu] at hv;exact (show False from hv).elim
      | some u' =>
       rw [hu] at hv
       exact .hit hu (hf x y v w u u' a h1 r1 rw' ru hv) (zf5 hf r' kv' (by simpa using hl) r2 kv2 h2)
theorem zmq (I:Inv X pins U H s) (S:StR X.K mg ρ H st):∀(n:Nat) (x y:PV) (v w:V) (u u':Value) (b:Bool) (A:Around),eqT st n x y=some b->R X.K mg ρ H x v->R X.K mg ρ H y w->RelV v u->RelV w u'->A.units+n<cLine ->
  EqW X.prog X.w A s u u' b/\RcW X.prog X.w A s u u' b:=by
 intro n
 induction n with
 | zero=>intro x y v w u u' b A h;cases h
 | succ n ih =>
  intro x y v w u u' b A h rx ry rv rw hu
  cases zf2 h with
  | num a c=>cases rx;cases ry;obtain ⟨t,rfl⟩:=rv;obtain ⟨t',rfl⟩:=rw;exact ⟨fun E Q q=>SeqAt.EqAt.int_int a t c t' _ _ E Q q,fun E Q q=>SeqAt.RcAt.int_int a t c t' _ _ E Q q⟩
  | txt a c=>cases rx;cases ry;obtain ⟨t,rfl⟩:=rv;obtain ⟨t',rfl⟩:=rw;exact ⟨fun E Q q=>SeqAt.EqAt.str_str a t c t' _ _ E Q q,fun E Q q=>SeqAt.RcAt.str_str a t c t' _ _ E Q q⟩
  | row h0 =>
   obtain ⟨a,vs,rfl,h1,h2⟩:=id rx
   obtain ⟨a',ws,rfl,h3,h4⟩:=id ry
   cases rv
   cases rw
   obtain ⟨its,r1,p1,_⟩:=I.tuple h1
   obtain ⟨its2,r2,p2,_⟩:=I.tuple h3
   obtain ⟨e,he,hb⟩:=zfT h0
   have it:=zmm (G:=EqW X.prog X.w A.in1 s) (fun x y v w u u' b e r1 r2 r3 r4=>(ih x y v w u u' b A.in1 e r1 r2 r3 r4 (by rw [zbC];omega)).1) h2 h4 r1 r2 he
   have eb:((List.range (min its.toArray.size its2.toArray.size)).all e&&its.toArray.size==its2.toArray.size)=b:=by
    rw [h2.len,h4.len,r1.length,r2.length] at hb
    simpa using hb
   have rc:RcW X.prog X.w A s (.ref a) (.ref a') b:=by
    rw [<-eb]
    exact RcW.tuples (show s.heap.IsTuple a its.toArray from p1) (show s.heap.IsTuple a' its2.toArray from p2) (by omega) it
   refine ⟨?_,rc⟩
   by_cases hab:a=a'
   ·subst hab
    rw [zf4 I S (n+1) _ _ _ _ h rx ry]
    exact fun E Q q=>SeqAt.EqAt.same _ _ _ E Q q
   ·exact .of_refs hab rc
  | @rec_ i j _ h0 =>
   obtain ⟨a,rfl,h1⟩:=id rx
   obtain ⟨a',rfl,h2⟩:=id ry
   cases rv
   cases rw
   obtain ⟨ks,xs,ks',xs',e1,e2,nd,hl,hc⟩:=zf3 h0
   obtain ⟨vs,k1,k2,k3⟩:=S.addr e1 h1
   obtain ⟨ws,k4,k5,k6⟩:=S.addr e2 h2
   obtain ⟨_,s1,ka,kva,da⟩:=yL I.hok (.inl k1)
   obtain ⟨_,s2,kb,kvb,db⟩:=yL I.hok (.inl k4)
   have la:ka.length=ks.length:=by rw [<-kva.length];simp [kz,k3]
   have lb:kb.length=ks'.length:=by rw [<-kvb.length];simp [kz,k6]
   have both:RcW X.prog X.w A s (.ref a) (.ref a') b:=by
    rcases hc with ⟨hkk,hc⟩|⟨hkk,rfl⟩
    ·have hits:ka.length=kb.length->HitsW X.prog X.w A.in1 s kb ka b:=fun _=>zf5 (fun x y v w u u' b e r1 r2 r3 r4=>(ih x y v w u u' b A.in1 e r1 r2 r3 r4 (by rw [zbC];omega)).1) k5 kvb k3 k2 kva hc
     have hbb:(ka.length==kb.length&&b)=b:=by rw [la,lb,hkk];simp
     rw [<-hbb]
     exact RcW.recs s1 s2 da db (by omega) hits
    ·have hbb:(ka.length==kb.length&&true)=false:=by rw [la,lb];simpa using hkk
     rw [<-hbb]
     exact RcW.recs s1 s2 da db (by omega) fun z=>absurd (by rw [<-la,<-lb];exact z) hkk
   refine ⟨?_,both⟩
   by_cases hab:a=a'
   ·subst hab
    rw [zf4 I S (n+1) _ _ _ _ h rx ry]
    exact fun E Q q=>SeqAt.EqAt.same _ _ _ E Q q
   ·exact .of_refs hab both
  | apart hx hy hij=>exact zmo I (Kn.of S rx hx) (Kn.of S ry hy) rv rw hij (by omega)
def wo:PV->PV->Mo PV:=fun x y st=>match eqT st 150 x y with
 | some b=>.ok (.bl b) st
 | none=>.stuck
def zmr (K:Frag) (mg:Str->Option Value):R2:=fun v w H Q=>∃ρ st x y b,StR K mg ρ H st/\eqT st 150 x y=some b/\R K mg ρ H x v/\R K mg ρ H y w/\Q (.bl b) H
theorem zms (hu:X.A.units+200<cLine):OpR X (compareOp .Eq) (zmr X.K X.mg):=by
 intro pins s U H x y v u Q I rx ry h
 obtain ⟨ρ,st,a,b,k,S,e,ra,rb,q⟩:=h
 exact (zmq I S 150 a b x y v u k X.A e ra rb rx ry (by omega)).2 _ _ ⟨.bl k,H,I,rfl,q⟩
theorem zf6 (hu:X.A.units+200<cLine):CmpOk X .Eq wo:=⟨_,zms hu,fun ρ H st x y v w Q E s rx ry h=>by
 unfold wo at h
 cases e:eqT st 150 x y with
 | none=>rw [e] at h;exact False.elim h
 | some b=>rw [e] at h;exact ⟨ρ,st,x,y,b,s,e,rx,ry,h.now s _ rfl⟩⟩
end
section
variable {X:Cx}{Er:XK}{K:Frag}{mg:Str->Option Value}{ρ:List Addr}{pins:List (Addr×Obj)}{U:L2.St}{H:Hp}{s:Shared}{st:Sto}{o:Expr}{fo:zc->Mo PV}{apos cpos p0 pos0:Pos}
open Classical in
noncomputable def eInT (K:Frag) (mg:Str->Option Value) (ρ:List Addr) (H:Hp) (st:Sto) (ys:List PV) (x:PV) (u:Value):Bool:=decide (∃y v,y∈ys/\R K mg ρ H y v/\RelV v u/\eqT st 150 y x=some true)
open Classical in
end
end Mi
namespace L2
open PySem PySem.Spec PyProof.Rows
def zmt (iy:Nat) (wi:TI) (te:TE):TS:=fun D U H=>wi U H fun J H1=>CompW J te U (fun v H2=>D.nx (U.set iy (some v)) H2) H1
theorem zmu {X:Cx} {elt iter:Expr} {x y:Str} {px pos pos' spos:Pos} {scope:Scope} {wi:TI} {te:TE} {M:List Str} {iy:Nat} (hc:X.calm=true) (S:CompSc X.env.scope scope x) (eN:Hid scope M X.N) (hN0:((".0" : Str)::x::M).Nodup)
  (hi:PI X (.Name x px) iter wi) (he:∀cl C ae ai fp,PE (cxH X M scope cl x C ae ai fp (fun _ _=>False)) elt te) (hNX:X.N.Nodup) (hiy:X.N[iy]?=some y) (hy:Loc X.env.scope y) (hfy:X.fn y=true\/X.env.scope.names.lookup y=some .local)
  (hsw:swapsWith (.ListComp elt [⟨.Name x px,iter,[],0⟩] scope pos) (some (.Name y pos')) spos.line X.env=pure true) (hs:∀v,foldedSetIterable iter X.env v=pure v:=by intro _;rfl):PS X (.Assign [.Name y pos'] (.ListComp elt [⟨.Name x px,iter,[],0⟩] scope pos) spos) (zmt iy wi te):=by
 intro pins s U H Dn I h
 have hN:(x::M).Nodup:=(List.nodup_cons.mp hN0).2
 have h0N:(".0" : Str)∉M:=fun z=>(List.nodup_cons.mp hN0).1 (List.mem_cons_of_mem _ z)
 obtain ⟨cl,hclos,hcl1,hcl2⟩:=zeP X.env scope fun p hp hf=>I.ok.has p.1 (.inl (S.free p hp hf))
 have hkd:X.env.scope.kind=.function:=I.ok.kind
 rw [exec_Assign_Name_used _ _ _ _ hsw]
 refine wpAny_bind (wpAny_standAt ?_)
 rw [arm_evalThenUse_ListComp]
 refine wpAny_bind (wpAny_bind (wpAny_comprehension_free (Q:=fun _ s'=>wpAny (model X.prog X.w) X.A (pure ():Sem Unit) (fun _ s'=>wpAny (model X.prog X.w) X.A (pure .next:Sem Flow) (SP X pins Dn) X.xe s') X.xe s') (use:=some (assign (.Name y pos') X.env)) rfl hs hclos S.kind (fun y hy hl=>(S.names y hy hl).1) ?_))
 refine thn (hi pins s U H _ I h) fun v s1 h1=>thn h1 fun itv ae h2=>?_
 obtain ⟨it,fp,tn,J,H2,e,I2,T,st2,f2,W,⟨m0,w0⟩,turn⟩:=h2
 subst e
 refine wpAny_newObj_type (wpAny_newFunctionEnv S.ncell (by intro y hy;simp at hy) (fun av aw au=>?_) S.kind)
 dsimp only at aw au ⊢
 generalize hH2:ae.heap.push { cls:=.type "list", dict:=none,data:=.seq ([]:List Value).toArray }=G2 at aw au ⊢
 have hC:G2.objs.size=ae.heap.objs.size+1:=by rw [<-hH2,Heap.size_push]
 have hDC:ae.heap.objs.size≠G2.objs.size:=by rw [hC];exact Nat.ne_of_lt (Nat.lt_succ_self _)
 have hCle:ae.heap.objs.size<=G2.objs.size:=by rw [hC];exact Nat.le_succ _
 have old:∀b o,ae.heap.get? b=some o->av.get? b=some o:=fun b o e=>by
  have hb:b≠G2.objs.size:=by rw [hC];exact Nat.ne_of_lt (Nat.lt_succ_of_lt (Heap.lt_size e))
  exact au.extBut b o hb (Heap.get?_push_of_some _ (hH2▸Heap.get?_push_of_some _ e))
 have hacc:av.get? ae.heap.objs.size=some { cls:=.type "list", data:=.seq (#[]:Array Value) 0 }:=au.extBut _ _ hDC (Heap.get?_push_of_some _ (hH2▸Heap.get?_push_size _ rfl))
 generalize hD:ae.heap.objs.size=D at *
 generalize hCC:G2.objs.size=C at *
 have ltS:∀{b:Nat} {o:Obj},ae.heap.get? b=some o->b<D:=fun e=>by rw [<-hD];exact Heap.lt_size e
 have nofr:∀b,D<=b->b∉frs X.stack:=fun b hb z=>by
  rcases List.mem_cons.mp (I2.stkSub b z) with q|q
  ·exact ar1 I2.lt hD hb q
  ·exact I2.nofs (by rw [hD];exact hb) q
 let E':Value->Shared->Prop:=notedBy (model X.prog X.w) X.A (compEnvC scope cl C X.env) fun e s'=>compPost (model X.prog X.w) X.A X.xe (some (assign (.Name y pos') X.env)) (fun _ s'=>wpAny (model X.prog X.w) X.A (pure ():Sem Unit) (fun _ s'=>wpAny (model X.prog X.w) X.A (pure .next:Sem Flow) (SP X pins Dn) X.xe s') X.xe s') (.ref D) C (.error e) s'
 let Y:Cx:=cxH X M scope cl x C ae H2 fp E'
 have fpX:∀b∈fp,FpOk X pins H2 b:=f2
 have okY:Y.Ok:=by
  refine ⟨I2.ok.mod,S.kind,I2.ok.glob,I2.ok.blt,(by show ae.heap.objs.size<=C;omega),fun y z c h1 h2=>?_,fun y hy=>?_,fun y c hf=>?_,I2.ok.hd,I2.ok.frames,.inl rfl,fun b hb=>?_,I2.bs,Nat.le_trans I2.ok.bsz I2.sz,fun b o hb hx=>?_,fun b hb hx=>?_,I2.stack,I2.stkFree⟩
  ·exact I2.ok.inj y z c (hcl1 y c h1) (hcl1 z c h2)
  ·exact hcl2 y (zcA S hkd hy)
  ·cases hf
  ·refine ⟨fun z=>?_,fun y c hy=>(fpX b hb).2.2.2.2.1 y c (hcl1 y c hy)⟩
   obtain ⟨o,ho,_⟩:=T.obj 0 _ st2 b hb
   exact wF (ltS ho) hC z
  ·rcases (fpX b hx).2.2.2.1 with z|z
   ·exact I2.ok.noex b o hb z
   ·exact ar3 (Heap.lt_size hb) I2.ok.bsz z
  ·rcases List.mem_cons.mp (I2.stkSub b hx) with q|q
   ·exact (fpX b hb).2.1 q
   ·exact (fpX b hb).2.2.1 q
 have hpinD:∀{s':Shared} {H':Hp} {o:Obj},s'.heap.get? D=some o->H' D=none->(∀v,o.data ≠ .cell v)->∀p∈[(D,o)],s'.heap.get? p.1=some p.2/\H' p.1=none/\p.1≠Y.env.locals/\p.1∉Y.fs/\∀v,p.2.data ≠ .cell v:=fun {s' H' o} e1 e2 e3 p hp=>by
  have ep:p=(D,o):=by simpa using hp
  subst ep
  exact ⟨e1,e2,hDC,nofr D (Nat.le_refl _),e3⟩
 have I0:Inv Y [(D,{ cls:=.type "list", data:=.seq (#[]:Array Value) 0 })] (none::U) H2 { ae with heap:=av,toks:=ae.toks+([]:List (Str×Value)).length }:=by
  have fresh:∀b,D<=b->H2 b=none:=fun b hb=>I2.hok.fresh (by rw [hD];exact hb)
  refine ⟨okY,rfl,I2.bare,Un.kept old,⟨_,aw,fun i y v e1 e2 e3=>?_⟩,fun y c hy=>?_,fresh C (by omega),fun y c hy=>I2.freeC y c (hcl1 y c hy),fun p hp=>hpinD hacc (fresh D (Nat.le_refl _)) (fun v z=>by cases z) p hp,I2.hok.kept old,?_⟩
  ·cases i with
   | zero=>simp at e2
   | succ i =>
    have e0':M[i]?=some y:=by simpa [Y,cxH] using e1
    have e1':X.N[i]?=some y:=by
     rcases eN.get e0' with q|q
     ·exact q
     ·refine absurd ?_ q
      rcases e3 with e3|e3|e3<;>(obtain ⟨k0,hm,_⟩:=j7 e3;exact List.mem_map.mpr ⟨_,hm,rfl⟩)
    have e2':U[i]?=some (some v):=by simpa using e2
    have hyx:¬(y=x\/y = ".0"):=fun z=>by
     have hm:=List.mem_of_getElem? e0'
     rcases z with z|z
     ·rw [z] at hm
      exact (List.nodup_cons.mp hN).1 hm
     ·rw [z] at hm
      exact h0N hm
    have hfr:(y,NameKind.free)∈scope.names:=by
     rcases e3 with e3|e3|e3
     ·exact absurd (zeQ S e3) hyx
     ·exact zcA S hkd (.inl e3)
     ·exact zcA S hkd (.inr e3)
    have hkc:X.env.scope.names.lookup y=some .cell:=S.free _ hfr rfl
    obtain ⟨m,hn,hl⟩:=I2.loc
    obtain ⟨u,r,l⟩:=hl i y v e1' e2' (.inr (.inl hkc))
    refine ⟨u,r,?_⟩
    rcases l with ⟨hk,_⟩|⟨_,c,hcc,hcell⟩
    ·have:X.env.kindOf y=some .cell:=hkc
     rw [this] at hk;cases hk
    ·obtain ⟨c',hc'⟩:=hcl2 y hfr
     have:=hcl1 y c' hc'
     rw [hcc] at this
     cases this
     refine .inr ⟨?_,c,hc',?_⟩
     ·rcases e3 with e3|e3|e3
      ·exact absurd (zeQ S e3) hyx
      ·exact .inl e3
      ·exact .inr e3
     ·obtain ⟨o,ho,hd⟩:=hcell
      exact ⟨o,old c o ho,hd⟩
  ·obtain ⟨v,o,ho,hd⟩:=I2.cell y c (hcl1 y c hy)
   exact ⟨v,o,old c o ho,hd⟩
  ·show (none::U).length=(x::M).length
   simp [I2.len,eN.1]
 have fpY:∀{pl:List (Addr×Obj)} {H':Hp},(∀p∈pl,p.1=D)->(∀b∈fp,H' b=none)->∀b∈fp,FpOk Y pl H' b:=fun {pl H'} hpl hn b hb=>by
  obtain ⟨o,ho,_⟩:=T.obj 0 _ st2 b hb
  refine ⟨hn b hb,fun z=>?_,?_,.inl hb,(okY.exf b hb).2,fun p hp z=>?_⟩
  ·exact wF (ltS ho) hC z
  ·exact okY.exfs b hb
  ·have hp':p∈pl:=by simpa [Y,cxH] using hp
   exact ar4 (ltS ho) (hpl p hp') z
 have loop:codeAny (model X.prog X.w) X.A (.compLoop (.ListComp elt [⟨.Name x px,iter,[],0⟩] scope pos) 0 (.ref it) (.ref D) (compEnvC scope cl C X.env))
   (compPost (model X.prog X.w) X.A X.xe (some (assign (.Name y pos') X.env)) (fun _ s'=>wpAny (model X.prog X.w) X.A (pure ():Sem Unit) (fun _ s'=>wpAny (model X.prog X.w) X.A (pure .next:Sem Flow) (SP X pins Dn) X.xe s') X.xe s') (.ref D) C) { ae with heap:=av,toks:=ae.toks+([]:List (Str×Value)).length }:=by
  refine zj3 (fun n s'=>∃i ys H' its k,Inv Y [(D,{ cls:=.type "list", data:=.seq (its:List Value).toArray k })] (none::U) H' s'/\Vals ys its/\tn i s'.heap/\(∀b∈fp,H' b=none)/\W i n ys H') ?_ m0
   ⟨0,[],H2,[],0,I0,.nil,T.keep 0 _ _ st2 (fun b hb o e=>old b o e),fun b hb=>(fpX b hb).1,w0⟩
  rintro n s3 ⟨i,ys,H3,its,k,I3,rv,st3,fr3,w3⟩
  have pinl:∀{o:Obj},∀p∈[(D,o)],p.1=D:=fun {o} p hp=>by
   have ep:p=(D,o):=by simpa using hp
   rw [ep]
  obtain ⟨gD,nD,_,_,_⟩:=I3.pin (D,_) (List.mem_append_right _ List.mem_cons_self)
  rcases turn i n ys H3 w3 with ⟨stop,hz,q⟩|⟨go,hz,step⟩
  ·refine thn (T.done Y rfl rfl rfl hc i _ s3 _ H3 E' I3 (fpY pinl fr3) st3 stop) fun r s4 ⟨hr,I4⟩=>?_
   subst hr
   obtain ⟨gD4,nD4,_,_,_⟩:=I4.pin (D,_) (List.mem_append_right _ List.mem_cons_self)
   obtain ⟨m4,hn4,_⟩:=id I4.loc
   have fin:∀h',Heap.SameBut C s4.heap h'->Inv X pins U (upd H3 D (.lst ys)) { s4 with heap:=h' }:=fun h' hsb=>by
    have neC:∀{b:Addr} {u:HO},H3 b=some u->b≠C:=fun e z=>by
     have:H3 C=none:=I4.free
     rw [z,this] at e;cases e
    refine I2.call' (s':={ s4 with heap:=h' }) (ch:=fp) (H':=upd H3 D (.lst ys)) I4.os ?_ ?_ I4.bare fun b hb=>⟨(fpX b hb).2.2.2.1,(fpX b hb).2.1,(fpX b hb).2.2.2.2.1,(fpX b hb).2.2.2.2.2⟩
    ·have B:=I4.base
     have ltC:∀{b:Nat} {o:Obj},ae.heap.get? b=some o->b≠C:=fun e z=>wF (ltS e) hC z
     have neD:∀{b:Addr} {u:HO},H3 b=some u->b≠D:=fun e z=>by rw [z,nD4] at e;cases e
     refine ⟨fun b o e nn hb hx=>(hsb.2 b (ltC e)).trans (B.keep b o e nn hb hx),fun b o e nn hb hx=>?_,fun b o e nn hx=>?_,fun b o e hx=>?_,fun b xs e=>?_,fun b o u e=>?_,fun b ps e=>?_⟩
     ·obtain ⟨sl,z⟩:=B.slot b o e nn hb hx
      exact ⟨sl,(hsb.2 b (ltC e)).trans z⟩
     ·have hbD:b≠D:=Nat.ne_of_lt (ltS e)
      rw [zD hbD]
      exact B.free b o e nn hx
     ·obtain ⟨o',z⟩:=B.there b o e hx
      exact ⟨o',(hsb.2 b (ltC e)).trans z⟩
     ·have z:=B.tups b xs e
      rw [zD (neD z)];exact z
     ·have z:=B.frzs b o u e
      rw [zD (neD z)];exact z
     ·obtain ⟨more,z⟩:=B.tbls b ps e
      exact ⟨more,by rw [zD (neD z)];exact z⟩
    ·intro a o e
     by_cases ha:a=D
     ·subst ha
      rw [yn] at e
      cases e
      exact ⟨hz,its,k,rv,(hsb.2 _ hDC).trans gD4⟩
     ·rw [zD ha] at e
      have keepNe:∀b u,H3 b=some u->(upd H3 D (.lst ys)) b=some u:=fun b u z=>by
       have hb:b≠D:=fun w=>by rw [w,nD4] at z;cases z
       rw [zD hb];exact z
      refine (I4.hok a o e).stay (fun b u hb z=>(hsb.2 b ?_).trans z) (fun b z=>keepNe b _ z) fun b xs z=>keepNe b _ z
      rcases hb with hb|hb
      ·rw [hb];exact neC e
      ·exact neC hb
   have hCD:C≠D:=fun z=>hDC z.symm
   have IX:=fin s4.heap ⟨rfl,fun _ _=>rfl⟩
   obtain ⟨oC,eC,pC,gC,rC⟩:=id hn4
   have hCn:upd H3 D (.lst ys) C=none:=by rw [zD hCD];exact I4.free
   have hCe:∀b o,ae.heap.get? b=some o->b≠C:=fun b o e z=>wF (ltS e) hC z
   have hCl:C≠X.env.locals:=fun z=>by
    obtain ⟨m2,hn2,_⟩:=id I2.loc
    obtain ⟨o2,_,_,g2,_⟩:=hn2
    exact hCe _ _ g2 z.symm
   have hCf:C∉X.fs:=I2.nofs (by rw [hD];omega)
   have IP:Inv X (pins++[(C,oC)]) U (upd H3 D (.lst ys)) s4:=IX.pins_of fun p hp=>by
    rcases List.mem_append.mp hp with hp|hp
    ·exact IX.pin p (List.mem_append_right _ hp)
    ·have ep:p=(C,oC):=by simpa using hp
     subst ep
     exact ⟨gC,hCn,hCl,hCf,fun v z=>by rw [rC.1] at z;cases z⟩
   show wpAny _ _ (assign (.Name y pos') X.env (.ref D)) _ _ s4
   have hst:wpAny (model X.prog X.w) X.A (assign (.Name y pos') X.env (.ref D)) (fun _ s5=>Inv X (pins++[(C,oC)]) (U.set iy (some (.ref D))) (upd H3 D (.lst ys)) s5) X.xe s4:=wpAny_assign_Name (zcs IP hNX hiy hy (v:=.ref D) rfl (fun s5 I5=>I5) hfy)
   refine thn hst fun _ s5 I5=>?_
   have g5:=(I5.pin (C,oC) (List.mem_append_right _ (List.mem_append_right _ List.mem_cons_self))).1
   refine ⟨m4,⟨oC,eC,pC,g5,rC⟩,fun h'' hsb=>wpAny_pure (wpAny_pure ⟨_,_,?_,q D nD4⟩)⟩
   exact (I5.pins_of (pins':=pins) fun p hp=>I5.pin p (List.mem_append_right _ (List.mem_append_left _ hp))).turned (it:=C) (t':=s5.toks) (fun b o hb e=>(hsb.2 b hb).trans e) hCn hCl
    (.inr (by have:=I2.sz;rw [hD] at this;omega)) (fun a c ha z=>by
     obtain ⟨v',o',ho',_⟩:=I2.cell a c ha
     exact hCe _ _ ho' z) (fun p hp=>hCe _ _ (I2.pin p hp).1)
  ·refine thn (T.item Y rfl rfl rfl hc i _ s3 _ H3 E' I3 (fpY pinl fr3) st3 go) fun r s4 ⟨u,hr,h4⟩=>?_
   subst hr
   refine thn h4 fun _ s5 ⟨z,H5,I5,r5,y5,st5,fr5⟩=>?_
   have I5':=I5.pinned (fpY pinl fr5) (T.obj _ _ st5)
   have pgx:PG Y (.Name x px) (j6 0):=zaA (X:=Y) hN rfl (.inl (lookup_relabel_local S.hx)) (.inr (lookup_relabel_local S.hx))
   have peY:PE Y elt te:=PE.nox (X:=Y) (he cl C ae H2 fp)
   refine thn (pgx _ s5 (none::U) H5 z u (fun ah H'=>ah=some z::U/\H'=H5) I5' r5 ⟨rfl,rfl⟩) fun _ s6 ⟨az,H6,I6,e1,e2⟩=>?_
   subst e1 e2
   refine thn (peY _ s6 _ _ _ I6 (step z _ y5)) fun uy s7 ⟨y,H7,I7,ry,m',hm,w7⟩=>?_
   obtain ⟨gD7,nD7,_,_,_⟩:=I7.pin (D,_) (List.mem_append_right _ (List.mem_append_left _ List.mem_cons_self))
   refine wpAny_list_append_plain ⟨k,gD7⟩ (fun h' hpl hsb=>?_) (by rw [List.size_toArray,<-rv.length];exact hz)
   obtain ⟨k',gD'⟩:=hpl
   have I8:Inv Y [] (some z::U) H7 { s7 with heap:=h' }:=(I7.pins_of (pins':=[]) (fun p hp=>nomatch hp)).turned (it:=D) (t':=s7.toks) (fun b o hb e=>(hsb.2 b hb).trans e) nD7 hDC
    (.inr (by show ae.heap.objs.size<=D;omega)) (fun a c hy hz'=>by
     obtain ⟨v',o',ho',_⟩:=I2.cell a c (hcl1 a c hy)
     exact Nat.ne_of_lt (ltS ho') hz') (fun p hp=>by simp [Y,cxH] at hp)
   have I9:Inv Y [] (none::U) H7 { s7 with heap:=h' }:=I8.weak (by simp) fun j v e=>by
    cases j with
    | zero=>simp at e
    | succ j=>simpa using e
   have pinOf:∀b∈fp,∃o,s5.heap.get? b=some o/\s7.heap.get? b=some o/\H7 b=none:=fun b hb=>by
    obtain ⟨o,e,_⟩:=T.obj _ _ st5 b hb
    have q:=I7.pin (b,o) (List.mem_append_right _ (List.mem_append_right _ (zaC hb e)))
    exact ⟨o,e,q.1,q.2.1⟩
   have fpD:∀b∈fp,b≠D:=fun b hb=>by
    obtain ⟨o,ho,_⟩:=T.obj 0 _ st2 b hb
    exact Nat.ne_of_lt (ltS ho)
   have eT:its.toArray.push uy=(its++[uy]).toArray:=by simp
   rw [eT] at gD'
   refine ⟨m',hm,i+1,ys++[y],H7,its++[uy],k',I9.pins_of (hpinD gD' nD7 fun v e=>by cases e),rv.append (.cons ry .nil),T.keep (i+1) _ _ st5 fun b hb o e=>?_,fun b hb=>?_,w7⟩
   ·obtain ⟨o',e1,e2,_⟩:=pinOf b hb
    rw [e] at e1
    cases e1
    exact (hsb.2 b (fpD b hb)).trans e2
   ·obtain ⟨_,_,_,q⟩:=pinOf b hb
    exact q
 exact codeAny_compStart_list loop (T.self X.A 0 _ _ _ (T.keep 0 _ _ st2 (fun b hb o e=>old b o e)) loop)
end L2
namespace Mi
open PySem L2 PySem.W PySem.Spec
section
variable {X:Cx}{Er:XK}{pos:Pos}
def tMI (X:Cx) (Er:XK) (src:zc->Mo Sq):TI:=fun U H R=>∃env st ρ,EnvR X.K X.mg ρ H env U/\StR X.K X.mg ρ H st/\Out X.K X.mg ρ H (src env st) (fun ag H' q st'=>∀J,Walk X.K X.mg J ag H' q->R J H') Er
theorem zmw {src:zc->Mo Sq}{fe:zc->Mo PV}(U:L2.St) (H:Hp) (Q:VK) (hh:tM X.K X.mg Er (yt src fe) U H Q):zcB (tMI X Er src) (tM X.K X.mg XN fe) U H Q:=by
 obtain ⟨env,st,ρ,re,rs,h⟩:=hh
 refine ⟨env,st,ρ,re,rs,h.then fun ao H0 q st0 e0 s0 h0 J wk=>?_⟩
 cases q with
 | im xs =>
  obtain ⟨hl,h0⟩:=Out.ifp h0
  obtain ⟨w1,w2,w3⟩:=wk
  refine ⟨fun i m ys H=>m=xs.length-i/\i<=xs.length/\ys.length=i/\∃ps st ρ,Rs X.K X.mg ρ H ps ys/\StR X.K X.mg ρ H st/\Ext ao H0 ρ H/\Out X.K X.mg ρ H (compL fe env (xs.drop i) ps st) (gV X.K X.mg Q) Er,⟨xs.length,by simp,Nat.zero_le _,rfl,[],st0,ao,rfl,s0,Ext.refl,h0⟩,?_⟩
  rintro i m ys H ⟨rfl,hi,hy,ps,st,ρ,rps,rs,ex,h⟩
  by_cases hlt:i<xs.length
  ·refine .inr ⟨w1 i ρ H ex hlt,yz (by omega),fun v H' y=>?_⟩
   obtain ⟨x,hx,ex2,s2,rx⟩:=w3 i ρ H st v H' ex rs hlt y
   have hd:xs.drop i=x::xs.drop (i+1):=by
    rw [List.drop_eq_getElem_cons hlt]
    have:=(List.getElem?_eq_some_iff.mp hx).2
    rw [this]
   rw [hd] at h
   simp only [compL] at h
   refine ⟨some x::env,st,ρ,(re.ext (e0.trans (ex.trans ex2))).cons rx,s2,zaP (Out.ext h ex2) fun am H3 y st3 e3 s3 h3 v ry=>⟨xs.length-(i+1),by omega,rfl,hlt,by simp [hy],ps++[y],st3,am,Rs.snoc ry (Rs.ext (ex2.trans e3) ps rps),s3,(ex.trans ex2).trans e3,h3⟩⟩
  ·have e:i=xs.length:=by omega
   subst e
   rw [List.drop_length] at h
   exact .inl ⟨w2 _ ρ H ex (Nat.le_refl _),yz (by omega),fun l hl=>Out.newList h rs rps hl⟩
 | rf n =>
  obtain ⟨a,ha,rfl⟩:=wk
  refine ⟨fun i m ys H=>m+i=lim+1/\ys.length=i/\∃ps st ρ,Rs X.K X.mg ρ H ps ys/\StR X.K X.mg ρ H st/\Ext ao H0 ρ H/\ρ[n]?=some a/\Out X.K X.mg ρ H (compR fe env n m i ps st) (gV X.K X.mg Q) Er,⟨lim+1,rfl,rfl,[],st0,ao,rfl,s0,Ext.refl,ha,h0⟩,?_⟩
  rintro i m ys H ⟨hm,hy,ps,st,ρ,rps,rs,ex,ha,h⟩
  cases m with
  | zero=>exact False.elim h
  | succ m =>
   obtain ⟨xs,hn,h⟩:=yW h
   obtain ⟨vs,hH,hR⟩:=rs.addr hn ha
   cases hx:xs[i]? with
   | none =>
    simp only [hx] at h
    have:vs.length<=i:=by rw [<-hR.len];exact List.getElem?_eq_none_iff.mp hx
    exact .inl ⟨⟨vs,SqL.of hH,this⟩,yz (by omega),fun l hl=>Out.newList h rs rps hl⟩
   | some x =>
    simp only [hx] at h
    obtain ⟨v,hv,rv⟩:=hR.get hx
    refine .inr ⟨⟨vs,v,SqL.of hH,hv⟩,yz (by omega),fun v' H' y=>?_⟩
    obtain ⟨e1,y⟩:=y
    subst e1
    have e2:=y vs (SqL.of hH)
    rw [hv] at e2
    cases e2
    exact ⟨some x::env,st,ρ,(re.ext (e0.trans ex)).cons rv,rs,zaP h fun am H3 y st3 e3 s3 h3 v ry=>⟨m,Nat.lt_succ_self m,by omega,by simp [hy],ps++[y],st3,am,Rs.snoc ry (Rs.ext e3 ps rps),s3,ex.trans e3,e3.get ha,h3⟩⟩
theorem zf7 (i:Nat) {elt iter:Expr} {x y:Str} {px pos' spos:Pos} {scope:Scope} {src:zc->Mo Sq} {fe:zc->Mo PV} {M:List Str} (hc:X.calm=true) (S:CompSc X.env.scope scope x) (eN:Hid scope M X.N) (hN0:((".0" : Str)::x::M).Nodup)
  (hi:MI X Er (.Name x px) iter src) (he:∀cl C ae ai fp,ME (cxH X M scope cl x C ae ai fp (fun _ _=>False)) XN elt fe) (hNX:X.N.Nodup) (hiy:X.N[i]?=some y) (hy:Loc X.env.scope y) (hfy:X.fn y=true\/X.env.scope.names.lookup y=some .local)
  (hsw:swapsWith (.ListComp elt [⟨.Name x px,iter,[],0⟩] scope pos) (some (.Name y pos')) spos.line X.env=pure true) (hs:∀v,foldedSetIterable iter X.env v=pure v:=by intro _;rfl) :
  MS X Er (.Assign [.Name y pos'] (.ListComp elt [⟨.Name x px,iter,[],0⟩] scope pos) spos) (zH i (yt src fe)) :=
 PS.weak (zmu (te:=tM X.K X.mg XN fe) hc S eN hN0 hi (fun cl C ae ai fp=>he cl C ae ai fp) hNX hiy hy hfy hsw hs) fun D U H ⟨env,st,ρ,re,rs,h⟩=>by
  refine zmw (X:=X) (Er:=Er) (src:=src) (fe:=fe) U H (fun v H2=>D.nx (U.set i (some v)) H2) ⟨env,st,ρ,re,rs,h.then fun af H1 x st1 e1 s1 h1 v rv=>?_⟩
  exact h1.now s1 (U.set i (some v)) ((re.ext e1).set i rv)
theorem zmx (i:Nat) {elt iter:Expr} {x y:Str} {px pos' spos:Pos} {scope:Scope} {src:zc->Mo Sq} {fe:zc->Mo PV} {N:List Str} (hc:X.calm=true) (S:CompSc X.env.scope scope x) (eN:X.N=N) (hN0:((".0" : Str)::x::N).Nodup)
  (hi:MI X Er (.Name x px) iter src) (he:∀cl C ae ai fp,ME (cxC X scope cl x C ae ai fp (fun _ _=>False)) XN elt fe) (hNX:X.N.Nodup) (hiy:X.N[i]?=some y) (hy:Loc X.env.scope y) (hfy:X.fn y=true\/X.env.scope.names.lookup y=some .local)
  (hsw:swapsWith (.ListComp elt [⟨.Name x px,iter,[],0⟩] scope pos) (some (.Name y pos')) spos.line X.env=pure true) (hs:∀v,foldedSetIterable iter X.env v=pure v:=by intro _;rfl) :
  MS X Er (.Assign [.Name y pos'] (.ListComp elt [⟨.Name x px,iter,[],0⟩] scope pos) spos) (zH i (yt src fe)) :=
 zf7 i hc S Hid.refl (eN▸hN0) hi he hNX hiy hy hfy hsw hs
end
end Mi
namespace L2
open PySem PySem.Spec PyProof.Rows PySem.W
section
variable {X:Cx}{pins:List (Addr×Obj)}{U:St}{H:Hp}{s:Shared}{a:Addr}{kvs:List (Key×V)}{o:Obj}
theorem Inv.freeze (I:Inv X pins U H s) (ha:H a=some (.dK kvs)) (ho:s.heap.get? a=some o):Inv X pins U (upd H a (.frz o (.dK kvs))) s:=by
 have mu:Mut (H a):=by rw [ha];trivial
 have d:=I.hok a _ ha
 exact I.un (h':=s.heap) (t':=s.toks) (Un.write (e:=a) mu (.inl rfl) (fun b u _ q=>q) ⟨o,ho⟩) (HOk.write (e:=a) I.hok mu (.inl rfl) (fun b u _ q=>q) ⟨o,ho⟩ ⟨ho,d⟩)
theorem Inv.young (I:Inv X pins U H s) (ha:H a=some (.dK kvs)):∀o u,X.H₀ a≠some (.frz o u):=fun o u e=>by
 have:=I.base.frzs a o u e
 rw [ha] at this
 cases this
theorem Inv.thaw (I:Inv X pins U H s) (ha:H a=some (.frz o (.dK kvs))) (hy:∀o u,X.H₀ a≠some (.frz o u)):Inv X pins U (upd H a (.dK kvs)) s:=by
 have ne:∀b,H b=none->b≠a:=fun b n z=>by rw [z,ha] at n;cases n
 have no:∀b u,H b=some u->(∀o k,u ≠ .frz o k)->b≠a:=fun b u e n z=>by rw [z,ha] at e;cases e;exact n _ _ rfl
 refine ⟨I.ok,I.os,I.bare,⟨I.base.keep,I.base.slot,fun b o e n hx=>?_,I.base.there,fun b xs e=>?_,fun b o u e=>?_,fun b ps e=>?_⟩,I.loc,I.cell,?_,fun x c e=>?_,fun p hp=>?_,fun b u e=>?_,I.len⟩
 ·have:=I.base.free b o e n hx
  rw [zD (ne b this)];exact this
 ·have:=I.base.tups b xs e
  rw [zD (no b _ this fun _ _=>nofun)];exact this
 ·have:=I.base.frzs b o u e
  rw [zD (fun z=>hy o u (by rw [<-z];exact e))];exact this
 ·obtain ⟨m,this⟩:=I.base.tbls b ps e
  exact ⟨m,by rw [zD (no b _ this fun _ _=>nofun)];exact this⟩
 ·rw [zD (ne _ I.free)];exact I.free
 ·rw [zD (ne _ (I.freeC x c e))];exact I.freeC x c e
 ·obtain ⟨h1,h2,h3⟩:=I.pin p hp
  exact ⟨h1,by rw [zD (ne _ h2)];exact h2,h3⟩
 ·by_cases hb:b=a
  ·subst hb
   rw [yn] at e
   cases e
   exact (I.hok b _ ha).2
  ·rw [zD hb] at e
   exact (I.hok b u e).stay (fun c v _ q=>q) (fun c q=>by rw [zD (no c _ q fun _ _=>nofun)];exact q) fun c xs q=>by rw [zD (no c _ q fun _ _=>nofun)];exact q
end
def Itd (a:Addr) (o:Obj) (kvs:List (Key×V)):It :=
 ⟨fun i H=>H a=some (.frz o (.dK kvs))/\i<kvs.length,fun i H x H'=>H'=H/\∃kv,kvs[i]?=some kv/\x=kV kv.1,fun i H=>H a=some (.frz o (.dK kvs))/\kvs.length<=i⟩
theorem zmy {k:Key}{u:Value}(h:keyIs k u=true):RelV (kV k) u:=by
 rcases jb h with ⟨i,t,rfl,rfl⟩|⟨y,t,rfl,rfl⟩
 ·exact ⟨t,rfl⟩
 ·exact ⟨t,rfl⟩
theorem zf8 {X:Cx}{pins:List (Addr×Obj)}{U:St}{H:Hp}{s:Shared}{a:Addr}{o:Obj}{kvs:List (Key×V)}{es:Array DictEntry}{ep:Nat}(I:Inv X pins U H s) (ha:H a=some (.frz o (.dK kvs))) (hd:o.data=.dict es ep) :
  ∃vs,KV kvs vs/\s.heap.DictAt (mixKind X.prog X.w) a vs ep:=by
 obtain ⟨ho,_,_,vs,r,o',es',ep',e1,e2,e3,e4⟩:=I.hok a _ ha
 rw [ho] at e1
 cases e1
 rw [hd] at e3
 cases e3
 exact ⟨vs,r,o,es,ho,e2,hd,e4⟩
theorem zmz {P:Program}{w:World}{K:PySem.W.Frag}{tg:Expr}{a it:Addr}{o:Obj}{kvs:List (Key×V)}{es:Array DictEntry}{ep:Nat}(hd:o.data=.dict es ep):Turn P w K tg (Itd a o kvs) [it] it (fun i h=>h.IsKeyIter it a i kvs.length ep) where
 mem:=by simp
 obj:=fun i h st b hb=>by
  have e:b=it:=by simpa using hb
  subst e
  obtain ⟨o,e,c,d⟩:=st
  exact ⟨o,e,fun v z=>by rw [d] at z;cases z⟩
 keep:=fun i h h' st k=>st.at fun o e=>k it (by simp) o e
 item:=by
  intro X hP hw hK hc i pins s U H E I hf st hg
  subst hP hw hK
  obtain ⟨ha,hi⟩:=hg
  obtain ⟨vs,r,hat⟩:=zf8 I ha hd
  have hl:=r.length
  have hv:vs[i]?=some (vs[i]'(by omega)):=List.getElem?_eq_getElem (by omega)
  have hkv:kvs[i]?=some kvs[i]:=List.getElem?_eq_getElem hi
  have hk:kvs[i].1=(vs[i]'(by omega)).1:=by
   have:=congrArg (fun l:List Key=>l[i]?) r.keys
   simp only [List.getElem?_map,hv,hkv,Option.map_some] at this
   exact Option.some.inj this
  obtain ⟨f0,f1,f2,f3,f4,f5⟩:=hf it (by simp)
  rw [hl] at st
  refine wpAny_pyNext_dict_item st hat (k:=(vs[i]'(by omega)).1) (v:=(vs[i]'(by omega)).2) hv fun key h' hkey st' sb=>?_
  have I1:Inv X pins U H { s with heap:=h' }:=I.turned (t':=s.toks) (fun b o hb e=>(sb.2 b hb).trans e) f0 f1 f3 f4 f5
  obtain ⟨o',e,c,d⟩:=id st'
  refine ⟨key,rfl,zaB (s:={ s with heap:=h' }) e c d (by decide) ⟨kV kvs[i].1,H,I1,?_,⟨rfl,_,hkv,rfl⟩,by rw [<-hl] at st';exact st',fun b hb=>(hf b hb).1⟩⟩
  rw [hk]
  exact zmy hkey
 done:=by
  intro X hP hw hK hc i pins s U H E I hf st hg
  subst hP hw hK
  obtain ⟨ha,hi⟩:=hg
  obtain ⟨vs,r,hat⟩:=zf8 I ha hd
  have hl:=r.length
  obtain ⟨f0,f1,f2,f3,f4,f5⟩:=hf it (by simp)
  rw [hl] at st
  exact wpAny_pyNext_dict_end (I.ok.hd hc) st hat (List.getElem?_eq_none_iff.mpr (by omega)) fun h' eb=>⟨rfl,I.turned (t':=s.toks) (fun b o hb e=>eb b o hb e) f0 f1 f3 f4 f5⟩
 self:=fun _ _ _ _ _ st h=>wpAny_pyIter_keyiter st h
def zmA (X:Cx) (tl:TE):TI:=fun U H R=>tl U H fun x H1=>∃a kvs,x=.ref a/\H1 a=some (.dK kvs)/\∀o,kvs.length<=sizeLine->(∀o u,X.H₀ a≠some (.frz o u))->R (Itd a o kvs) (upd H1 a (.frz o (.dK kvs)))
theorem zmB {X:Cx}{l tg:Expr}{tl:TE}(hl:PE X l tl):PI X tg l (zmA X tl):=by
 intro pins s U H R I h
 refine thn (hl pins s U H _ I h) fun v s1 ⟨x,H1,I1,r1,a,kvs,e,ha,q⟩=>?_
 subst e
 cases r1
 obtain ⟨hz,lo,vs,r,o,es,ep,ho,hx,hd,hr⟩:=I1.hok a _ ha
 have I2:=I1.freeze ha ho
 have fr:∀b,s1.heap.objs.size<=b->(upd H1 a (.frz o (.dK kvs))) b=none:=fun b hb=>I2.hok.fresh hb
 refine wpAny_pyIter_dict lo (show s1.heap.DictAt (mixKind X.prog X.w) a vs ep from ⟨o,es,ho,hx,hd,hr⟩) ?_
 refine ⟨s1.heap.objs.size,[s1.heap.objs.size],_,_,_,rfl,I2.kept (t':=s1.toks) (fun b o e=>Heap.get?_push_of_some _ e),zmz hd,?_,fun b hb=>?_,q o hz (I1.young ha)⟩
 ·rw [r.length]
  exact ⟨_,Heap.get?_push_size _ rfl,rfl,rfl⟩
 ·have e:b=s1.heap.objs.size:=by simpa using hb
  subst e
  exact I2.fpOk (Nat.le_refl _) (fr _ (Nat.le_refl _))
def Thaw (X:Cx) (H:Hp) (G:Hp->Prop):Prop:=∃a o kvs,H a=some (.frz o (.dK kvs))/\(∀o u,X.H₀ a≠some (.frz o u))/\G (upd H a (.dK kvs))
theorem zmC {X:Cx}{e:Expr}{t:TE}(h:PE X e t):PE X e (fun U H Q=>t U H fun v H'=>Thaw X H' (Q v)):=by
 intro pins s U H Q I q
 refine thn (h pins s U H _ I q) fun u s1 ⟨v,H',I',r,a,o,kvs,ha,hy,q'⟩=>?_
 exact ⟨v,_,I'.thaw ha hy,r,q'⟩
end L2
namespace Mi
open PySem L2 PySem.W PySem.Spec
section
variable {K:Frag}{mg:Str->Option Value}{ρ:List Addr}{H:Hp}{a:Addr}{o:Obj}{kvs:List (Key×V)}{u:HO}
theorem zaV (ha:H a=some (.frz o (.dK kvs))) {b:Addr}{w:HO}(h:H b=some w) (n:∀o k,w ≠ .frz o (.dK k)):upd H a u b=some w:=by
 rw [zD]
 ·exact h
 ·intro z;subst z;rw [ha] at h;cases h;exact n _ _ rfl
theorem zmD (ha:H a=some (.frz o (.dK kvs))) {p:Addr}{xs:List V}(h:SqT K H p xs):SqT K (upd H a u) p xs:=by
 rcases h with (h|⟨o,h⟩)|h
 ·exact .inl (.inl (zaV ha h (fun _ _=>nofun)))
 ·exact .inl (.inr ⟨o,zaV ha h (fun _ _=>nofun)⟩)
 ·exact .inr h
theorem zmE (ha:H a=some (.frz o (.dK kvs))) {p:Addr}{xs:List V}(h:FrL K H p xs):FrL K (upd H a u) p xs:=by
 rcases h with ⟨o,h⟩|h
 ·exact .inl ⟨o,zaV ha h (fun _ _=>nofun)⟩
 ·exact .inr h
mutual
theorem R.th (ha:H a=some (.frz o (.dK kvs))):∀(x:PV) {v:V},R K mg ρ H x v->R K mg ρ (upd H a u) x v
 | .non,_,h=>h
 | .bl _,_,h=>h
 | .int _,_,h=>h
 | .str _,_,h=>h
 | .ty _,_,h=>h
 | .tup xs,_,h=>by
  obtain ⟨a,vs,h1,h2,h3⟩:=h
  exact ⟨a,vs,h1,zmD ha h2,Rs.th ha xs h3⟩
 | .frl xs,_,h=>by
  obtain ⟨a,vs,h1,h2,h3⟩:=h
  exact ⟨a,vs,h1,zmE ha h2,Rs.th ha xs h3⟩
 | .ref n,_,h=>h
 | .fn _,_,h=>h
 | .kd ks xs,_,h=>by
  obtain ⟨a,us,vs,h1,h2,h4,h3⟩:=h
  exact ⟨a,us,vs,h1,h2,h4,Rs.th ha xs h3⟩
 | .exo c ks xs,_,h=>by
  obtain ⟨a,C,d,vs,h1,h2,h3,h4,h5,h6⟩:=h
  exact ⟨a,C,d,vs,h1,h2,zaV ha h3 (fun _ _=>nofun),zaV ha h4 (fun _ _=>nofun),Rs.th ha xs h5,h6⟩
theorem Rs.th (ha:H a=some (.frz o (.dK kvs))):∀(xs:List PV) {vs:List V},Rs K mg ρ H xs vs->Rs K mg ρ (upd H a u) xs vs
 | [],_,h=>h
 | x::xs,_,h=>by
  obtain ⟨v,r,h1,h2,h3⟩:=h
  exact ⟨v,r,h1,R.th ha x h2,Rs.th ha xs h3⟩
end
theorem EnvR.th (ha:H a=some (.frz o (.dK kvs))) {env:zc}{U:L2.St}(h:EnvR K mg ρ H env U):EnvR K mg ρ (upd H a u) env U :=
 ⟨h.len,fun i x hx=>let ⟨v,p,q⟩:=h.at_ i x hx;⟨v,p,R.th ha x q⟩⟩
theorem zmF (ha:H a=some (.frz o (.dK kvs))) {so:SO}{b:Addr}(ne:b≠a) (h:SoR K mg ρ H so b):SoR K mg ρ (upd H a u) so b:=by
 cases so with
 | lst xs=>obtain ⟨vs,h1,h2⟩:=h;exact ⟨vs,by rw [zD ne];exact h1,Rs.th ha xs h2⟩
 | dic ks xs=>obtain ⟨vs,h1,h2,h3⟩:=h;exact ⟨vs,by rw [zD ne];exact h1,Rs.th ha xs h2,h3⟩
 | ins c ks xs=>obtain ⟨C,dx,vs,h0,h1,h2,h3⟩:=h;exact ⟨C,dx,vs,h0,by rw [zD ne];exact h1,Rs.th ha xs h2,h3⟩
 | fdi ks xs=>obtain ⟨o,vs,h1,h2,h3⟩:=h;exact ⟨o,vs,by rw [zD ne];exact h1,Rs.th ha xs h2,h3⟩
theorem StR.thaw {st:Sto}{n:Nat}{ks:List Str}{xs:List PV}(s:StR K mg ρ H st) (hn:ρ[n]?=some a) (ha:H a=some (.frz o (.dK kvs))) (hs:st[n]?=some (.fdi ks xs)):StR K mg ρ (upd H a (.dK kvs)) (st.set n (.dic ks xs)):=by
 refine ⟨by simp [s.len],s.nd,fun i so' e=>?_⟩
 rw [List.getElem?_set] at e
 by_cases hij:n=i
 ·subst hij
  rw [if_pos rfl] at e
  split at e
  ·cases e
   obtain ⟨o',vs,h1,h2,h3⟩:=s.addr hs hn
   rw [ha] at h1
   cases h1
   exact ⟨a,hn,vs,yn,Rs.th ha xs h2,h3⟩
  ·cases e
 ·rw [if_neg hij] at e
  obtain ⟨b,hb,q⟩:=s.at_ i so' e
  have ne:b≠a:=by
   intro z
   subst z
   obtain ⟨h1,h2⟩:=List.getElem?_eq_some_iff.mp hn
   obtain ⟨h3,h4⟩:=List.getElem?_eq_some_iff.mp hb
   have pw:=List.pairwise_iff_getElem.mp s.nd
   rcases Nat.lt_trichotomy n i with c|c|c
   ·exact pw n i h1 h3 c (h2.trans h4.symm)
   ·exact hij c
   ·exact pw i n h3 h1 c (h4.trans h2.symm)
  exact ⟨b,hb,zmF ha ne q⟩
theorem Ext.thawed {ag:List Addr}{H':Hp}{w:HO}(ha:H a=some (.dK kvs)) (e:Ext ρ (upd H a (.frz o (.dK kvs))) ag H'):Ext ρ H ag (upd H' a w) :=
 ⟨e.pre,fun b x h m=>by
  have ne:b≠a:=by intro z;subst z;rw [ha] at h;cases h;cases m
  rw [zD ne]
  exact e.imm b x (by rw [zD ne];exact h) m⟩
end
section
variable {X:Cx}{Er:XK}{pos:Pos}{o:Expr}{sts:List Stmt}{gb:zc->Mo Fl}{fo:zc->Mo PV}{fs:zc->Mo (List PV)}
def zaW {α:Type}(v:PV) (st:Sto) (f:Nat->List Str->List PV->Res α):Res α:=match v with
 | .ref n=>yp st n fun ks xs=>f n ks xs
 | _=>.stuck
def thawM {α:Type}(n:Nat) (st:Sto) (f:Sto->Res α):Res α:=match st[n]? with
 | some (.fdi ks xs)=>f (st.set n (.dic ks xs))
 | _=>.stuck
theorem zmG {α:Type}{K:Frag}{mg:Str->Option Value}{ρ:List Addr}{H:Hp}{st:Sto}{v:PV}{k:Nat->List Str->List PV->Res α}{good:List Addr->Hp->α->Sto->Prop}(h:Out K mg ρ H (zaW v st k) good Er):∃n ks xs,v=.ref n/\st[n]?=some (.dic ks xs)/\Out K mg ρ H (k n ks xs) good Er:=by
 unfold zaW at h
 split at h
 ·rename_i n
  obtain ⟨ks,xs,e,h⟩:=zaH h
  exact ⟨n,ks,xs,rfl,e,h⟩
 ·exact False.elim h
theorem zmH {α:Type}{K:Frag}{mg:Str->Option Value}{ρ:List Addr}{H:Hp}{st:Sto}{n:Nat}{k:Sto->Res α}{good:List Addr->Hp->α->Sto->Prop}(h:Out K mg ρ H (thawM n st k) good Er):∃ks xs,st[n]?=some (.fdi ks xs)/\Out K mg ρ H (k (st.set n (.dic ks xs))) good Er:=by
 unfold thawM at h
 split at h
 ·rename_i ks xs e;exact ⟨ks,xs,e,h⟩
 ·exact False.elim h
theorem zmI {α β:Type}{K:Frag}{mg:Str->Option Value}{ρ:List Addr}{H:Hp}{r:Res β}{f:β->Mo α}{good:List Addr->Hp->α->Sto->Prop}(h:Out K mg ρ H ((noErr r).bind f) good Er):∃x st,r=.ok x st/\Out K mg ρ H (f x st) good Er:=by
 cases r with
 | ok x st=>exact ⟨x,st,rfl,h⟩
 | err=>exact False.elim h
 | stuck=>exact False.elim h
theorem zmJ {α β:Type}{r:Res β}{f:β->Mo α}{x:α}{st:Sto}(h:(noErr r).bind f=.ok x st):∃y st1,r=.ok y st1/\f y st1=.ok x st:=by
 cases r with
 | ok y st1=>exact ⟨y,st1,rfl,h⟩
 | err=>cases h
 | stuck=>cases h
theorem zmK {ks:List Str}{vs:List V}{i:Nat}{kv:Key×V}(h:(kz ks vs)[i]?=some kv):∃k,ks[i]?=some k/\kV kv.1=.str k:=by
 unfold kz at h
 rw [List.getElem?_zip_eq_some] at h
 obtain ⟨h1,_⟩:=h
 rw [List.getElem?_map] at h1
 cases hk:ks[i]? with
 | none=>rw [hk] at h1;cases h1
 | some k =>
  rw [hk] at h1
  have:kv.1=Sum.inr k:=(Option.some.inj h1).symm
  exact ⟨k,rfl,by rw [this];rfl⟩
def compK (fe:zc->Mo PV) (env:zc):List PV->List PV->Mo (List PV)
 | [],ys,st=>.ok ys st
 | x::xs,ys,st=>(noErr (fe (some x::env) st)).bind fun y st1=>compK fe env xs (ys++[y]) st1
def zc4 (fo:zc->Mo PV) (fe:zc->Mo PV):zc->Mo PV:=fun env st=>(fo env st).bind fun v st1=>zaW v st1 fun n ks xs =>
 (noErr (compK fe env (ks.map PV.str) [] (st1.set n (.fdi ks xs)))).bind fun ys st2=>thawM n (st2++[.lst ys]) fun st3=>.ok (.ref st2.length) st3
theorem zmL {elt:Expr} {x:Str} {px:Pos} {scope:Scope} {fe:zc->Mo PV} {N:List Str} (hc:X.calm=true) (S:CompSc X.env.scope scope x) (eN:X.N=N) (hN0:((".0" : Str)::x::N).Nodup)
  (ho:ME X Er o fo) (he:∀cl C ae ai fp,ME (cxC X scope cl x C ae ai fp (fun _ _=>False)) XN elt fe)
  (hs:∀v,foldedSetIterable o X.env v=pure v:=by intro _;rfl):ME X Er (.ListComp elt [⟨.Name x px,o,[],0⟩] scope pos) (zc4 fo fe) :=
 PE.weak (zmC (zj6 (te:=tM X.K X.mg XN fe) hc S eN hN0 (zmB ho) (fun cl C ae ai fp=>he cl C ae ai fp) hs)) fun U H Q ⟨env,st,ρ,re,rs,h⟩=>⟨env,st,ρ,re,rs,h.then fun ao H0 x st0 e0 s0 h0 v rv=>by
  obtain ⟨n,ks,xs,rfl,hn,h0⟩:=zmG h0
  obtain ⟨a,vs,rfl,ha,k1,k2,k3⟩:=R.refD s0 rv hn
  refine ⟨a,kz ks vs,rfl,k1,fun ob hz hy=>?_⟩
  obtain ⟨ys',st',hr,h0⟩:=zmI h0
  obtain ⟨ks',xs',ht,h0⟩:=zmH h0
  have ew:Ext ao H0 ao (upd H0 a (.frz ob (.dK (kz ks vs)))):=Ext.write k1 rfl
  have hl:(kz ks vs).length=ks.length:=by simp [kz,k3]
  rw [hl] at hz
  refine ⟨fun i m ys H=>m=ks.length-i/\i<=ks.length/\ys.length=i/\∃ps st ρ,Rs X.K X.mg ρ H ps ys/\StR X.K X.mg ρ H st/\Ext ao (upd H0 a (.frz ob (.dK (kz ks vs)))) ρ H/\compK fe env ((ks.map PV.str).drop i) ps st=.ok ys' st',
   ⟨ks.length,by simp,Nat.zero_le _,rfl,[],_,ao,rfl,s0.write (so:=.fdi ks xs) ha ew ⟨ob,vs,yn,Rs.ext ew _ k2,k3⟩,Ext.refl,hr⟩,?_⟩
  rintro i m ys H ⟨rfl,hi,hyl,ps,st,ρ,rps,rs,ex,h⟩
  have hf:H a=some (.frz ob (.dK (kz ks vs))):=ex.imm a _ yn rfl
  have ha':=ex.get ha
  by_cases hlt:i<ks.length
  ·refine .inr ⟨⟨hf,by rw [hl];exact hlt⟩,by omega,fun v H' y=>?_⟩
   obtain ⟨rfl,kv,hkv,rfl⟩:=y
   obtain ⟨k,hk,ev⟩:=zmK hkv
   have hd:(ks.map PV.str).drop i=.str k::(ks.map PV.str).drop (i+1):=by
    rw [List.drop_eq_getElem_cons (by simpa using hlt)]
    have:=(List.getElem?_eq_some_iff.mp hk).2
    simp [this]
   rw [hd] at h
   simp only [compK] at h
   obtain ⟨y,st2,hb2,h⟩:=zmJ h
   refine ⟨some (.str k)::env,st,ρ,(re.ext (e0.trans (ew.trans ex))).cons ev,rs,?_⟩
   rw [hb2]
   exact fun am H3 e3 s3 w rw'=>⟨ks.length-(i+1),by omega,rfl,hlt,by simp [hyl],ps++[y],st2,am,Rs.snoc rw' (Rs.ext e3 ps rps),s3,ex.trans e3,h⟩
  ·have e:i=ks.length:=by omega
   subst e
   rw [List.drop_of_length_le (by simp)] at h
   cases h
   refine .inl ⟨⟨hf,by rw [hl];exact Nat.le_refl _⟩,by omega,fun l hl'=>?_⟩
   have ne:a≠l:=jo hf hl'
   have hf':upd H l (.lst ys) a=some (.frz ob (.dK (kz ks vs))):=by rw [zD ne];exact hf
   have ep:Ext ρ H (ρ++[l]) (upd H l (.lst ys)):=Ext.push hl'
   have s1:StR X.K X.mg (ρ++[l]) (upd H l (.lst ys)) (st'++[.lst ys']):=rs.push hl' ⟨ys,yn,Rs.ext ep _ rps⟩
   exact ⟨a,ob,_,hf',hy,h0 (ρ++[l]) _ (Ext.thawed k1 (ex.trans ep)) (StR.thaw s1 (ep.get ha') hf' ht) _ ⟨l,rfl,by rw [<-rs.len];simp⟩⟩⟩
def y8:PV->PV->Mo PV:=fun x y st=>match x with
 | .ref n=>match st[n]? with
  | some (.fdi ks xs)=>match y with
   | .str z=>optR ((ks.zip xs).lookup z) st
   | _=>.stuck
  | _=>zJ x y st
 | _=>zJ x y st
theorem zf9 (hu:X.A.units+200<cLine):IxOk X y8:=by
 obtain ⟨r,h1,h2⟩:=yr (X:=X) hu
 refine ⟨_,h1.or (zfE (by omega)),fun ρ H st x y v w Q E s rx ry h=>?_⟩
 by_cases hx:∃n ks xs,x=.ref n/\st[n]?=some (.fdi ks xs)
 ·obtain ⟨n,ks,xs,rfl,e⟩:=hx
  simp only [y8,e] at h
  cases y with
  | str z =>
   obtain ⟨q,hq,h⟩:=wf h
   obtain ⟨a,rfl,ha⟩:=rx
   obtain ⟨ob,vs,k1,k2,_⟩:=s.addr e ha
   cases ry
   obtain ⟨v,hv,rv⟩:=j2 k2 hq
   refine .inr ⟨a,v,rfl,.inl ⟨_,Sum.inr z,.inr ⟨ob,k1⟩,rfl,?_⟩,h.now s _ rv⟩
   rw [<-hv]
   exact zaR.symm
  | _=>exact False.elim h
 ·refine .inl (h2 ρ H st x y v w Q E s rx ry ?_)
  have:y8 x y st=zJ x y st:=by
   unfold y8
   split
   ·rename_i n
    split
    ·rename_i ks xs e;exact absurd ⟨n,ks,xs,rfl,e⟩ hx
    ·rfl
   ·rfl
  rw [this] at h
  exact h
end
end Mi
namespace L2
open PySem PySem.Spec PyProof.Rows PySem.W
end L2
namespace Mi
open PySem L2 PySem.W PySem.Spec
section
variable {X:Cx}{Er:XK}{K:Frag}{mg:Str->Option Value}{pos p apos cpos:Pos}{o e f:Expr}{fo fk fx:zc->Mo PV}
def boolsP:List PV->Option (List Bool)
 | []=>some []
 | .bl b::r=>(boolsP r).map (b::·)
 | _::_=>none
theorem zga {ρ:List Addr}{H:Hp}:∀{xs:List PV}{bs:List Bool}{vs:List V},boolsP xs=some bs->Rs K mg ρ H xs vs->vs=bs.map V.bl
 | [],bs,vs,e,h=>by cases e;cases h;rfl
 | .bl i::r,bs,vs,e,h=>by
  simp only [boolsP,Option.map_eq_some_iff] at e
  obtain ⟨ir,e1,rfl⟩:=e
  obtain ⟨v,r',rfl,h1,h2⟩:=h
  cases h1
  rw [zga e1 h2]
  rfl
 | .non::_,_,_,e,_=>by cases e
 | .int _::_,_,_,e,_=>by cases e
 | .str _::_,_,_,e,_=>by cases e
 | .ty _::_,_,_,e,_=>by cases e
 | .tup _::_,_,_,e,_=>by cases e
 | .frl _::_,_,_,e,_=>by cases e
 | .ref _::_,_,_,e,_=>by cases e
 | .fn _::_,_,_,e,_=>by cases e
 | .kd _ _::_,_,_,e,_=>by cases e
 | .exo _ _ _::_,_,_,e,_=>by cases e
theorem zgb:∀bs:List Bool,boolsP (bs.map PV.bl)=some bs
 | []=>rfl
 | b::bs=>by simp [boolsP,zgb bs]
def zak:List PV->Mo PV:=fun vs st=>(zbO vs st).bind fun n st=>z9 st n fun xs=>match boolsP xs with
 | some bs=>.ok (.bl (bs.all id)) st
 | none=>.stuck
theorem zc5 (hc:X.calm=true):BltOk X (.builtin "all") zak:=⟨_,zj8 hc,fun ρ H st xs vs Q E s r h=>by
 obtain ⟨n,ys,rfl,hn,h⟩:=zmb h
 obtain ⟨xs',hn',h⟩:=yW h
 obtain ⟨v,rfl,rv⟩:=r.one
 obtain ⟨a,rfl,ha⟩:=rv
 obtain ⟨ws,hH,hR⟩:=s.addr hn' ha
 cases hi:boolsP xs' with
 | none=>simp only [hi] at h;exact False.elim h
 | some bs =>
  simp only [hi] at h
  have e:=zga hi hR
  subst e
  exact ⟨a,bs,rfl,SqL.of hH,Out.now (x:=PV.bl (bs.all id)) h s _ rfl⟩⟩
theorem zc6:bootBuiltins "all" = some (.builtin "all"):=by decide +kernel
def pairOf:PV->Option (PV×PV)
 | .tup [x,y]=>some (x,y)
 | _=>none
theorem zmM {q:PV}{r:PV×PV}(h:pairOf q=some r):q=.tup [r.1,r.2]:=by
 unfold pairOf at h
 split at h
 ·cases h;rfl
 ·cases h
def jN (fe:zc->Mo PV) (env:zc):List PV->List PV->Mo PV
 | [],ys,st=>.ok (.ref st.length) (st++[.lst ys])
 | q::xs,ys,st=>match pairOf q with
  | some r=>(noErr (fe (some r.1::some r.2::env) st)).bind fun z st1=>jN fe env xs (ys++[z]) st1
  | none=>.stuck
theorem zmN {fe:zc->Mo PV}{env:zc}{q:PV}{xs ys:List PV}{st:Sto}{ρ:List Addr}{H:Hp}{good:List Addr->Hp->PV->Sto->Prop}(h:Out K mg ρ H (jN fe env (q::xs) ys st) good Er):∃x y,q=.tup [x,y]/\Out K mg ρ H ((noErr (fe (some x::some y::env) st)).bind fun z st1=>jN fe env xs (ys++[z]) st1) good Er:=by
 simp only [jN] at h
 cases hq:pairOf q with
 | none=>simp only [hq] at h;exact False.elim h
 | some r =>
  simp only [hq] at h
  exact ⟨r.1,r.2,zmM hq,h⟩
def imOf:Sq->Option (List PV)
 | .im xs=>some xs
 | .rf _=>none
def zc7 (src:zc->Mo Sq) (fe:zc->Mo PV):zc->Mo PV:=fun env st=>(src env st).bind fun q st1=>match imOf q with
 | some xs=>if xs.length<=lim then jN fe env xs [] st1 else .stuck
 | none=>.stuck
theorem zmO {elt iter:Expr} {x y:Str} {kt:Nat} {px py tp:Pos} {scope:Scope} {src:zc->Mo Sq} {fe:zc->Mo PV} {N:List Str} (hc:X.calm=true) (S:CompSN X.env.scope scope [x,y]) (eN:X.N=N) (hN0:((".0" : Str)::([x,y]++N)).Nodup)
  (hi:MI X Er (.Tuple [.Name x px,.Name y py] kt tp) iter src) (he:∀cl C ae ai fp,ME (cxN X scope cl [x,y] C ae ai fp (fun _ _=>False)) XN elt fe)
  (hx:scope.names.lookup x=some .local:=by rfl) (hy:scope.names.lookup y=some .local:=by rfl) (hs:∀v,foldedSetIterable iter X.env v=pure v:=by intro _;rfl) :
  ME X Er (.ListComp elt [⟨.Tuple [.Name x px,.Name y py] kt tp,iter,[],0⟩] scope pos) (zc7 src fe):=by
 have hN:([x,y]++X.N).Nodup:=by rw [eN];exact (List.nodup_cons.mp hN0).2
 have pgx:∀cl C ae ai fp E,PG (cxN X scope cl [x,y] C ae ai fp E) (.Tuple [.Name x px,.Name y py] kt tp) (zej X.K 2 (zcu (j6 0) (zcu (j6 1) zeh))):=fun cl C ae ai fp E=>zit (n:=2) hc
  (zei (zaA (X:=cxN X scope cl [x,y] C ae ai fp E) (i:=0) hN rfl (.inl (lookup_relabel_local hx)) (.inr (lookup_relabel_local hx)))
  (zei (zaA (X:=cxN X scope cl [x,y] C ae ai fp E) (i:=1) hN rfl (.inl (lookup_relabel_local hy)) (.inr (lookup_relabel_local hy))) zis))
 exact PE.weak (zj5 (te:=tM X.K X.mg XN fe) (tt:=w6) hc S eN hN0 hi pgx (fun cl C ae ai fp=>zeS) (fun cl C ae ai fp=>he cl C ae ai fp) hs) fun U H Q ⟨env,st,ρ,re,rs,h⟩=>⟨env,st,ρ,re,rs,h.then fun ao H0 q st0 e0 s0 h0 J wk=>by
  cases q with
  | rf n=>exact False.elim h0
  | im xs =>
   obtain ⟨hl,h0⟩:=Out.ifp (show Out X.K X.mg ao H0 (if xs.length<=lim then jN fe env xs [] st0 else .stuck) (gV X.K X.mg Q) Er from h0)
   obtain ⟨w1,w2,w3⟩:=wk
   refine ⟨fun i m ys H=>m=xs.length-i/\i<=xs.length/\ys.length=i/\∃ps st ρ,Rs X.K X.mg ρ H ps ys/\StR X.K X.mg ρ H st/\Ext ao H0 ρ H/\Out X.K X.mg ρ H (jN fe env (xs.drop i) ps st) (gV X.K X.mg Q) Er,⟨xs.length,by simp,Nat.zero_le _,rfl,[],st0,ao,rfl,s0,Ext.refl,h0⟩,?_⟩
   rintro i m ys H ⟨rfl,hi,hy,ps,st,ρ,rps,rs,ex,h⟩
   by_cases hlt:i<xs.length
   ·refine .inr ⟨w1 i ρ H ex hlt,yz (by omega),fun v H' yy=>?_⟩
    obtain ⟨x,hx,ex2,s2,rx⟩:=w3 i ρ H st v H' ex rs hlt yy
    have hd:xs.drop i=x::xs.drop (i+1):=by
     rw [List.drop_eq_getElem_cons hlt]
     have:=(List.getElem?_eq_some_iff.mp hx).2
     rw [this]
    rw [hd] at h
    obtain ⟨p,q,rfl,h⟩:=zmN h
    obtain ⟨a,vs,rfl,h1,h2⟩:=rx
    obtain ⟨u,w,rfl,r1,r2⟩:=Rs.two h2
    refine ⟨a,[u,w],rfl,h1,rfl,u,[w],rfl,w,[],rfl,rfl,[some u,some w],rfl,rfl,?_⟩
    have re2:EnvR X.K X.mg ρ H' (some p::some q::env) (some u::some w::U):=((re.ext (e0.trans (ex.trans ex2))).cons r2).cons r1
    simp only [w6,↓reduceIte]
    exact ⟨_,st,ρ,re2,s2,zaP (Out.ext h ex2) fun aF H4 y st4 e4 s4 h4 v4 r4=>⟨xs.length-(i+1),by omega,rfl,hlt,by simp [hy],ps++[y],st4,aF,Rs.snoc r4 (Rs.ext (ex2.trans e4) ps rps),s4,(ex.trans ex2).trans e4,h4⟩⟩
   ·have e:i=xs.length:=by omega
    subst e
    rw [List.drop_length] at h
    exact .inl ⟨w2 _ ρ H ex (Nat.le_refl _),yz (by omega),fun l hl=>Out.newList h rs rps hl⟩⟩
def zbQ:List ((zc->Mo PV)×(zc->Mo PV))->zc->Mo (List PV×List PV)
 | [],_,st=>.ok ([],[]) st
 | q::r,env,st=>(q.1 env st).bind fun k st1=>(q.2 env st1).bind fun x st2=>(zbQ r env st2).bind fun z st3=>.ok (k::z.1,x::z.2) st3
inductive MPk (X:Cx) (Er:XK):List (Option Expr)->List Expr->List ((zc->Mo PV)×(zc->Mo PV))->Prop
 | nil:MPk X Er [] [] []
 | cons {k v:Expr} {fk fv:zc->Mo PV} {ks:List (Option Expr)} {vs:List Expr} {fs:List ((zc->Mo PV)×(zc->Mo PV))} (hk:ME X Er k fk) (hv:ME X Er v fv) (hr:MPk X Er ks vs fs):MPk X Er (some k::ks) (v::vs) ((fk,fv)::fs)
theorem zmP:MPk X Er [] [] []:=.nil
theorem zmQ {k v:Expr}{fk fv:zc->Mo PV}{ks:List (Option Expr)}{vs:List Expr}{fs:List ((zc->Mo PV)×(zc->Mo PV))}(hk:ME X Er k fk) (hv:ME X Er v fv) (hr:MPk X Er ks vs fs):MPk X Er (some k::ks) (v::vs) ((fk,fv)::fs):=.cons hk hv hr
theorem MPk.pps:∀{ks:List (Option Expr)}{vs:List Expr}{fs:List ((zc->Mo PV)×(zc->Mo PV))},MPk X Er ks vs fs->PPs X pos ks vs (fs.map fun q=>(tM X.K X.mg Er q.1,tM X.K X.mg Er q.2))
 | _,_,_,.nil=>zkm
 | _,_,_,.cons hk hv hr=>zkn hk hv hr.pps
theorem MPk.len {ks:List (Option Expr)}{vs:List Expr}{fs:List ((zc->Mo PV)×(zc->Mo PV))}(h:MPk X Er ks vs fs):ks.length=vs.length/\ks.length=fs.length/\ks.all (·.isSome)=true:=by
 induction h with
 | nil=>exact ⟨rfl,rfl,rfl⟩
 | cons hk hv hr ih=>exact ⟨by simp [ih.1],by simp [ih.2.1],by simpa using ih.2.2⟩
theorem zgc:∀{fs:List ((zc->Mo PV)×(zc->Mo PV))}{env:zc}{st:Sto}{ρ:List Addr}{H:Hp}{U:L2.St}{Q:List (V×V)->Hp->Prop},EnvR K mg ρ H env U->StR K mg ρ H st ->
  Out K mg ρ H (zbQ fs env st) (fun ag H' q st'=>q.1.length=fs.length->q.2.length=fs.length->∀ks vs,Rs K mg ag H' q.1 ks->Rs K mg ag H' q.2 vs->Q (ks.zip vs) H') Er->zbm (fs.map fun q=>(tM K mg Er q.1,tM K mg Er q.2)) U H Q
 | [],env,st,ρ,H,U,Q,re,rs,h=>h.now rs rfl rfl [] [] rfl rfl
 | f::fs,env,st,ρ,H,U,Q,re,rs,h=>by
  refine ⟨env,st,ρ,re,rs,Out.then h fun af H1 k st1 e1 s1 h1 v rv=>?_⟩
  refine ⟨env,st1,af,re.ext e1,s1,Out.then h1 fun ak H2 x st2 e2 s2 h2 u ru=>?_⟩
  refine zgc (env:=env) (st:=st2) (ρ:=ak) ((re.ext e1).ext e2) s2 (Out.then h2 fun am H3 z st3 e3 s3 h3 l1 l2 ks vs rk rvs=>?_)
  exact h3.now s3 (by simp [l1]) (by simp [l2]) (v::ks) (u::vs) ⟨v,ks,rfl,R.ext e3 k (R.ext e2 k rv),rk⟩ ⟨u,vs,rfl,R.ext e3 x ru,rvs⟩
def keysP:List PV->Option (List Str)
 | []=>some []
 | .str z::r=>(keysP r).map (z::·)
 | _::_=>none
theorem zgd {ρ:List Addr}{H:Hp}:∀{xs:List PV}{zs:List Str}{vs:List V},keysP xs=some zs->Rs K mg ρ H xs vs->vs=zs.map V.str
 | [],bs,vs,e,h=>by cases e;cases h;rfl
 | .str i::r,bs,vs,e,h=>by
  simp only [keysP,Option.map_eq_some_iff] at e
  obtain ⟨ir,e1,rfl⟩:=e
  obtain ⟨v,r',rfl,h1,h2⟩:=h
  cases h1
  rw [zgd e1 h2]
  rfl
 | .non::_,_,_,e,_=>by cases e
 | .int _::_,_,_,e,_=>by cases e
 | .bl _::_,_,_,e,_=>by cases e
 | .ty _::_,_,_,e,_=>by cases e
 | .tup _::_,_,_,e,_=>by cases e
 | .frl _::_,_,_,e,_=>by cases e
 | .ref _::_,_,_,e,_=>by cases e
 | .fn _::_,_,_,e,_=>by cases e
 | .kd _ _::_,_,_,e,_=>by cases e
 | .exo _ _ _::_,_,_,e,_=>by cases e
def zaX (fs:List ((zc->Mo PV)×(zc->Mo PV))):zc->Mo PV:=fun env st=>(zbQ fs env (st++[.dic [] []])).bind fun q st1=>match keysP q.1 with
 | some zs=>if isEmp st1[st.length]?=true then .ok (.ref st.length) (st1.set st.length (.dic (zae (zs.zip q.2) [] []).1 (zae (zs.zip q.2) [] []).2)) else .stuck
 | none=>.stuck
theorem zmR {keys:List (Option Expr)}{values:List Expr}{fs:List ((zc->Mo PV)×(zc->Mo PV))}(h:MPk X Er keys values fs) (h0:keys≠[]) (h15:keys.length<=15):ME X Er (.Dict keys values pos) (zaX fs):=by
 obtain ⟨l1,l2,l4⟩:=h.len
 exact PE.weak (zkp h.pps l4 l1 h0 h15) fun U H Q ⟨env,st,ρ,re,rs,ho⟩=>fun p hp=>by
  have e0:Ext ρ H (ρ++[p]) (upd H p (.dK [])):=Ext.push hp
  have s0:StR X.K X.mg (ρ++[p]) (upd H p (.dK [])) (st++[.dic [] []]):=rs.push hp ⟨[],yn,rfl,rfl⟩
  have hp0:(ρ++[p])[st.length]?=some p:=by rw [<-rs.len];simp
  refine zgc (re.ext e0) s0 (Out.then (Out.ext ho e0) fun af H1 q st1 e1 s1 h1 lk lv us vs ru rv=>?_)
  cases hk:keysP q.1 with
  | none=>simp only [hk] at h1;exact False.elim h1
  | some zs =>
   simp only [hk] at h1
   have eu:=zgd hk ru
   subst eu
   obtain ⟨c,h1⟩:=Out.ifp h1
   have hd:=zmi c
   have hp1:=e1.get hp0
   obtain ⟨ws,k1,k2,k3⟩:=s1.addr hd hp1
   have ew:ws=[]:=by cases ws with|nil=>rfl|cons=>simp at k3
   subst ew
   have lz:zs.length=fs.length:=by have:=ru.len;simpa [lk] using this.symm
   refine ⟨k1,(zs.map Sum.inr:List Key).zip vs,zfS,by rw [List.length_zip,List.length_map];omega,?_⟩
   have eq:Ext af H1 af (upd H1 p (.dK (mergeK [] ((zs.map Sum.inr:List Key).zip vs)))):=Ext.write k1 rfl
   obtain ⟨us,q1,q2,q3⟩:=zfL (K:=X.K) (mg:=X.mg) (zs:=zs) (ks:=[]) (xs:=[]) (vs:=[]) rv rfl rfl
   exact h1 af _ eq (s1.write hp1 eq ⟨us,by rw [yn];exact congrArg (fun t=>some (HO.dK t)) q1,Rs.ext eq _ q2,q3⟩) _ ⟨p,rfl,hp1⟩
theorem zmS {z:Str}{ks:List Str}{xs:List PV}{vs:List V}(hl:xs.length=vs.length) (hk:ks.length=vs.length) (h:(ks.zip xs).lookup z=none):(ks.zip vs).lookup z=none:=by
 refine zaN fun hz=>?_
 obtain ⟨i,hi⟩:=List.getElem?_of_mem hz
 have hl':i<xs.length:=by rw [hl,<-hk];exact (List.getElem?_eq_some_iff.mp hi).1
 have:=List.lookup_eq_none_iff.mp h (z,xs[i]) (List.mem_iff_getElem?.mpr ⟨i,by simp [List.getElem?_zip_eq_some,hi,hl']⟩)
 simp at this
end
section
variable {K:Frag}{mg:Str->Option Value}{h:Heap}
end
section
variable {X:Cx}{Er:XK}{K:Frag}{mg:Str->Option Value}
theorem call_len_dict:CallR X (.builtin "len") (fun xs H Q=>∃p kvs,xs=[.ref p]/\H p=some (.dK kvs)/\Q (.int kvs.length) H):=by
 intro pins s U H xs us Q I r h
 obtain ⟨p,kvs,rfl,hp,q⟩:=h
 obtain ⟨u,rfl,rx⟩:=wE r
 cases rx
 exact zkg I (.inl hp) fun t s' I'=>⟨.int kvs.length,H,I',⟨t,rfl⟩,q⟩
def yc:List PV->Mo PV:=fun xs st=>match xs with
 | [.ref n]=>match st[n]? with
  | some (.dic ks _)=>.ok (.int ks.length) st
  | _=>zbE xs st
 | _=>zbE xs st
theorem jg:BltOk X (.builtin "len") yc:=by
 obtain ⟨r,h1,h2⟩:=zld (X:=X)
 refine ⟨_,h1.or call_len_dict,fun ρ H st xs vs Q E s rx h=>?_⟩
 by_cases hx:∃n ks ys,xs=[.ref n]/\st[n]?=some (.dic ks ys)
 ·obtain ⟨n,ks,ys,rfl,e⟩:=hx
  have h:Out X.K X.mg ρ H (.ok (.int ks.length) st) (gV X.K X.mg Q) E:=by
   simpa only [yc,e] using h
  obtain ⟨v,rfl,rv⟩:=Rs.one rx
  obtain ⟨a,ws,rfl,_,k1,k2,k3⟩:=R.refD s rv e
  refine .inr ⟨a,_,rfl,k1,?_⟩
  have hl:(kz ks ws).length=ks.length:=by simp [kz,k3]
  rw [hl]
  exact Out.now (x:=PV.int ks.length) h s _ rfl
 ·refine .inl (h2 ρ H st xs vs Q E s rx ?_)
  have:yc xs st=zbE xs st:=by
   unfold yc
   split
   ·rename_i n
    split
    ·rename_i ks ys e;exact absurd ⟨n,ks,ys,rfl,e⟩ hx
    ·rfl
   ·rfl
  rw [this] at h
  exact h
end
section
variable {α:Type}{env:zc}{st:Sto}{fa fb fo fk fx:zc->Mo PV}{fs:zc->Mo (List PV)}{g:zc->Mo Fl}
theorem zal {n:Nat}{ks:List Str}{xs:List PV}(h:st[n]?=some (.dic ks xs)) (k:List Str->List PV->Res α):yp st n k=k ks xs:=by unfold yp;rw [h]
theorem zmT {n:Nat}{xs:List PV}(h:st[n]?=some (.lst xs)):zbO [.ref n] st=.ok n st:=by
 show z9 st n _=_
 rw [yl h]
theorem zc8 {n:Nat}{bs:List Bool}(h:st[n]?=some (.lst (bs.map PV.bl))):zak [.ref n] st=.ok (.bl (bs.all id)) st:=by
 unfold zak
 rw [zmT h]
 simp only [zw]
 rw [yl h,zgb]
theorem zge {n:Nat}{ks:List Str}{xs:List PV}(h:st[n]?=some (.dic ks xs)):yc [.ref n] st=.ok (.int ks.length) st:=by
 simp only [yc,h]
theorem zc9 {n:Nat}{xs:List PV}(h:st[n]?=some (.lst xs)):yc [.ref n] st=.ok (.int xs.length) st:=by
 simp only [yc,h]
 show z9 st n _=_
 rw [yl h]
@[simp] theorem zgf (xs:List PV):yc [.tup xs] st=.ok (.int xs.length) st:=(rfl)
@[simp] theorem zmU:zc4 fo fa env st=(fo env st).bind fun v st1=>zaW v st1 fun n ks xs=>(noErr (compK fa env (ks.map PV.str) [] (st1.set n (.fdi ks xs)))).bind fun ys st2=>thawM n (st2++[.lst ys]) fun st3=>.ok (.ref st2.length) st3:=(rfl)
@[simp] theorem zmV (src:zc->Mo Sq):zc7 src fa env st=(src env st).bind fun q st1=>match imOf q with|some xs=>if xs.length<=lim then jN fa env xs [] st1 else .stuck|none=>.stuck:=(rfl)
end
end Mi
namespace L2
open PySem PySem.Spec PyProof.Rows PySem.W
section
variable {X:Cx}
end
end L2
namespace Mi
open PySem L2 PySem.W PySem.Spec
section
variable {X:Cx}{Er:XK}{pos:Pos}{K:Frag}{mg:Str->Option Value}{fs:zc->Mo (List PV)}
end
end Mi
namespace PySem
open Sem (wp)
section
variable {prog:Program}{w:World}{A:Around}{s:Shared}{R:Result->Shared->Prop}
variable {I:Addr}{fp wr:List Addr}{G:Array GenState->Array GenState->Prop}{n:Nat}{P:Nat->Value->Prop}{St:Nat->Shared->Prop}
end
section
variable {prog:Program}{w:World}{A:Around}{s:Shared}{R:Result->Shared->Prop}
variable {I:Addr}{fp wr:List Addr}{G:Array GenState->Array GenState->Prop}{n:Nat}{P:Nat->Value->Prop}{St:Nat->Shared->Prop}
end
section
variable {prog:Program}{w:World}{A:Around}{E:Value->Shared->Prop}{s:Shared}
variable {I:Addr}{fp wr:List Addr}{G:Array GenState->Array GenState->Prop}{n:Nat}{P:Nat->Value->Prop}{St:Nat->Shared->Prop}
end
end PySem
namespace L2
open PySem PySem.Spec PyProof.Rows PySem.W
section
variable {X:Cx}
end
end L2
namespace Mi
open PySem L2 PySem.W PySem.Spec
section
variable {X:Cx}{Er:XK}{pos:Pos}{K:Frag}{mg:Str->Option Value}{fs:zc->Mo (List PV)}
end
section
variable {X:Cx}{Er:XK}{pos pos':Pos}{o i value:Expr}{fo fi fv:zc->Mo PV}
end
section
variable {X:Cx}
end
end Mi
namespace L2
open PySem PySem.Spec PyProof.Rows PySem.W
section
variable {prog:Program}{w:World}{A:Around}{E:Value->Shared->Prop}{s:Shared}
end
section
variable {X:Cx}{pos:Pos}
end
end L2
namespace Mi
open PySem L2 PySem.W PySem.Spec
section
variable {X:Cx}{Er:XK}{pos:Pos}{e:Expr}{fa:zc->Mo PV}
end
end Mi
namespace L2
open PySem PySem.Spec PyProof.Rows PySem.W
section
variable {prog:Program}{w:World}{A:Around}{E:Value->Shared->Prop}{s:Shared}
end
end L2
namespace Mi
open PySem L2 PySem.W PySem.Spec
section
variable {X:Cx}{Er:XK}{pos:Pos}{sts:List Stmt}{gb:zc->Mo Fl}{fs:zc->Mo (List PV)}
end
end Mi
namespace L2
open PySem PySem.Spec PyProof.Rows PySem.W
section
variable {prog:Program}{w:World}{A:Around}{E:Value->Shared->Prop}{s:Shared}
end
end L2
namespace Mi
open PySem L2 PySem.W PySem.Spec
section
variable {X:Cx}
end
end Mi
namespace L2
open PySem PySem.Spec PyProof.Rows PySem.W
end L2
namespace Mi
open PySem L2 PySem.W PySem.Spec
section
variable {X:Cx}{Er:XK}{pos:Pos}
end
section
variable {K:Frag}{h:Heap}{mg:Str->Option Value}{od:Option Addr}{f:Addr}
end
section
variable {X:Cx}{Er:XK}{pos:Pos}
end
section
variable {X:Cx}{Er:XK}{pos:Pos}
end
section
variable {X:Cx}{Er:XK}{pos pos':Pos}{o i value:Expr}{fo fi fv:zc->Mo PV}
end
end Mi
namespace L2
open PySem PySem.Spec PyProof.Rows PySem.W
section
variable {X:Cx}
end
end L2
namespace Mi
open PySem L2 PySem.W PySem.Spec
section
variable {X:Cx}{Er:XK}
theorem zmW {K:Frag}{mg:Str->Option Value}{ρ:List Addr}{H:Hp}:∀{xs:List PV}{zs:List Str}{vs:List V},strsOf xs=some zs->Rs K mg ρ H xs vs->vs=zs.map V.str:=fun {xs zs vs} h r=>by
 have:=zfK h r
 rw [this]
 simp [kV,List.map_map,Function.comp_def]
end
section
variable {X:Cx}{K:Frag}{mg:Str->Option Value}
def jO (neg:Bool):PV->PV->Mo PV:=fun x y st=>match y with
 | .ref n=>match st[n]? with
  | some (.fdi ks xs)=>match x with
   | .str z=>.ok (.bl (neg.xor ((ks.zip xs).lookup z).isSome)) st
   | _=>.stuck
  | _=>yK neg x y st
 | _=>yK neg x y st
theorem zmX {neg:Bool}:OpM K mg (zc3 K mg neg) (jO neg):=by
 intro ρ H st x y v w Q E s rx ry h
 by_cases hy:∃n ks xs,y=.ref n/\st[n]?=some (.fdi ks xs)
 ·obtain ⟨n,ks,xs,rfl,e⟩:=hy
  simp only [jO,e] at h
  cases x with
  | str z =>
   obtain ⟨a,rfl,ha⟩:=ry
   obtain ⟨ob,vs,k1,k2,k3⟩:=s.addr e ha
   cases rx
   refine .inr (.inl ⟨a,(ks.zip vs).lookup z,rfl,.inl ⟨_,Sum.inr z,.inr ⟨ob,k1⟩,rfl,zaR.symm⟩,?_⟩)
   have e:((ks.zip vs).lookup z).isSome=((ks.zip xs).lookup z).isSome:=by
    cases hq:(ks.zip xs).lookup z with
    | some q=>obtain ⟨v,hv,_⟩:=j2 k2 hq;rw [hv];rfl
    | none=>exact congrArg Option.isSome (zmS k2.len k3 hq)
   rw [e]
   exact Out.now (x:=PV.bl _) h s _ rfl
  | _=>exact False.elim h
 ·refine zfI ρ H st x y v w Q E s rx ry ?_
  have:jO neg x y st=yK neg x y st:=by
   unfold jO
   split
   ·rename_i n
    split
    ·rename_i ks xs e;exact absurd ⟨n,ks,xs,rfl,e⟩ hy
    ·rfl
   ·rfl
  rw [this] at h
  exact h
theorem zmY (hu:X.A.units+200<cLine):CmpOk X .In (jO false):=⟨_,zfH hu,zmX⟩
end
end Mi
namespace Mi
open PySem L2 PySem.W
section
variable {α:Type}{g g':zc->Mo Fl}{f fa fb fc:zc->Mo PV}{fs:zc->Mo (List PV)}{t ta tb:zc->Mo Bool}{e e1:zc}{st s1 s2 s3:Sto}{x y v:PV}{xs:List PV}{b:Bool}
theorem zo {X:Res Fl}(h:g e st=.ok (.nx e1) s1) (h':g' e1 s1=X):zq g g' e st=X:=by rw [zfu,h,zw,zlU,h']
theorem yi (h:g e st=.ok (.rt v) s1):zq g g' e st=.ok (.rt v) s1:=by rw [zfu,h,zw,zlV]
theorem zQ {i:Nat}(h:f e st=.ok v s1):zH i f e st=.ok (.nx (e.set i (some v))) s1:=by rw [zlW,h,zw]
theorem wS (h:f e st=.ok v s1):yY f e st=.ok (.nx e) s1:=by rw [zlX,h,zw]
theorem zO (h:f e st=.ok v s1):zE f e st=.ok (.rt v) s1:=by rw [zlY,h,zw]
theorem ye {X:Res Fl}(h:t e st=.ok true s1) (h':g e s1=X):zK t g g' e st=X:=by rw [zfv,h,zw,if_pos rfl,h']
theorem zmZ {X:Res Fl}(h:t e st=.ok false s1) (h':g' e s1=X):zK t g g' e st=X:=by rw [zfv,h,zw,if_neg (by simp),h']
theorem zF (h:t e st=.ok false s1):zK t g zL e st=.ok (.nx e) s1:=zmZ h (zlT ..)
theorem ze {i:Nat}(h:e[i]?=some (some v)):zd i e st=.ok v st:=by rw [zlD,h]
theorem zl {op:PV->PV->Mo PV}{X:Res PV}(h:fa e st=.ok x s1) (h':fb e s1=.ok y s2) (h2:op x y s2=X):zh op fa fb e st=X:=by rw [zlE,h,zw,h',zw,h2]
theorem yv {op:PV->Mo PV}{X:Res PV}(h:fa e st=.ok x s1) (h2:op x s1=X):yg op fa e st=X:=by rw [zlF,h,zw,h2]
theorem zt {m:List PV->Mo PV}{X:Res PV}(h:fs e st=.ok xs s1) (h2:m xs s1=X):zm m fs e st=X:=by rw [zlP,h,zw,h2]
theorem wT (h:f e st=.ok x s1) (h':fs e s1=.ok xs s2):zf f fs e st=.ok (x::xs) s2:=by rw [zlJ,h,zw,h',zw]
theorem y3:zj e st=.ok [] st:=(rfl)
theorem zy (h:f e st=.ok x s1):zf f zj e st=.ok [x] s1:=wT h y3
theorem zG (h:f e st=.ok x s1) (h':fa e s1=.ok y s2):zf f (zf fa zj) e st=.ok [x,y] s2:=wT h (zy h')
theorem zda (h:fs e st=.ok xs s1) (hl:xs.length<=1000000):wa fs e st=.ok (.tup xs) s1:=by rw [zlK,h,zw,if_pos hl]
theorem zam (h:fs e st=.ok xs s1) (hl:xs.length<=1000000):jZ fs e st=.ok (.ref s1.length) (s1++[.lst xs]):=by rw [zlL,h,zw,if_pos hl]
theorem zp (h:f e st=.ok (.bl b) s1):mB f e st=.ok b s1:=by rw [zlG,h,zw,zc0]
theorem zaY (h:ta e st=.ok false s1):jG ta tb e st=.ok false s1:=by rw [zfr,h,zw,if_neg (by simp)]
theorem wU (h:ta e st=.ok true s1) (h':tb e s1=.ok b s2):jG ta tb e st=.ok b s2:=by rw [zfr,h,zw,if_pos rfl,h']
theorem zgg (h:ta e st=.ok true s1):yR ta tb e st=.ok true s1:=by rw [zfs,h,zw,if_pos rfl]
theorem jP (h:ta e st=.ok false s1) (h':tb e s1=.ok b s2):yR ta tb e st=.ok b s2:=by rw [zfs,h,zw,if_neg (by simp),h']
theorem jh (h:ta e st=.ok b s1):yA ta e st=.ok (!b) s1:=by rw [zlH,h,zw]
theorem zdb {X:Res PV}(h:fa e st=.ok (.bl true) s1) (h':fb e s1=X):jH fa fb e st=X:=by rw [zlI,h,zw,zc0,zw,if_pos rfl,h']
theorem zdc {lo hi:Option Int}{fl fu:zc->Mo (Option Int)}{X:Res PV}(h:fa e st=.ok x s1) (hl:fl e s1=.ok lo s2) (hu:fu e s2=.ok hi s3) (h':oSl x lo hi s3=X):wK fa fl fu e st=X:=by rw [zlM,h,zw,hl,zw,hu,zw,h']
theorem zaZ {i:Int}(h:f e st=.ok (.int i) s1):pSome f e st=.ok (some i) s1:=by rw [zlN,h,zw,zlO]
theorem zm0:pNone e st=.ok none st:=(rfl)
theorem zdd {op:PV->PV->Mo PV}{n:Nat}{ys:List PV}{X:Res PV}(h:fa e st=.ok (.ref n) s1) (hl:s1[n]?=some (.lst ys)) (h':fb e s1=.ok y s2) (h2:op (.ref n) y s2=X):jJ op fa fb e st=X:=by
 rw [zl2,h,zw,zl3]
 simp only [z9,hl,zw]
 rw [h',zw,h2]
theorem jQ (i j:Int):zR (.int i) (.int j) st=.ok (.int (i+j)) st:=(rfl)
theorem wq (i j:Int):yX (.int i) (.int j) st=.ok (.int (i-j)) st:=(rfl)
theorem jA (i j:Int) (h:j≠0):yj (.int i) (.int j) st=.ok (.int (yB i j)) st:=by show (if _ then _ else _)=_;rw [if_pos (by simpa using h)]
theorem zde (i j:Int) (h:j≠0) (h2:j.natAbs<2 ^ 200):wb (.int i) (.int j) st=.ok (.int (ju i j)) st:=by
 show (if _ then _ else _)=_
 rw [if_pos]
 simp only [cDv,Bool.and_eq_true,decide_eq_true_eq]
 exact ⟨h,h2⟩
theorem zm1 (i j:Int):wJ (.int i) (.int j) st=.ok (.bl (decide (i<j))) st:=(rfl)
theorem zgh (i j:Int):we (.int i) (.int j) st=.ok (.bl (decide (i<=j))) st:=(rfl)
theorem zm2 (i j:Int):jw (.int i) (.int j) st=.ok (.bl (decide (j<i))) st:=(rfl)
theorem zbR (i j:Int):yq (.int i) (.int j) st=.ok (.bl (decide (i=j))) st:=by simp [Mi.plain,dep,eqP];rfl
theorem zgi (i j:Int):j0 (.int i) (.int j) st=.ok (.bl (!decide (i=j))) st:=by simp [Mi.plain,dep,eqP];rfl
theorem zm3 (i j:Str):yq (.str i) (.str j) st=.ok (.bl (decide (i=j))) st:=by simp [Mi.plain,dep,eqP];rfl
theorem zm4 (i j:Str):j0 (.str i) (.str j) st=.ok (.bl (!decide (i=j))) st:=by simp [Mi.plain,dep,eqP];rfl
theorem jB (i j:Int) (h:cMul i j=true):ym (.int i) (.int j) st=.ok (.int (i*j)) st:=by rw [zmg,if_pos h]
theorem zP {m:Nat}{n:Nat}{r:Sto}(hl:xs.length=m) (h:g (xs.map some++List.replicate (n-m) none) st=.ok (.rt v) r):zU m n g xs st=.ok v r:=by
 unfold zU
 rw [if_pos hl,h,zw,zlZ]
end
end Mi
namespace Mi
open PySem L2 PySem.W PySem.Spec
def nst:Expr->Bool
 | .Starred _ _=>false
 | _=>true
theorem zm5 {e:Expr}{es:List Expr}{env:Env}(h:nst e=true):St1 e es env:=by cases e<;>first|rfl|cases h
theorem zk {X:Cx}{Er:XK}{e:Expr}{es:List Expr}{fa:zc->Mo PV}{fs:zc->Mo (List PV)}(ha:ME X Er e fa) (hr:MA X Er es fs) (hs:nst e=true:=by rfl):MA X Er (e::es) (zf fa fs):=zkW ha hr (zm5 hs)
section
variable {X:Cx}{K:Frag}{mg:Str->Option Value}{Er:XK}{e o:Expr}{pos apos cpos:Pos}{fo fa:zc->Mo PV}{x:Str}{h:Heap}
def zm6:PV->PV->Mo PV
 | .str z,.ref n,st=>z9 st n fun xs=>match strsOf xs with
  | some ys=>if (ys.map (·.length)).sum+ys.length*z.length<=1000000 then .ok (.str (Txt.join z ys)) st else .stuck
  | none=>.stuck
 | _,_,_=>.stuck
def jR (fo fa:zc->Mo PV):zc->Mo PV:=fun env st=>(fo env st).bind fun o st1=>match o with
 | .str z=>(fa env st1).bind fun y st2=>zm6 (.str z) y st2
 | _=>.stuck
theorem za0 (ho:ME X Er o fo) (he:ME X Er e fa) (hbase:attributeBase o "join" X.env (eval o X.env)=eval o X.env:=by rfl)
  (hfew:((backTo cpos (starEach [e] X.env)).all (fun x=>!x.1)&&(backToKw cpos (keywordEach [] X.env)).all (fun x=>x.1.isSome)&&decide ([e].length+([]:List Keyword).length+(if ([]:List Keyword).isEmpty then 0 else 1)<30))=true:=by rfl)
  (hline:(apos.endLine==cpos.line)=true:=by rfl) (hs:starEach [e] X.env=(false,eval e X.env)::starEach [] X.env:=by rfl) (hpl:(backTo cpos (starEach [] X.env)).any (·.1)=false:=by rfl):ME X Er (.Call (.Attribute o "join" apos) [e] [] cpos) (jR fo fa) :=
 PE.weak (zcy PySem.F.plainAttrs_str PySem.F.slot_str_join PySem.F.type_str_join zj9 ho (zbh he zbg hs) hbase hfew hline hs hpl) fun U H Q ⟨env,st,ρ,re,rs,h⟩=>⟨env,st,ρ,re,rs,h.then fun af H1 x st1 e1 s1 h1 v rv=>by
  cases x with
  | str z =>
   cases rv
   refine ⟨rfl,env,st1,af,re.ext e1,s1,h1.then fun ak H2 y st2 e2 s2 h2 w rw'=>?_⟩
   cases y with
   | ref n =>
    obtain ⟨p,rfl,hp⟩:=rw'
    obtain ⟨xs,hn,h3⟩:=yW h2
    cases hq:strsOf xs with
    | none=>simp only [hq] at h3;exact False.elim h3
    | some ys =>
     simp only [hq] at h3
     obtain ⟨hl,h4⟩:=Out.ifp h3
     obtain ⟨vs,hH,hR⟩:=s2.addr hn hp
     rw [zmW hq hR] at hH
     exact ⟨z,p,ys,rfl,rfl,.inl (.inl hH),by omega,Out.now (x:=PV.str (Txt.join z ys)) h4 s2 _ rfl⟩
   | _=>exact False.elim h2
  | _=>exact False.elim h1⟩
end
end Mi
namespace PySem
section
variable {M:Model}{A:Around}{E:Value->Shared->Prop}
variable {nm q nm' q':Str}{C N B N':Addr}{bs bm bs' bm':List Value}{hdct hdct':Bool}{sn sn':List Str}{sub sub':List Value}{ab ab':Bool}{col col':Option Bool}{dd dd':Option Addr}{k0 k1 k2 k3 k5 k0' k1' k2' k3' k5':Option Value}{newId newId':String}
end
end PySem
namespace L2
open PySem PySem.Spec PyProof.Rows PySem.W
structure ExSub (K:Frag) (C B:Addr):Prop where
 of:ExOf K C
 sub:mroIn K C (.ref B)=some true
end L2
namespace Mi
open PySem L2 PySem.W PySem.Spec
section
variable {X:Cx}{Er:XK}{pos:Pos}
end
end Mi
namespace L2
open PySem PySem.Spec PyProof.Rows PySem.W
end L2
namespace Mi
open PySem L2 PySem.W PySem.Spec
section
variable {X:Cx}{Er:XK}{pos:Pos}{o:Expr}{sts:List Stmt}{gb:zc->Mo Fl}{fo:zc->Mo PV}{fs:zc->Mo (List PV)}
end
end Mi
namespace L2
open PySem PySem.Spec PyProof.Rows PySem.W PySem.Builtin PySem.Builtin.ObjectAttr
end L2
namespace Mi
open PySem L2 PySem.W PySem.Spec
section
variable {K:Frag}{mg:Str->Option Value}{h:Heap}{C:Addr}
end
section
variable {P:Program}{W:World}{A:Around}{s:Shared}
end
section
variable {X:Cx}{K:Frag}{mg:Str->Option Value}{ρ:List Addr}{pins:List (Addr×Obj)}{U:L2.St}{H:Hp}{s:Shared}{st:Sto}
end
section
variable {X:Cx}{K:Frag}{mg:Str->Option Value}{Er:XK}{e o:Expr}{es:List Expr}{pos p apos:Pos}{fs:zc->Mo (List PV)}{fo fa:zc->Mo PV}
def zgj:PV->PV->Mo PV
 | .ref n,.int i,st=>if i=0 then z9 st n fun xs=>match xs with
  | y::r=>.ok y (st.set n (.lst r))
  | []=>.stuck
  else .stuck
 | _,_,_=>.stuck
theorem zm7 {cpos:Pos} (ho:ME X Er o fo) (he:ME X Er e fa) (hbase:attributeBase o "pop" X.env (eval o X.env)=eval o X.env:=by rfl)
  (hfew:((backTo cpos (starEach [e] X.env)).all (fun x=>!x.1)&&(backToKw cpos (keywordEach [] X.env)).all (fun x=>x.1.isSome)&&decide ([e].length+([]:List Keyword).length+(if ([]:List Keyword).isEmpty then 0 else 1)<30))=true:=by rfl)
  (hline:(apos.endLine==cpos.line)=true:=by rfl) (hs:starEach [e] X.env=(false,eval e X.env)::starEach [] X.env:=by rfl) (hpl:(backTo cpos (starEach [] X.env)).any (·.1)=false:=by rfl):ME X Er (.Call (.Attribute o "pop" apos) [e] [] cpos) (jJ zgj fo fa) :=
 PE.weak (zcy PySem.F.plainAttrs_list PySem.F.slot_list_pop PySem.F.type_list_pop zjV ho (zbh he zbg hs) hbase hfew hline hs hpl) fun U H Q ⟨env,st,ρ,re,rs,h⟩=>⟨env,st,ρ,re,rs,h.then fun af H1 x st1 e1 s1 h1 v rv=>by
  obtain ⟨n,xs,rfl,hn,h1⟩:=zfo h1
  obtain ⟨p,vs,rfl,hp,k1,k2⟩:=R.refL s1 rv hn
  refine ⟨.inl ⟨rfl,vs,SqL.of k1⟩,env,st1,af,re.ext e1,s1,h1.then fun ak H2 y st2 e2 s2 h2 w rw=>?_⟩
  cases y with
  | int i =>
   cases rw
   obtain ⟨hi,h2⟩:=Out.ifp h2
   subst hi
   obtain ⟨xs2,hn2,h2⟩:=yW h2
   obtain ⟨p',vs2,e3,hp2,k3,k4⟩:=R.refL s2 (R.ext e2 _ rv) hn2
   cases e3
   cases xs2 with
   | nil=>exact False.elim h2
   | cons y r =>
    obtain ⟨u,us,rfl,ru,rus⟩:=k4
    have ew:Ext ak H2 ak (upd H2 p (.lst us)):=Ext.write k3 rfl
    exact ⟨p,u::us,0,0,u,rfl,rfl,k3,by decide,by decide,by simp [seqIndex?],rfl,h2 ak _ ew (s2.write hp2 ew ⟨us,yn,Rs.ext ew _ rus⟩) _ (R.ext ew y ru)⟩
  | _=>exact False.elim h2⟩
def zan:List PV->Mo PV:=fun xs st=>match xs with
 | [.str z]=>match PySem.intText? z with
  | some n=>if z.length<=640 then .ok (.int n) st else .stuck
  | none=>.stuck
 | _=>.stuck
end
end Mi
namespace Mi
open PySem L2 PySem.W PySem.Spec PyProof.Rows
def leS (a b:Str):Bool:=decide (a.cps.toList<=b.cps.toList)
def sortT (ks:List Str):List Str:=ks.mergeSort leS
theorem za1 (a b c:Str) (h:leS a b=true) (h':leS b c=true):leS a c=true:=by
 unfold leS at *
 rw [decide_eq_true_eq] at *
 exact List.le_trans h h'
theorem zbS (a b:Str):(leS a b||leS b a)=true:=by
 unfold leS
 rw [Bool.or_eq_true,decide_eq_true_eq,decide_eq_true_eq]
 exact List.le_total _ _
theorem zdf {a b:Str}(h:leS a b=true) (h':leS b a=true):a=b:=by
 unfold leS at *
 rw [decide_eq_true_eq] at *
 have:=List.le_antisymm h h'
 cases a;cases b
 simp only at this
 rw [Str.mk.injEq]
 exact Array.toList_inj.mp this
theorem zgk:∀(l:List Str) (p:Str),risingS p l=true->(∀x∈l,leS p x=true)/\l.Pairwise (fun a b=>leS a b=true)
 | [],p,_=>⟨(fun x h=>by cases h),.nil⟩
 | q::r,p,h=>by
  have e:risingS p (q::r)=(!Spec.ltCps q.cps.toList p.cps.toList&&risingS q r):=rfl
  rw [e,Bool.and_eq_true,Bool.not_eq_true',ltCps_eq,decide_eq_false_iff_not,List.not_lt] at h
  obtain ⟨h1,h2⟩:=zgk r q h.2
  have pq:leS p q=true:=by unfold leS;rw [decide_eq_true_eq];exact h.1
  refine ⟨fun x hx=>?_,.cons h1 h2⟩
  rcases List.mem_cons.mp hx with rfl|hx
  ·exact pq
  ·exact za1 _ _ _ pq (h1 x hx)
theorem zm8 {l:List Str}(h:sortedS l=true):l.Pairwise (fun a b=>leS a b=true):=by
 cases l with
 | nil=>exact .nil
 | cons p r=>obtain ⟨h1,h2⟩:=zgk r p h;exact .cons h1 h2
theorem zgl {ks ss:List Str}(hp:ss.Perm ks) (hs:sortedS ss=true):ss=sortT ks :=
 List.Perm.eq_of_pairwise (le:=fun a b=>leS a b=true) (fun a b _ _ h h'=>zdf h h') (zm8 hs) (List.pairwise_mergeSort za1 zbS ks) (hp.trans (List.mergeSort_perm ks leS).symm)
section
variable {prog:Program}{w:World}{A:Around}{E:Value->Shared->Prop}{s:Shared}
theorem zgm {h:Heap} {a:Addr} {vs:List Value} {n:Nat} (ho:h.get? a=some (seqObj "list" vs.toArray n)) (out:Array Value):∃e,(sortedHeap h a vs out).get? a=some (seqObj "list" out e):=by
 have ha:=Heap.lt_size ho
 have h1:=get?_update_seq ho (fun _=>#[])
 have h2:(((h.update a (Obj.mapSeq fun _=>#[])).push (seqObj "tuple" vs.toArray 0)).push (seqObj "list" #[] 0)).get? a=some (seqObj "list" #[] (if ((#[]:Array Value).size==vs.toArray.size)=true then n else n+1)):=Heap.get?_push_of_some _ (Heap.get?_push_of_some _ h1)
 exact ⟨_,get?_update_seq h2 (fun _=>out)⟩
theorem zgn {h:Heap}{a:Addr}{vs:List Value}{out:Array Value}{b:Addr}{o:Obj}(hb:b≠a) (e:h.get? b=some o):(sortedHeap h a vs out).get? b=some o:=by
 unfold sortedHeap
 rw [Heap.get?_update_ne _ _ _ _ hb]
 refine Heap.get?_push_of_some _ (Heap.get?_push_of_some _ ?_)
 rw [Heap.get?_update_ne _ _ _ _ hb]
 exact e
theorem zm9 {K:Type} [DecidableEq K] {knd:KeyKind prog w K}{d:Addr}{kvs:List (K×Value)}{ep:Nat}{ss:List Str}{Q:Value->Shared->Prop}(hh:A.handled=none) (lo:(d==sysModules)=false) (hat:s.heap.DictAt knd d kvs ep) (h64:kvs.length<64)
  (hS:∀vs:List Value,vs.length=kvs.length->(∀(j:Nat) (v:Value),vs[j]?=some v->∃k x,kvs[j]?=some (k,x)/\knd.is k v=true)->StrsAre vs ss)
  (h:∀(h1 h2:Heap) (tk:Nat) (out:List Value) (e:Nat),(∀b o,s.heap.get? b=some o->h1.get? b=some o)->(∀b o,h1.get? b=some o->h2.get? b=some o)->h2.get? h1.objs.size=some (seqObj "list" out.toArray e)->StrsAre out (sortT ss)->Q (.ref h1.objs.size) { s with heap:=h2,toks:=tk }) :
  wpAny (model prog w) A (call (.builtin "sorted") [.ref d]) Q E s:=by
 refine Calls.call_function_entry kind_sorted plain_sorted entry_sorted (args_sorted1 _) ?_
 unfold Builtin.«sorted»
 refine wpAny_bind (m:=checkCount "sorted" 1 1 _) (wpAny_pure ?_)
 refine wpAny_bind (kdu_collect (A:=A.in1) (kdl_dict (knd:=knd) (kvs:=kvs) (ep:=ep) lo) hh hat (by rw [sizeLine_eq];omega) fun h' tk acc hk hacc=>?_)
 have hl:acc.toList.length=kvs.length:=by rw [Array.length_toList];exact hacc.1
 refine wpAny_bind (wpAny_newList ?_ (by rw [hl,sizeLine_eq];omega))
 have hS1:=hS acc.toList hl (fun j v e=>hacc.2 j v (by rw [<-Array.getElem?_toList];exact e))
 have hoL:(h'.push (seqObj "list" acc.toList.toArray 0)).get? h'.objs.size=some (seqObj "list" acc.toList.toArray 0):=Heap.get?_push_size _ rfl
 refine wpAny_bind (wpAny_holding (wpAny_call_entry (s:={ s with heap:=h'.push (seqObj "list" acc.toList.toArray 0),toks:=tk }) slot_list_sort ⟨_,hoL,rfl⟩ entry_list_sort (list_sort_treeK (s:={ s with heap:=h'.push (seqObj "list" acc.toList.toArray 0),toks:=tk }) strKind_oneLt hoL hS1.keysOf (fun aI aJ rest e=>keyKind_strs (by rw [<-e];exact hS1)) (by rw [hl];exact h64) fun st' a1 a2=>⟨_,rfl,?_⟩) (args_list_sort _)))
 obtain ⟨ss',q1,q2,q3⟩:=sorted_out_str hS1 a1 a2
 obtain ⟨e,he⟩:=zgm hoL ((arrOf st').map (·.2))
 rw [zgl q2 q3] at q1
 exact wpAny_pure ⟨_,rfl,h h' _ tk _ e hk (fun b o eb=>zgn (Nat.ne_of_lt (Heap.lt_size eb)) (Heap.get?_push_of_some _ eb)) he q1⟩
end
section
variable {X:Cx}{Er:XK}
theorem zdg:∀{out:List Value}{ss:List Str},StrsAre out ss->Vals (ss.map V.str) out
 | _,_,.nil=>.nil
 | _,_,.cons y t h=>.cons ⟨t,rfl⟩ (zdg h)
def zna:List V->Hp->VK->Prop:=fun xs H Q=>∃a ks ws,xs=[.ref a]/\H a=some (.dK (kz ks ws))/\ks.length=ws.length/\ks.length<64/\∀l,H l=none->Q (.ref l) (upd H l (.lst ((sortT ks).map V.str)))
theorem zgo {ks:List Str}{ws:List V}{kv:List (Key×Value)}(hl:ks.length=ws.length) (r:KV (kz ks ws) kv) {vs:List Value}(hlen:vs.length=kv.length) (h:∀(j:Nat) (v:Value),vs[j]?=some v->∃k x,kv[j]?=some (k,x)/\keyIs k v=true):StrsAre vs ks:=by
 induction ks generalizing ws kv vs with
 | nil =>
  cases ws with
  | nil =>
   cases r
   cases vs with
   | nil=>exact .nil
   | cons v vs=>simp at hlen
  | cons w ws=>simp at hl
 | cons k ks ih =>
  cases ws with
  | nil=>simp at hl
  | cons w ws =>
   obtain ⟨u,kv',rfl,h1,h2⟩:=zfX r
   cases vs with
   | nil=>simp at hlen
   | cons v vs =>
    obtain ⟨k',x,e,hk⟩:=h 0 v rfl
    cases e
    rcases jb hk with ⟨i,t,e1,_⟩|⟨y,t,e1,e2⟩
    ·cases e1
    ·cases e1
     subst e2
     exact .cons _ _ (ih (by simpa using hl) h2 (by simpa using hlen) fun j v hj=>h (j+1) v (by simpa using hj))
theorem znb (hc:X.calm=true):CallR X (.builtin "sorted") zna:=by
 intro pins s U H xs us Q I r h
 obtain ⟨a,ks,ws,rfl,ha,hl,h64,q⟩:=h
 obtain ⟨u,rfl,ru⟩:=r.one
 obtain rfl:u=Value.ref a:=ru
 obtain ⟨hz,lo,kv,kvr,hd⟩:=yL I.hok (.inl ha)
 obtain ⟨ep,hat⟩:=hd.dictAt
 have lk:kv.length=ks.length:=by rw [<-kvr.length];simp [kz,hl]
 refine zm9 (knd:=mixKind X.prog X.w) (I.ok.hd hc) lo hat (by omega) (fun vs hlen hv=>zgo hl kvr hlen hv) fun h1 h2 tk out e k1 k2 he hs=>?_
 have I1:Inv X pins U H { s with heap:=h1,toks:=tk }:=I.kept (t':=tk) k1
 have hn:H h1.objs.size=none:=I1.hok.fresh (Nat.le_refl _)
 have lv:((sortT ks).map V.str).length<=sizeLine:=by
  rw [List.length_map,sizeLine_eq]
  unfold sortT
  rw [List.length_mergeSort]
  omega
 exact ⟨.ref h1.objs.size,_,I1.laid (t':=tk) k2 (Nat.le_refl _) (show ObjOk X.prog X.w _ h2 _ (.lst ((sortT ks).map V.str)) from ⟨lv,out,e,zdg hs,he⟩),rfl,q _ hn⟩
def wV:List PV->Mo PV:=fun xs st=>match xs with
 | [.ref n]=>yp st n fun ks _=>if ks.length<64 then .ok (.ref st.length) (st++[.lst ((sortT ks).map PV.str)]) else .stuck
 | _=>.stuck
theorem zdh:bootBuiltins "sorted" = some (.builtin "sorted"):=by decide +kernel
end
section
variable {prog:Program}{w:World}{A:Around}{E:Value->Shared->Prop}{s:Shared}
theorem StrsAre.rev {vs:List Value}{ss:List Str}(h:StrsAre vs ss):StrsAre vs.reverse ss.reverse:=by
 have q:=strsAre_map vs.reverse fun v hv=>h.all v (List.mem_reverse.mp hv)
 rw [List.map_reverse,h.strs] at q
 exact q
theorem znc {a:Addr} {vs:List Value} {ss:List Str} {n:Nat} {P:Fin->Shared->Prop} (ho:s.heap.get? a=some (seqObj "list" vs.toArray n)) (hS:StrsAre vs ss) (h64:vs.length<64)
  (h:∀out:Array Value,StrsAre out.toList (sortT ss).reverse->P (.done (.ret .none)) { s with heap:=sortedHeap s.heap a vs out }):wpAny (model prog w) A (Builtin.«list.sort» ⟨[.ref a],[(Str.ofString "reverse", .bool true)]⟩) P E s:=by
 have lt:=Heap.lt_size ho
 obtain ⟨e1,o1⟩:∃e1,(s.heap.update a (Obj.mapSeq fun _=>#[])).get? a=some (seqObj "list" #[] e1):=⟨_,get?_update_seq ho (fun _=>#[])⟩
 have o6:(((s.heap.update a (Obj.mapSeq fun _=>#[])).push (seqObj "tuple" vs.toArray 0)).push (seqObj "list" #[] 0)).get? a=some (seqObj "list" #[] e1):=Heap.get?_push_of_some _ (Heap.get?_push_of_some _ o1)
 have hz:(pairsOf vs).size=vs.length:=pairsOf_size _
 have done:∀st':SortSt,(arrOf st').Perm (pairsOf vs)->SortedToK strKind (arrOf st') (pairsOf vs).size->P (.done (.ret .none)) { s with heap:=sortedHeap s.heap a vs ((arrOf st').map (·.2)).reverse }:=fun st' q1 q2=>by
  obtain ⟨ss',r1,r2,r3⟩:=sorted_out_str hS q1 q2
  rw [zgl r2 r3] at r1
  exact h _ (by rw [Array.toList_reverse];exact StrsAre.rev r1)
 have begin_:(vs.toArray.zip vs.toArray).reverse.Perm (pairsOf vs):=Array.perm_iff_toList_perm.mpr (by rw [Array.toList_reverse];exact List.reverse_perm _)
 have small:∀xs:Array Keyed,xs.Perm (pairsOf vs)->((xs.map (·.2)).reverse).size<=sizeLine+1:=fun xs q=>by
  rw [Array.size_reverse,Array.size_map,q.size_eq,hz,sizeLine_eq];omega
 rw [list_sort_rev]
 refine wpAny_bind (listItems_at ho rfl (wpAny_bind (listUpdate_at ho rfl (wpAny_bind (seqEpoch_at o1 rfl (wpAny_bind (wpAny_newTuple (wpAny_bind (wpAny_newList (wpAny_holding ?_))))))))))
 show wpAny (model prog w) A _ P E { s with heap:=((s.heap.update a (Obj.mapSeq fun _=>#[])).push (seqObj "tuple" vs.toArray 0)).push (seqObj "list" #[] 0) }
 dsimp only
 simp only [if_true]
 refine wpAny_bind (wpAny_rule ?_)
 by_cases h2:vs.toArray.size<2
 ·rw [if_pos h2,if_pos h2]
  refine wpAny_bind (wpAny_pure ?_)
  rw [StateT.run_pure]
  refine wpAny_bind (wpAny_pure ?_)
  dsimp only
  refine wpAny_bind (seqEpoch_at o6 rfl (wpAny_bind (listUpdate_at o6 rfl ?_ (hsz2:=small _ begin_))))
  simp only [bne_self_eq_false,Bool.false_eq_true,if_false]
  refine wpAny_pure (done (SortSt.mk' general' (vs.toArray.zip vs.toArray).reverse #[] 7 none) begin_ fun i j hij hj=>?_)
  have hv:vs.toArray.size=vs.length:=by simp
  have eij:i=j:=by omega
  subst eij
  exact KeyOrd.kle_refl _
 ·rw [if_neg h2,if_neg h2]
  match vs,hS,h64,ho,h2,o6,hz,done,begin_,small with
  | [],_,_,_,h2,_,_,_,_,_=>exact absurd (by simp) h2
  | [_],_,_,_,h2,_,_,_,_,_=>exact absurd (by simp) h2
  | v1::v2::r,hS,h64,ho,h2,o6,hz,done,begin_,small =>
   rw [keyKind_strs hS]
   refine wpAny_bind (wpAny_pure (wpAny_bind (wpAny_mono (wpS_sortRunsK (κ:=strKind) strKind_oneLt (a₀:=pairsOf (v1::v2::r)) (st:=SortSt.mk' oneType' ((v1::v2::r).toArray.zip (v1::v2::r).toArray).reverse #[] 7 none)
    (Q:=fun _ st'=>(arrOf st').Perm (pairsOf (v1::v2::r))/\failedOf st'=none/\SortedToK strKind (arrOf st') (pairsOf (v1::v2::r)).size) hS.keysOf ⟨begin_,rfl,rfl,rfl⟩ (by rw [hz];simp) (by rw [hz];exact h64) fun st' b1 b2 b3=>⟨b1,b2,b3⟩) ?_ fun _ _ z=>z)))
   rintro ⟨⟨⟩,st'⟩ s' ⟨rfl,hp,hf,hs⟩
   dsimp only
   refine wpAny_bind (seqEpoch_at o6 rfl (wpAny_bind (listUpdate_at o6 rfl ?_ (hsz2:=small _ hp))))
   rw [hf]
   simp only [bne_self_eq_false,Bool.false_eq_true,if_false]
   exact wpAny_pure (done st' hp hs)
end
section
variable {prog:Program}{w:World}{A:Around}{E:Value->Shared->Prop}{s:Shared}
theorem znd {K:Type} [DecidableEq K] {knd:KeyKind prog w K}{d:Addr}{kvs:List (K×Value)}{ep:Nat}{ss:List Str}{Q:Value->Shared->Prop}(hh:A.handled=none) (lo:(d==sysModules)=false) (hat:s.heap.DictAt knd d kvs ep) (h64:kvs.length<64)
  (hS:∀vs:List Value,vs.length=kvs.length->(∀(j:Nat) (v:Value),vs[j]?=some v->∃k x,kvs[j]?=some (k,x)/\knd.is k v=true)->StrsAre vs ss)
  (h:∀(h1 h2:Heap) (tk:Nat) (out:List Value) (e:Nat),(∀b o,s.heap.get? b=some o->h1.get? b=some o)->(∀b o,h1.get? b=some o->h2.get? b=some o)->h2.get? h1.objs.size=some (seqObj "list" out.toArray e)->StrsAre out (sortT ss).reverse->Q (.ref h1.objs.size) { s with heap:=h2,toks:=tk }) :
  wpAny (model prog w) A (call (.builtin "sorted") [.ref d] [(Str.ofString "reverse", .bool true)]) Q E s:=by
 refine call_function_entry_kw kind_sorted plain_sorted entry_sorted (args_sorted_rev _ _) ?_
 unfold Builtin.«sorted»
 refine wpAny_bind (m:=checkCount "sorted" 1 1 _) (wpAny_pure ?_)
 refine wpAny_bind (kdu_collect (A:=A.in1) (kdl_dict (knd:=knd) (kvs:=kvs) (ep:=ep) lo) hh hat (by rw [sizeLine_eq];omega) fun h' tk acc hk hacc=>?_)
 have hl:acc.toList.length=kvs.length:=by rw [Array.length_toList];exact hacc.1
 refine wpAny_bind (wpAny_newList ?_ (by rw [hl,sizeLine_eq];omega))
 have hS1:=hS acc.toList hl (fun j v e=>hacc.2 j v (by rw [<-Array.getElem?_toList];exact e))
 have hoL:(h'.push (seqObj "list" acc.toList.toArray 0)).get? h'.objs.size=some (seqObj "list" acc.toList.toArray 0):=Heap.get?_push_size _ rfl
 refine wpAny_bind (wpAny_holding (wpAny_call_entry_kw (s:={ s with heap:=h'.push (seqObj "list" acc.toList.toArray 0),toks:=tk }) slot_list_sort ⟨_,hoL,rfl⟩ entry_list_sort (znc (s:={ s with heap:=h'.push (seqObj "list" acc.toList.toArray 0),toks:=tk }) hoL hS1 (by rw [hl];exact h64) fun out q1=>⟨_,rfl,?_⟩) (args_list_sort_rev _ _)))
 obtain ⟨e,he⟩:=zgm hoL out
 exact wpAny_pure ⟨_,rfl,h h' _ tk out.toList e hk (fun b o eb=>zgn (Nat.ne_of_lt (Heap.lt_size eb)) (Heap.get?_push_of_some _ eb)) he q1⟩
end
section
variable {X:Cx}{Er:XK}{o:Expr}{fo:zc->Mo PV}{p pos kp cp:Pos}{j:Nat}
def zne (to:TE):TE:=fun U H Q=>to U H fun x H1=>∃a ks ws,x=.ref a/\H1 a=some (.dK (kz ks ws))/\ks.length=ws.length/\ks.length<64/\∀l,H1 l=none->Q (.ref l) (upd H1 l (.lst ((sortT ks).reverse.map V.str)))
theorem znf {to:TE} (hc:X.calm=true) (hg:Gl X "sorted") (hm:X.mg "sorted" = none) (ho:PE X o to) (hs:starEach [o] X.env=(false,eval o X.env)::starEach [] X.env):PE X (.Call (.Name "sorted" p) [o] [⟨some "reverse", .Constant (.bool true) j cp,kp⟩] pos) (zne to):=by
 intro pins s U H Q I h
 have e1:backTo pos (starEach [o] X.env)=(false,eval o X.env)::backTo pos (starEach [] X.env):=by rw [hs];rfl
 refine wpAny_Call_ofName (wZ I hg hm zdh (callWith_kw ?_ e1 (by rw [e1];rfl)))
 rw [e1]
 refine Calls.spliced_cons (thn (ho pins s U H _ I h) fun v s1 ⟨x,H1,I1,r1,a,ks,ws,ex,ha,hl,h64,q⟩=>Calls.spliced_nil (kws_cons ?_))
 subst ex
 obtain rfl:v=Value.ref a:=r1
 refine wpAny_pure (kws_nil ?_)
 show wpAny (model X.prog X.w) X.A (call (.builtin "sorted") [.ref a] [(Str.ofString "reverse", .bool true)]) _ _ s1
 obtain ⟨hz,lo,kv,kvr,hd⟩:=yL I1.hok (.inl ha)
 obtain ⟨ep,hat⟩:=hd.dictAt
 have lk:kv.length=ks.length:=by rw [<-kvr.length];simp [kz,hl]
 refine znd (knd:=mixKind X.prog X.w) (I1.ok.hd hc) lo hat (by omega) (fun vs hlen hv=>zgo hl kvr hlen hv) fun h1 h2 tk out e k1 k2 he hs=>?_
 have I2:Inv X pins U H1 { s1 with heap:=h1,toks:=tk }:=I1.kept (t':=tk) k1
 have hn:H1 h1.objs.size=none:=I2.hok.fresh (Nat.le_refl _)
 have lv:((sortT ks).reverse.map V.str).length<=sizeLine:=by
  rw [List.length_map,List.length_reverse,sizeLine_eq]
  unfold sortT
  rw [List.length_mergeSort]
  omega
 exact ⟨.ref h1.objs.size,_,I2.laid (t':=tk) k2 (Nat.le_refl _) (show ObjOk X.prog X.w _ h2 _ (.lst ((sortT ks).reverse.map V.str)) from ⟨lv,out,e,zdg hs,he⟩),rfl,q _ hn⟩
def zbT:PV->Mo PV
 | .ref n,st=>yp st n fun ks _=>if ks.length<64 then .ok (.ref st.length) (st++[.lst ((sortT ks).reverse.map PV.str)]) else .stuck
 | _,_=>.stuck
theorem zdi {K:Frag}{mg:Str->Option Value}{ρ:List Addr}{H:Hp}:∀zs:List Str,Rs K mg ρ H (zs.map PV.str) (zs.map V.str)
 | []=>rfl
 | z::zs=>⟨_,_,rfl,rfl,zdi zs⟩
theorem zng (hc:X.calm=true) (hm:X.mg "sorted" = none) (ho:ME X Er o fo) (hg:Gl X "sorted" := by rfl) (hs:starEach [o] X.env=(false,eval o X.env)::starEach [] X.env:=by rfl):ME X Er (.Call (.Name "sorted" p) [o] [⟨some "reverse", .Constant (.bool true) j cp,kp⟩] pos) (yg zbT fo) :=
 PE.weak (znf hc hg hm ho hs) fun U H Q ⟨env,st,ρ,re,rs,h⟩=>⟨env,st,ρ,re,rs,h.then fun af H1 x st1 e1 s1 h1 v rv=>by
  cases x with
  | ref n =>
   obtain ⟨ks,xs,hn,h1⟩:=zaH h1
   obtain ⟨a,vs,rfl,ha,k1,k2,k3⟩:=R.refD s1 rv hn
   obtain ⟨c,h1⟩:=Out.ifp h1
   refine ⟨a,ks,vs,rfl,k1,k3,c,fun l hl=>?_⟩
   have ep:Ext af H1 (af++[l]) (upd H1 l (.lst ((sortT ks).reverse.map V.str))):=Ext.push hl
   exact h1 _ _ ep (s1.push hl ⟨_,yn,zdi _⟩) _ ⟨l,rfl,by rw [<-s1.len];simp⟩
  | _=>exact False.elim h1⟩
theorem zgp (hc:X.calm=true):BltOk X (.builtin "sorted") wV:=⟨_,znb hc,fun ρ H st xs vs Q E s r h=>by
 unfold wV at h
 match xs,h with
 | [.ref n],h =>
  obtain ⟨ks,xs,hn,h⟩:=zaH h
  obtain ⟨v,rfl,rv⟩:=r.one
  obtain ⟨a,ws,rfl,ha,k1,k2,k3⟩:=R.refD s rv hn
  obtain ⟨c,h⟩:=Out.ifp h
  refine ⟨a,ks,ws,rfl,k1,k3,c,fun l hl=>?_⟩
  have ep:Ext ρ H (ρ++[l]) (upd H l (.lst ((sortT ks).map V.str))):=Ext.push hl
  exact h _ _ ep (s.push hl ⟨_,yn,zdi _⟩) _ ⟨l,rfl,by rw [<-s.len];simp⟩⟩
end
section
variable {X:Cx}{Er:XK}
def gtAt (ks:List Str) (i j:Nat):Bool:=decide ((ks[j]?.getD "").cps.toList<(ks[i]?.getD "").cps.toList)
def znh:List V->Hp->VK->Prop:=fun xs H Q=>∃a ks ws z,xs=[.ref a]/\H a=some (.dK (kz ks ws))/\ks.length=ws.length/\ks[argBest (gtAt ks) (ks.length-1)]?=some z/\Q (.str z) H
theorem zdj {ks:List Str} {ws:List V} {kv:List (Key×Value)} (hl:ks.length=ws.length) (r:KV (kz ks ws) kv):∀{i:Nat} {v:Value},(∃k x,kv[i]?=some (k,x)/\keyIs k v=true)->∃t,ks[i]?=some (ks[i]?.getD "")/\v=.str (ks[i]?.getD "") t:=by
 intro i v ⟨k,x,e,hk⟩
 have hkeys:=r.keys
 have e2:=congrArg (fun l:List Key=>l[i]?) hkeys
 simp only [List.getElem?_map,e,Option.map_some] at e2
 have hz:(kz ks ws).map (·.1)=ks.map Sum.inr:=by
  unfold kz
  rw [List.map_fst_zip (by simp;omega)]
 have e3:((kz ks ws).map (·.1))[i]?=some k:=by rw [List.getElem?_map];exact e2
 rw [hz,List.getElem?_map] at e3
 cases hki:ks[i]? with
 | none=>rw [hki] at e3;cases e3
 | some y =>
  rw [hki] at e3
  cases e3
  rcases jb hk with ⟨_,_,e1,_⟩|⟨y',t,e1,e2⟩
  ·cases e1
  ·cases e1
   exact ⟨t,rfl,e2⟩
theorem zni (hc:X.calm=true):CallR X (.builtin "max") znh:=by
 intro pins s U H xs us Q I r h
 obtain ⟨a,ks,ws,z,rfl,ha,hl,hz,q⟩:=h
 obtain ⟨u,rfl,ru⟩:=r.one
 obtain rfl:u=Value.ref a:=ru
 obtain ⟨hsz,lo,kv,kvr,hd⟩:=yL I.hok (.inl ha)
 obtain ⟨ep,hat⟩:=hd.dictAt
 have lk:kv.length=ks.length:=by rw [<-kvr.length];simp [kz,hl]
 have pos:0<kv.length:=by
  rw [lk]
  rcases Nat.eq_zero_or_pos ks.length with e|e
  ·rw [List.length_eq_zero_iff.mp e] at hz;simp at hz
  ·exact e
 have hlt:a<s.heap.objs.size:=hat.lt_size
 refine call_max_walk (wpAny_pyIter_dict lo hat ?_)
 refine ⟨s.heap.objs.size,[s.heap.objs.size,a],[s.heap.objs.size],kv.length,_,_,gtAt ks,rfl,Walks.dictKeys (knd:=mixKind X.prog X.w) (A:=X.A.in1) (I.ok.hd hc) s.heap.objs.size a (Nat.ne_of_lt hlt) kv ep,⟨⟨_,Heap.get?_push_size _ rfl,rfl,rfl⟩,hat.push _⟩,fun b hb=>?_,pos,fun i j vi vj s' Q' E' hi hj hq=>?_,fun v h' tk hP hk=>?_⟩
 ·show b<(s.heap.push _).objs.size
  rw [Heap.size_push]
  rcases List.mem_cons.mp hb with rfl|hb
  ·exact Nat.lt_succ_self _
  ·rw [List.mem_singleton.mp hb];exact Nat.lt_succ_of_lt hlt
 ·obtain ⟨t,e1,rfl⟩:=zdj hl kvr hi
  obtain ⟨t',e2,rfl⟩:=zdj hl kvr hj
  exact richCompare_gives (op:=.Gt) (typeIs_str s' _ t) (typeIs_str s' _ t') F.slot_str_gt F.entry_str_gt (F.args_str_gt_2 _ _) (gives_str_gt _ _ t t') (by simp [Made.takes]) hq
 ·obtain ⟨t,e1,rfl⟩:=zdj hl kvr hP
  rw [lk] at e1
  rw [hz] at e1
  have I1:Inv X pins U H { s with heap:=h',toks:=tk }:=I.kept (t':=tk) fun b o e=>hk b o (fun hm=>absurd (Heap.lt_size e) (by rw [List.mem_singleton.mp hm];exact Nat.lt_irrefl _)) (Heap.get?_push_of_some _ e)
  refine ⟨.str z,H,I1,?_,q⟩
  rw [lk,hz]
  exact ⟨t,rfl⟩
def za2:List PV->Mo PV:=fun xs st=>match xs with
 | [.ref n]=>yp st n fun ks _=>match ks[argBest (gtAt ks) (ks.length-1)]? with
  | some z=>.ok (.str z) st
  | none=>.stuck
 | _=>.stuck
theorem znj (hc:X.calm=true):BltOk X (.builtin "max") za2:=⟨_,zni hc,fun ρ H st xs vs Q E s r h=>by
 unfold za2 at h
 match xs,h with
 | [.ref n],h =>
  obtain ⟨ks,xs,hn,h⟩:=zaH h
  obtain ⟨v,rfl,rv⟩:=r.one
  obtain ⟨a,ws,rfl,ha,k1,k2,k3⟩:=R.refD s rv hn
  cases hz:ks[argBest (gtAt ks) (ks.length-1)]? with
  | none=>simp only [hz] at h;exact False.elim h
  | some z =>
   simp only [hz] at h
   exact ⟨a,ks,ws,z,rfl,k1,k3,hz,Out.now (x:=PV.str z) h s _ rfl⟩⟩
def zdk:PV->PV->Mo PV
 | .str a,.str b,st=>.ok (.bl (!decide (b.cps.toList<a.cps.toList))) st
 | _,_,_=>.stuck
def znk:R2:=fun v w H Q=>∃a b,v=.str a/\w=.str b/\Q (.bl (!decide (b.cps.toList<a.cps.toList))) H
theorem znl:OpR X (compareOp .LtE) znk:=by
 intro pins s U H x y v u Q I rx ry h
 obtain ⟨a,b,rfl,rfl,q⟩:=h
 obtain ⟨t,rfl⟩:=rx
 obtain ⟨t',rfl⟩:=ry
 exact P.le_str ⟨.bl _,H,I,rfl,q⟩
theorem znm:CmpOk X .LtE zdk:=⟨_,znl,fun ρ H st x y v w Q E s rx ry h=>by
 cases x with
 | str a =>
  cases y with
  | str b =>
   cases rx
   cases ry
   exact ⟨a,b,rfl,rfl,h.now s _ rfl⟩
  | _=>exact False.elim h
 | _=>exact False.elim h⟩
theorem zgq:BltOk X (.type "int") zan:=⟨_,zka,fun ρ H st xs vs Q E s r h=>by
 unfold zan at h
 match xs,h with
 | [.str z],h =>
  obtain ⟨v,rfl,rv⟩:=r.one
  cases rv
  cases hn:PySem.intText? z with
  | none=>simp only [hn] at h;exact False.elim h
  | some n =>
   simp only [hn] at h
   obtain ⟨c,h⟩:=Out.ifp h
   exact ⟨z,n,rfl,hn,c,Out.now (x:=PV.int n) h s _ rfl⟩⟩
end
end Mi
namespace Mi
open PySem L2 PySem.W PySem.Spec
def yT (C:Str) (m:List PV->Mo PV) (c:Str):Option (List PV->Mo PV):=if c=C then some m else none
theorem wt {P:Program}{w:World}{K:Frag}{mg:Str->Option Value}{base:Heap}{C n:Str}{k:Nat}{m m':List PV->Mo PV}{c:Str}(ok:MOk P w K mg base C n k m) (h:yT C m c=some m'):MOk P w K mg base c n k m':=by
 unfold yT at h
 by_cases e:c=C
 ·rw [if_pos e] at h;cases h;rw [e];exact ok
 ·rw [if_neg e] at h;cases h
theorem zao {C:Str}{m:List PV->Mo PV}:yT C m C=some m:=if_pos rfl
end Mi
namespace FK21
open PySem L2 PySem.W Mi
def top (i:Nat):Stmt:=PySem.Challenge.pw_foreknown_k21_values_both_ways.main.body.getD i (.Pass ⟨0,0,0,0⟩)
abbrev zbU:Stmt:=top 17
abbrev zdl:Stmt:=top 18
abbrev zbV:Stmt:=top 20
abbrev zdm:Stmt:=top 19
abbrev zbW:Stmt:=top 21
abbrev za3:Stmt:=top 22
abbrev zbX:Stmt:=top 25
abbrev za4:Stmt:=top 23
abbrev za5:Stmt:=top 24
abbrev zdn:Stmt:=top 5
abbrev za6:Stmt:=top 7
abbrev zdo:Stmt:=inClass (top 14) 0
abbrev zdp:Stmt:=inClass (top 14) 1
abbrev zdq:Stmt:=inClass (top 14) 3
abbrev zdr:Stmt:=inClass (top 14) 4
abbrev zbY:Stmt:=top 4
abbrev zds:Stmt:=inClass (top 14) 6
abbrev zdt:Stmt:=inClass (top 14) 2
abbrev zdu:Stmt:=inClass (top 14) 8
abbrev zdv:Stmt:=inClass (top 14) 10
abbrev zdw:Stmt:=inClass (top 14) 9
abbrev zdx:Stmt:=inClass (top 14) 7
abbrev zdy:Stmt:=inClass (top 14) 5
abbrev zdz:Stmt:=top 15
abbrev zbZ:Stmt:=top 26
def insOf (c:Str):Bool:=decide (c = "ValueReader")
def excOf (c:Str):Bool:=false
def isT:IsT where
 isx c:=false
 sub c B :=  none
 subT c n :=  none
 tyC _ _:=none
structure Txt (w:World) (K:Frag) (mg:Str->Option Value):Prop where
 f__law_deck:FnF K mg "_law_deck" zbU ["_law_script"]
 f__law_next:FnF K mg "_law_next" zdl ["_law_deck_here", "_law_many"]
 f__law_word:FnF K mg "_law_word" zbV ["_law_deck_here"]
 f__law_number:FnF K mg "_law_number" zdm ["_law_deck_here"]
 f__law_value:FnF K mg "_law_value" zbW ["_law_deck_here", "_law_deep"]
 f__law_large:FnF K mg "_law_large" za3 ["_law_deck_here"]
 f__law_turned:FnF K mg "_law_turned" zbX ["_law_value_here"]
 f__law_text:FnF K mg "_law_text" za4 ["_law_value_here"]
 f__law_alike:FnF K mg "_law_alike" za5 ["_law_found", "_law_due"]
 f_kind_of:FnF K mg "kind_of" zdn ["value"]
 f_show_value:FnF K mg "show_value" za6 ["value"]
 n_ValueReader:NwF K mg "ValueReader" "ValueReader.__init__" zdo ["self", "text"]
 m_ValueReader_sign_here:MtF K mg "ValueReader" "sign_here" "ValueReader.sign_here" zdp ["self"]
 m_ValueReader_passes:MtF K mg "ValueReader" "passes" "ValueReader.passes" zdq ["self", "sign"]
 m_ValueReader_run_of:MtF K mg "ValueReader" "run_of" "ValueReader.run_of" zdr ["self", "signs"]
 f_is_word:FnF K mg "is_word" zbY ["thing"]
 m_ValueReader_read_word:MtF K mg "ValueReader" "read_word" "ValueReader.read_word" zds ["self"]
 m_ValueReader_pass_sign:MtF K mg "ValueReader" "pass_sign" "ValueReader.pass_sign" zdt ["self", "sign"]
 m_ValueReader_read_row:MtF K mg "ValueReader" "read_row" "ValueReader.read_row" zdu ["self"]
 m_ValueReader_read_entry:MtF K mg "ValueReader" "read_entry" "ValueReader.read_entry" zdv ["self", "record", "last"]
 m_ValueReader_read_record:MtF K mg "ValueReader" "read_record" "ValueReader.read_record" zdw ["self"]
 m_ValueReader_read_number:MtF K mg "ValueReader" "read_number" "ValueReader.read_number" zdx ["self"]
 m_ValueReader_read_part:MtF K mg "ValueReader" "read_part" "ValueReader.read_part" zdy ["self"]
 f_read_value:FnF K mg "read_value" zdz ["text"]
 f_law:FnF K mg "law" zbZ ["_law_script"]
 b_all:mg "all" = none
 b_bool:mg "bool" = none
 b_dict:mg "dict" = none
 b_int:mg "int" = none
 b_isinstance:mg "isinstance" = none
 b_len:mg "len" = none
 b_max:mg "max" = none
 b_range:mg "range" = none
 b_sorted:mg "sorted" = none
 b_str:mg "str" = none
 b_tuple:mg "tuple" = none
 b_zip:mg "zip" = none
 c_FIGURES:∃t,mg "FIGURES" = some (.str "0123456789" t)
 c_LETTERS:∃t,mg "LETTERS" = some (.str "abcdefghijklmnopqrstuvwxyz" t)
 c_MOST_FIGURES:∃t,mg "MOST_FIGURES" = some (.int 18 t)
 c_MOST_PARTS:∃t,mg "MOST_PARTS" = some (.int 60 t)
 c_MOST_SIGNS:∃t,mg "MOST_SIGNS" = some (.int 8 t)
 d_begun:FldF K mg "begun" insOf excOf
 d_place:FldF K mg "place" insOf excOf
 d_text:FldF K mg "text" insOf excOf
 is:IsF K mg isT
section
variable {P:Program}{w:World}{K:Frag}{mg:Str->Option Value}{base:Heap}
theorem wW:FnScope ["_law_script", "_law_cells", "_law_deck_here", "_law_k", "_law_cell", "_law_first"] ["_law_script"] (zB zbU):=⟨rfl,rfl,rfl,by decide +kernel,rfl,by decide +kernel,by decide +kernel⟩
def znn:zc->Mo Fl :=
  (zE (zd 2))
def zno:zc->Mo Fl :=
  zq (jy (iRng1 (zf (mC (.int 180)) zj)) (gN 3)
  (zq (zH 4 (mC (.int 1)))
  (zq (zK (mB (zh jw (zm yc (zf (zd 1) zj)) (mC (.int 0))))
  (zH 4 (zh zJ (zd 1) (zh yj (zd 3) (zm yc (zf (zd 1) zj)))))
  zL)
  (zq (zH 5 (zh ym (zh yj (zd 4) (mC (.int 2147483629))) (zh zR (zh ym (mC (.int 2)) (zd 3)) (mC (.int 1)))))
  (yY (jJ wR (zd 2) (zh yj (zh zR (zh zR (zd 5) (zh wb (zd 4) (mC (.int 65537)))) (zh ym (zh ym (mC (.int 7919)) (zd 3)) (zd 3))) (mC (.int 2147483647))))))))) (znn)
def znp:zc->Mo Fl :=
  zq (zH 2 (jZ zj)) (zno)
def znq:zc->Mo Fl :=
  zq (zH 1 (yt (yM (wK (zd 0) pNone (pSome (mC (.int 180))))) (zh yj (zd 0) (mC (.int 2305843009213693951))))) (znp)
def zdA:List PV->Mo PV:=zU 1 6 (znq)
theorem znr (T:Txt w K mg):FOk P w K mg base "_law_deck" 1 zdA:=T.f__law_deck.ok (k:=0) wW fun f cdv A outer s H E hr =>
  by
 refine zv ?_ ?_
 refine zf7 1 (M:=["_law_script", "_law_cells", "_law_deck_here", "_law_k", "~_law_cell", "_law_first"]) rfl (by exact ⟨rfl,by decide +kernel,by decide +kernel,rfl,by show ∀y:Str×NameKind,y∈_->y.2=NameKind.free->List.lookup y.1 (zB zbU).names=some NameKind.cell;decide +kernel⟩) (by exact ⟨rfl,by show ∀p∈List.zip (["_law_script", "_law_cells", "_law_deck_here", "_law_k", "~_law_cell", "_law_first"]:List Str) (["_law_script", "_law_cells", "_law_deck_here", "_law_k", "_law_cell", "_law_first"]:List Str),p.1=p.2\/p.1∉(_:List Str);decide +kernel⟩) (by decide +kernel) ?_ ?_ wW.nd rfl (by first|exact Or.inl rfl|exact Or.inr rfl) (by first|exact .inl rfl|exact .inr rfl|assumption) (by rfl)
 refine wg ?_
 refine zcT ?_ ?_ ?_
 exact (zg 0)
 exact zla
 refine zaK ?_
 exact zu
 intro _ _ _ _ _
 refine zC jv ?_ ?_
 exact (zg 0)
 exact zu
 refine zv ?_ ?_
 refine zV 2 ?_ ?_
 refine w9 ?_
 exact zn
 exact wW.nd
 refine zv ?_ ?_
 refine wO (jF rfl rfl) rfl ?_ ?_ ?_
 refine jI T.b_range ?_
 refine zk ?_ ?_
 exact zu
 exact zn
 exact (wN 3 wW.nd)
 refine zv ?_ ?_
 refine zV 4 ?_ ?_
 exact zu
 exact wW.nd
 refine zv ?_ ?_
 refine zT ?_ ?_ ?_
 refine yb zaJ ?_ ?_
 refine zY jg T.b_len je ?_
 refine zk ?_ ?_
 exact (zg 1)
 exact zn
 exact zu
 refine zx ?_
 refine zV 4 ?_ ?_
 refine yo ?_ ?_ ?_ ?_
 exact (yr (zM hr))
 exact (zg 1)
 refine zC jv ?_ ?_
 exact (zg 3)
 refine zY jg T.b_len je ?_
 refine zk ?_ ?_
 exact (zg 1)
 exact zn
 exact fun _ _=>rfl
 exact wW.nd
 exact zS
 refine zv ?_ ?_
 refine zV 5 ?_ ?_
 refine zC jz ?_ ?_
 refine zC jv ?_ ?_
 exact (zg 4)
 exact zu
 refine zC yk ?_ ?_
 refine zC jz ?_ ?_
 exact zu
 exact (zg 3)
 exact zu
 exact wW.nd
 refine zx ?_
 refine wM ?_
 refine zfp ?_ ?_
 exact (zg 2)
 refine zC jv ?_ ?_
 refine zC yk ?_ ?_
 refine zC yk ?_ ?_
 exact (zg 5)
 refine zC zcM ?_ ?_
 exact (zg 4)
 exact zu
 refine zC jz ?_ ?_
 refine zC jz ?_ ?_
 exact zu
 exact (zg 3)
 exact (zg 3)
 exact zu
 refine zx ?_
 refine zI ?_
 exact (zg 2)
theorem zns:FnScope ["_law_deck_here", "_law_many"] ["_law_deck_here", "_law_many"] (zB zdl):=⟨rfl,rfl,rfl,by decide +kernel,rfl,by decide +kernel,by decide +kernel⟩
def znt:zc->Mo Fl :=
  (zE (zh yj (jJ zgj (zd 0) (mC (.int 0))) (zd 1)))
def znu:zc->Mo Fl :=
  zq (zK (mB (zh yq (zm yc (zf (zd 0) zj)) (mC (.int 0))))
  (zE (mC (.int 0)))
  zL) (znt)
def yF:List PV->Mo PV:=zU 2 2 (znu)
theorem y4 (T:Txt w K mg):FOk P w K mg base "_law_next" 1 yF:=T.f__law_next.ok (k:=0) zns fun f cdv A outer s H E hr =>
  by
 refine zv ?_ ?_
 refine zT ?_ ?_ ?_
 refine yb (yJ (zM hr)) ?_ ?_
 refine zY jg T.b_len je ?_
 refine zk ?_ ?_
 exact (zg 0)
 exact zn
 exact zu
 refine zx ?_
 refine zI ?_
 exact zu
 exact zS
 refine zx ?_
 refine zI ?_
 refine zC jv ?_ ?_
 refine zm7 ?_ ?_
 exact (zg 0)
 exact zu
 exact (zg 1)
theorem zb0:FnScope ["_law_deck_here", "_law_letters", "_law_size", "_law_cell"] ["_law_deck_here"] (zB zbV):=⟨rfl,rfl,rfl,by decide +kernel,rfl,by decide +kernel,by decide +kernel⟩
def znv:zc->Mo Fl :=
  (zE (jR (mC (.str "")) (yt (iRng1 (zf (zd 2) zj)) (zh zJ (zd 2) (zh yj (zh zR (zh wb (zd 4) (zh zR (mC (.int 1)) (zh ym (zh ym (zd 0) (zd 0)) (zd 0)))) (zh ym (zd 0) (zd 3))) (mC (.int 26)))))))
def znw:zc->Mo Fl :=
  zq (zH 3 (zm yF (zf (zd 0) (zf (mC (.int 1000000007)) zj)))) (znv)
def znx:zc->Mo Fl :=
  zq (zH 2 (zh zR (mC (.int 1)) (zm yF (zf (zd 0) (zf (mC (.int 8)) zj))))) (znw)
def zny:zc->Mo Fl :=
  zq (zH 1 (mC (.str "abcdefghijklmnopqrstuvwxyz"))) (znx)
def zap:List PV->Mo PV:=zU 1 4 (zny)
theorem zdB (T:Txt w K mg):FOk P w K mg base "_law_word" 2 zap:=T.f__law_word.ok (k:=1) zb0 fun f cdv A outer s H E hr =>
  by
 refine zv ?_ ?_
 refine zV 1 ?_ ?_
 exact zW
 exact zb0.nd
 refine zv ?_ ?_
 refine zV 2 ?_ ?_
 refine zC yk ?_ ?_
 exact zu
 refine zN (y4 T) (hr.mono (by decide)) zA ?_
 refine zk ?_ ?_
 exact (zg 0)
 refine zk ?_ ?_
 exact zu
 exact zn
 exact zb0.nd
 refine zv ?_ ?_
 refine zV 3 ?_ ?_
 refine zN (y4 T) (hr.mono (by decide)) zA ?_
 refine zk ?_ ?_
 exact (zg 0)
 refine zk ?_ ?_
 exact zu
 exact zn
 exact zb0.nd
 refine zx ?_
 refine zI ?_
 refine za0 ?_ ?_
 exact zW
 refine zad (N:=["_law_deck_here", "_law_letters", "_law_size", "_law_cell"]) rfl (by exact ⟨rfl,by decide +kernel,by decide +kernel,rfl,by show ∀y:Str×NameKind,y∈_->y.2=NameKind.free->List.lookup y.1 (zB zbV).names=some NameKind.cell;decide +kernel⟩) rfl (by decide +kernel) ?_ ?_
 refine jI T.b_range ?_
 refine zk ?_ ?_
 exact (zg 2)
 exact zn
 intro _ _ _ _ _
 refine yo ?_ ?_ ?_ ?_
 exact (yr (zM hr))
 exact (zg 2)
 refine zC jv ?_ ?_
 refine zC yk ?_ ?_
 refine zC zcM ?_ ?_
 exact (zg 4)
 refine zC yk ?_ ?_
 exact zu
 refine zC jz ?_ ?_
 refine zC jz ?_ ?_
 exact (zg 0)
 exact (zg 0)
 exact (zg 0)
 refine zC jz ?_ ?_
 exact (zg 0)
 exact (zg 3)
 exact zu
 exact fun _ _=>rfl
theorem zb1:FnScope ["_law_deck_here", "_law_way", "_law_some", "_law_number_here"] ["_law_deck_here"] (zB zdm):=⟨rfl,rfl,rfl,by decide +kernel,rfl,by decide +kernel,by decide +kernel⟩
def znz:zc->Mo Fl :=
  (zE (zh zJ (jZ (zf (zd 3) (zf (zh yX (mC (.int 0)) (zd 3)) zj))) (zh yj (zd 1) (mC (.int 2)))))
def znA:zc->Mo Fl :=
  zq (zH 3 (zh zR (zh ym (zm yF (zf (zd 0) (zf (zh js (mC (.int 10)) (mC (.int 9))) zj))) (zh js (mC (.int 10)) (mC (.int 9)))) (zm yF (zf (zd 0) (zf (zh js (mC (.int 10)) (mC (.int 9))) zj))))) (znz)
def zgr:zc->Mo Fl :=
  zq (zK (mB (zh yq (zd 1) (mC (.int 3))))
  (zq (zH 2 (jZ (zf (zh yX (zh js (mC (.int 10)) (mC (.int 18))) (mC (.int 1))) (zf (zh yX (mC (.int 1)) (zh js (mC (.int 10)) (mC (.int 18)))) (zf (zh js (mC (.int 10)) (mC (.int 17))) (zf (zh yX (mC (.int 1)) (zh js (mC (.int 10)) (mC (.int 17)))) (zf (mC (.int 99)) (zf (yg zbz (mC (.int 10))) zj))))))))
  (zE (zh zJ (zd 2) (zm yF (zf (zd 0) (zf (mC (.int 6)) zj))))))
  zL) (znA)
def zgs:zc->Mo Fl :=
  zq (zK (mB (zh yq (zd 1) (mC (.int 2))))
  (zE (zh yX (mC (.int 0)) (zm yF (zf (zd 0) (zf (mC (.int 1000)) zj)))))
  zL) (zgr)
def zgt:zc->Mo Fl :=
  zq (zK (mB (zh wJ (zd 1) (mC (.int 2))))
  (zE (zm yF (zf (zd 0) (zf (mC (.int 10)) zj))))
  zL) (zgs)
def zb2:zc->Mo Fl :=
  zq (zH 1 (zm yF (zf (zd 0) (zf (mC (.int 6)) zj)))) (zgt)
def zb3:List PV->Mo PV:=zU 1 4 (zb2)
theorem zgu (T:Txt w K mg):FOk P w K mg base "_law_number" 2 zb3:=T.f__law_number.ok (k:=1) zb1 fun f cdv A outer s H E hr =>
  by
 refine zv ?_ ?_
 refine zV 1 ?_ ?_
 refine zN (y4 T) (hr.mono (by decide)) zA ?_
 refine zk ?_ ?_
 exact (zg 0)
 refine zk ?_ ?_
 exact zu
 exact zn
 exact zb1.nd
 refine zv ?_ ?_
 refine zT ?_ ?_ ?_
 refine yb zcO ?_ ?_
 exact (zg 1)
 exact zu
 refine zx ?_
 refine zI ?_
 refine zN (y4 T) (hr.mono (by decide)) zA ?_
 refine zk ?_ ?_
 exact (zg 0)
 refine zk ?_ ?_
 exact zu
 exact zn
 exact zS
 refine zv ?_ ?_
 refine zT ?_ ?_ ?_
 refine yb (yJ (zM hr)) ?_ ?_
 exact (zg 1)
 exact zu
 refine zx ?_
 refine zI ?_
 refine zC wc ?_ ?_
 exact zu
 refine zN (y4 T) (hr.mono (by decide)) zA ?_
 refine zk ?_ ?_
 exact (zg 0)
 refine zk ?_ ?_
 exact zu
 exact zn
 exact zS
 refine zv ?_ ?_
 refine zT ?_ ?_ ?_
 refine yb (yJ (zM hr)) ?_ ?_
 exact (zg 1)
 exact zu
 refine zv ?_ ?_
 refine zV 2 ?_ ?_
 refine w9 ?_
 refine zk ?_ ?_
 refine zC wc ?_ ?_
 refine zC wI ?_ ?_
 exact zu
 exact zu
 exact zu
 refine zk ?_ ?_
 refine zC wc ?_ ?_
 exact zu
 refine zC wI ?_ ?_
 exact zu
 exact zu
 refine zk ?_ ?_
 refine zC wI ?_ ?_
 exact zu
 exact zu
 refine zk ?_ ?_
 refine zC wc ?_ ?_
 exact zu
 refine zC wI ?_ ?_
 exact zu
 exact zu
 refine zk ?_ ?_
 exact zu
 refine zk ?_ ?_
 refine zfe zfg ?_
 exact zu
 exact zn
 exact zb1.nd
 refine zx ?_
 refine zI ?_
 refine yo ?_ ?_ ?_ ?_
 exact (yr (zM hr))
 exact (zg 2)
 refine zN (y4 T) (hr.mono (by decide)) zA ?_
 refine zk ?_ ?_
 exact (zg 0)
 refine zk ?_ ?_
 exact zu
 exact zn
 exact fun _ _=>rfl
 exact zS
 refine zv ?_ ?_
 refine zV 3 ?_ ?_
 refine zC yk ?_ ?_
 refine zC jz ?_ ?_
 refine zN (y4 T) (hr.mono (by decide)) zA ?_
 refine zk ?_ ?_
 exact (zg 0)
 refine zk ?_ ?_
 refine zC wI ?_ ?_
 exact zu
 exact zu
 exact zn
 refine zC wI ?_ ?_
 exact zu
 exact zu
 refine zN (y4 T) (hr.mono (by decide)) zA ?_
 refine zk ?_ ?_
 exact (zg 0)
 refine zk ?_ ?_
 refine zC wI ?_ ?_
 exact zu
 exact zu
 exact zn
 exact zb1.nd
 refine zx ?_
 refine zI ?_
 refine yo ?_ ?_ ?_ ?_
 exact (yr (zM hr))
 refine w9 ?_
 refine zk ?_ ?_
 exact (zg 3)
 refine zk ?_ ?_
 refine zC wc ?_ ?_
 exact zu
 exact (zg 3)
 exact zn
 refine zC jv ?_ ?_
 exact (zg 1)
 exact zu
 exact fun _ _=>rfl
theorem zaq:FnScope ["_law_deck_here", "_law_deep", "_law_way", "_law_record", "_law_k", "_law_word_here"] ["_law_deck_here", "_law_deep"] (zB zbW):=⟨rfl,rfl,rfl,by decide +kernel,rfl,by decide +kernel,by decide +kernel⟩
def znB (mr:List PV->Mo PV):zc->Mo Fl :=
  (zE (zm zb3 (zf (zd 0) zj)))
def zgv (mr:List PV->Mo PV):zc->Mo Fl :=
  zq (zK (jG (mB (zh jw (zd 1) (mC (.int 0)))) (mB (zh yq (zd 2) (mC (.int 7)))))
  (zq (zH 3 zab)
  (zq (jy (iRng1 (zf (zm yF (zf (zd 0) (zf (mC (.int 4)) zj))) zj)) (gN 4)
  (zq (zH 5 (zm zap (zf (zd 0) zj)))
  (y0 (zd 3) (zd 5) (zm mr (zf (zd 0) (zf (zh yX (zd 1) (mC (.int 1))) zj))))))
  (zE (zd 3))))
  zL) (znB mr)
def zgw (mr:List PV->Mo PV):zc->Mo Fl :=
  zq (zK (jG (mB (zh jw (zd 1) (mC (.int 0)))) (yR (mB (zh yq (zd 2) (mC (.int 5)))) (mB (zh yq (zd 2) (mC (.int 6))))))
  (zE (zm wL (zf (yt (iRng1 (zf (zm yF (zf (zd 0) (zf (mC (.int 4)) zj))) zj)) (zm mr (zf (zd 1) (zf (zh yX (zd 2) (mC (.int 1))) zj)))) zj)))
  zL) (zgv mr)
def zgx (mr:List PV->Mo PV):zc->Mo Fl :=
  zq (zK (yR (mB (zh yq (zd 2) (mC (.int 3)))) (mB (zh yq (zd 2) (mC (.int 4)))))
  (zE (zm zap (zf (zd 0) zj)))
  zL) (zgw mr)
def zb4 (mr:List PV->Mo PV):zc->Mo Fl :=
  zq (zH 2 (zm yF (zf (zd 0) (zf (mC (.int 8)) zj)))) (zgx mr)
def zdC (mr:List PV->Mo PV):List PV->Mo PV:=zU 2 6 (zb4 mr)
theorem znC (T:Txt w K mg) {k:Nat} (hk:2<=k) {mr:List PV->Mo PV} (hmr:FOk P w K mg base "_law_value" k mr):FOk P w K mg base "_law_value" (k+1) (zdC mr):=T.f__law_value.ok (k:=k+0) zaq fun f cdv A outer s H E hr =>
  by
 refine zv ?_ ?_
 refine zV 2 ?_ ?_
 refine zN (y4 T) (hr.mono (by omega)) zA ?_
 refine zk ?_ ?_
 exact (zg 0)
 refine zk ?_ ?_
 exact zu
 exact zn
 exact zaq.nd
 refine zv ?_ ?_
 refine zT ?_ ?_ ?_
 refine jc ?_
 refine j9 ?_ ?_
 refine yb (yJ (zM hr)) ?_ ?_
 exact (zg 2)
 exact zu
 refine j8 ?_
 refine yb (yJ (zM hr)) ?_ ?_
 exact (zg 2)
 exact zu
 refine zx ?_
 refine zI ?_
 refine zN (zdB T) (hr.mono (by omega)) zA ?_
 refine zk ?_ ?_
 exact (zg 0)
 exact zn
 exact zS
 refine zv ?_ ?_
 refine zT ?_ ?_ ?_
 refine jc ?_
 refine zbw ?_ ?_
 refine yb zaJ ?_ ?_
 exact (zg 1)
 exact zu
 refine zbv ?_
 refine jc ?_
 refine j9 ?_ ?_
 refine yb (yJ (zM hr)) ?_ ?_
 exact (zg 2)
 exact zu
 refine j8 ?_
 refine yb (yJ (zM hr)) ?_ ?_
 exact (zg 2)
 exact zu
 refine zx ?_
 refine zI ?_
 refine j1 zaM T.b_tuple jK ?_
 refine zk ?_ ?_
 refine zbM (M:=["_law_deck_here", "_law_deep", "_law_way", "_law_record", "~_law_k", "_law_word_here"]) rfl (by exact ⟨rfl,by decide +kernel,by decide +kernel,rfl,by show ∀y:Str×NameKind,y∈_->y.2=NameKind.free->List.lookup y.1 (zB zbW).names=some NameKind.cell;decide +kernel⟩) (by exact ⟨rfl,by show ∀p∈List.zip (["_law_deck_here", "_law_deep", "_law_way", "_law_record", "~_law_k", "_law_word_here"]:List Str) (["_law_deck_here", "_law_deep", "_law_way", "_law_record", "_law_k", "_law_word_here"]:List Str),p.1=p.2\/p.1∉(_:List Str);decide +kernel⟩) (by decide +kernel) ?_ ?_
 refine jI T.b_range ?_
 refine zk ?_ ?_
 refine zN (y4 T) (hr.mono (by omega)) zA ?_
 refine zk ?_ ?_
 exact (zg 0)
 refine zk ?_ ?_
 exact zu
 exact zn
 exact zn
 intro _ _ _ _ _
 refine zN hmr (hr.mono (by omega)) wn ?_
 refine zk ?_ ?_
 exact (zg 1)
 refine zk ?_ ?_
 refine zC wc ?_ ?_
 exact (zg 2)
 exact zu
 exact zn
 exact zn
 exact zS
 refine zv ?_ ?_
 refine zT ?_ ?_ ?_
 refine jc ?_
 refine zbw ?_ ?_
 refine yb zaJ ?_ ?_
 exact (zg 1)
 exact zu
 refine zbv ?_
 refine yb (yJ (zM hr)) ?_ ?_
 exact (zg 2)
 exact zu
 refine zv ?_ ?_
 refine zV 3 ?_ ?_
 exact zaS
 exact zaq.nd
 refine zv ?_ ?_
 refine wO (jF rfl rfl) rfl ?_ ?_ ?_
 refine jI T.b_range ?_
 refine zk ?_ ?_
 refine zN (y4 T) (hr.mono (by omega)) zA ?_
 refine zk ?_ ?_
 exact (zg 0)
 refine zk ?_ ?_
 exact zu
 exact zn
 exact zn
 exact (wN 4 zaq.nd)
 refine zv ?_ ?_
 refine zV 5 ?_ ?_
 refine zN (zdB T) (hr.mono (by omega)) zA ?_
 refine zk ?_ ?_
 exact (zg 0)
 exact zn
 exact zaq.nd
 refine zx ?_
 refine zbL ?_ ?_ ?_ ?_ ?_
 exact (zM hr)
 exact (zg 3)
 exact (zg 5)
 refine zN hmr (hr.mono (by omega)) zA ?_
 refine zk ?_ ?_
 exact (zg 0)
 refine zk ?_ ?_
 refine zC wc ?_ ?_
 exact (zg 1)
 exact zu
 exact zn
 rfl
 refine zx ?_
 refine zI ?_
 exact (zg 3)
 exact zS
 refine zx ?_
 refine zI ?_
 refine zN (zgu T) (hr.mono (by omega)) zA ?_
 refine zk ?_ ?_
 exact (zg 0)
 exact zn
def yU:Nat->List PV->Mo PV
 | 0=>zU 2 6 yN
 | n+1=>zdC (yU n)
theorem zdD (T:Txt w K mg):∀n,FOk P w K mg base "_law_value" (2+1+1*n) (yU n)
 | 0=>T.f__law_value.ok (k:=2) zaq fun f cdv A outer s H E hr=>zah
 | n+1=>(znC T (by omega) (zdD T n)).mono (by omega)
theorem y9:FnScope ["_law_deck_here", "_law_way", "_law_cell", "_law_letters", "_law_value_here", "_law_k", "_law_word_here", "_law_record"] ["_law_deck_here"] (zB za3):=⟨rfl,rfl,rfl,by decide +kernel,rfl,by decide +kernel,by decide +kernel⟩
def znD:zc->Mo Fl :=
  (zE (zd 7))
def znE:zc->Mo Fl :=
  zq (jy (iRng1 (zf (mC (.int 59)) zj)) (gN 5)
  (zq (zH 6 (zh zR (zh zJ (zd 3) (zh yj (zh zR (zd 2) (zh ym (mC (.int 7)) (zd 5))) (mC (.int 26)))) (zh zJ (zd 3) (zh wb (zd 5) (mC (.int 26))))))
  (y0 (zd 7) (zd 6) (zh yj (zh ym (zd 2) (zd 5)) (mC (.int 1999)))))) (znD)
def znF:zc->Mo Fl :=
  zq (zH 7 zab) (znE)
def zgy:zc->Mo Fl :=
  zq (zK (mB (zh yq (zd 1) (mC (.int 3))))
  (zq (zH 6 (zm zap (zf (zd 0) zj)))
  (zq (jy (iRng1 (zf (mC (.int 59)) zj)) (gN 5)
  (zH 4 (zaX [((zd 6),(zd 4))])))
  (zE (zd 4))))
  zL) (znF)
def zgz:zc->Mo Fl :=
  zq (zK (mB (zh yq (zd 1) (mC (.int 2))))
  (zq (jy (iRng1 (zf (mC (.int 59)) zj)) (gN 5)
  (zH 4 (wa (zf (zd 4) zj))))
  (zE (zd 4)))
  zL) (zgy)
def znG:zc->Mo Fl :=
  zq (zH 4 (zm zb3 (zf (zd 0) zj))) (zgz)
def zgA:zc->Mo Fl :=
  zq (zK (mB (zh yq (zd 1) (mC (.int 1))))
  (zE (zm wL (zf (yt (iRng1 (zf (zh yj (zd 2) (mC (.int 60))) zj)) (wa zj)) zj)))
  zL) (znG)
def zgB:zc->Mo Fl :=
  zq (zK (mB (zh yq (zd 1) (mC (.int 0))))
  (zE (zm wL (zf (yt (iRng1 (zf (mC (.int 59)) zj)) (zh yX (zh yj (zh ym (zd 3) (zh zR (zd 0) (mC (.int 1)))) (mC (.int 1999))) (mC (.int 999)))) zj)))
  zL) (zgA)
def znH:zc->Mo Fl :=
  zq (zH 3 (mC (.str "abcdefghijklmnopqrstuvwxyz"))) (zgB)
def znI:zc->Mo Fl :=
  zq (zH 2 (zm yF (zf (zd 0) (zf (mC (.int 1000003)) zj)))) (znH)
def za7:zc->Mo Fl :=
  zq (zH 1 (zm yF (zf (zd 0) (zf (mC (.int 5)) zj)))) (znI)
def zb5:List PV->Mo PV:=zU 1 8 (za7)
theorem znJ (T:Txt w K mg):FOk P w K mg base "_law_large" 3 zb5:=T.f__law_large.ok (k:=2) y9 fun f cdv A outer s H E hr =>
  by
 refine zv ?_ ?_
 refine zV 1 ?_ ?_
 refine zN (y4 T) (hr.mono (by decide)) zA ?_
 refine zk ?_ ?_
 exact (zg 0)
 refine zk ?_ ?_
 exact zu
 exact zn
 exact y9.nd
 refine zv ?_ ?_
 refine zV 2 ?_ ?_
 refine zN (y4 T) (hr.mono (by decide)) zA ?_
 refine zk ?_ ?_
 exact (zg 0)
 refine zk ?_ ?_
 exact zu
 exact zn
 exact y9.nd
 refine zv ?_ ?_
 refine zV 3 ?_ ?_
 exact zW
 exact y9.nd
 refine zv ?_ ?_
 refine zT ?_ ?_ ?_
 refine yb (yJ (zM hr)) ?_ ?_
 exact (zg 1)
 exact zu
 refine zx ?_
 refine zI ?_
 refine j1 zaM T.b_tuple jK ?_
 refine zk ?_ ?_
 refine zbM (M:=["_law_deck_here", "_law_way", "_law_cell", "_law_letters", "_law_value_here", "~_law_k", "_law_word_here", "_law_record"]) rfl (by exact ⟨rfl,by decide +kernel,by decide +kernel,rfl,by show ∀y:Str×NameKind,y∈_->y.2=NameKind.free->List.lookup y.1 (zB za3).names=some NameKind.cell;decide +kernel⟩) (by exact ⟨rfl,by show ∀p∈List.zip (["_law_deck_here", "_law_way", "_law_cell", "_law_letters", "_law_value_here", "~_law_k", "_law_word_here", "_law_record"]:List Str) (["_law_deck_here", "_law_way", "_law_cell", "_law_letters", "_law_value_here", "_law_k", "_law_word_here", "_law_record"]:List Str),p.1=p.2\/p.1∉(_:List Str);decide +kernel⟩) (by decide +kernel) ?_ ?_
 refine jI T.b_range ?_
 refine zk ?_ ?_
 exact zu
 exact zn
 intro _ _ _ _ _
 refine zC wc ?_ ?_
 refine zC jv ?_ ?_
 refine zC jz ?_ ?_
 exact (zg 3)
 refine zC yk ?_ ?_
 exact (zg 0)
 exact zu
 exact zu
 exact zu
 exact zn
 exact zS
 refine zv ?_ ?_
 refine zT ?_ ?_ ?_
 refine yb (yJ (zM hr)) ?_ ?_
 exact (zg 1)
 exact zu
 refine zx ?_
 refine zI ?_
 refine j1 zaM T.b_tuple jK ?_
 refine zk ?_ ?_
 refine zbM (M:=["_law_deck_here", "_law_way", "_law_cell", "_law_letters", "_law_value_here", "~_law_k", "_law_word_here", "_law_record"]) rfl (by exact ⟨rfl,by decide +kernel,by decide +kernel,rfl,by show ∀y:Str×NameKind,y∈_->y.2=NameKind.free->List.lookup y.1 (zB za3).names=some NameKind.cell;decide +kernel⟩) (by exact ⟨rfl,by show ∀p∈List.zip (["_law_deck_here", "_law_way", "_law_cell", "_law_letters", "_law_value_here", "~_law_k", "_law_word_here", "_law_record"]:List Str) (["_law_deck_here", "_law_way", "_law_cell", "_law_letters", "_law_value_here", "_law_k", "_law_word_here", "_law_record"]:List Str),p.1=p.2\/p.1∉(_:List Str);decide +kernel⟩) (by decide +kernel) ?_ ?_
 refine jI T.b_range ?_
 refine zk ?_ ?_
 refine zC jv ?_ ?_
 exact (zg 2)
 exact zu
 exact zn
 intro _ _ _ _ _
 refine zcL ?_
 exact zn
 exact zn
 exact zS
 refine zv ?_ ?_
 refine zV 4 ?_ ?_
 refine zN (zgu T) (hr.mono (by decide)) zA ?_
 refine zk ?_ ?_
 exact (zg 0)
 exact zn
 exact y9.nd
 refine zv ?_ ?_
 refine zT ?_ ?_ ?_
 refine yb (yJ (zM hr)) ?_ ?_
 exact (zg 1)
 exact zu
 refine zv ?_ ?_
 refine wO (jF rfl rfl) rfl ?_ ?_ ?_
 refine jI T.b_range ?_
 refine zk ?_ ?_
 exact zu
 exact zn
 exact (wN 5 y9.nd)
 refine zx ?_
 refine zV 4 ?_ ?_
 refine zcL ?_
 refine zk ?_ ?_
 exact (zg 4)
 exact zn
 exact y9.nd
 refine zx ?_
 refine zI ?_
 exact (zg 4)
 exact zS
 refine zv ?_ ?_
 refine zT ?_ ?_ ?_
 refine yb (yJ (zM hr)) ?_ ?_
 exact (zg 1)
 exact zu
 refine zv ?_ ?_
 refine zV 6 ?_ ?_
 refine zN (zdB T) (hr.mono (by decide)) zA ?_
 refine zk ?_ ?_
 exact (zg 0)
 exact zn
 exact y9.nd
 refine zv ?_ ?_
 refine wO (jF rfl rfl) rfl ?_ ?_ ?_
 refine jI T.b_range ?_
 refine zk ?_ ?_
 exact zu
 exact zn
 exact (wN 5 y9.nd)
 refine zx ?_
 refine zV 4 ?_ ?_
 refine zmR ?_ (by simp) (by decide)
 refine zmQ ?_ ?_ ?_
 exact (zg 6)
 exact (zg 4)
 exact zmP
 exact y9.nd
 refine zx ?_
 refine zI ?_
 exact (zg 4)
 exact zS
 refine zv ?_ ?_
 refine zV 7 ?_ ?_
 exact zaS
 exact y9.nd
 refine zv ?_ ?_
 refine wO (jF rfl rfl) rfl ?_ ?_ ?_
 refine jI T.b_range ?_
 refine zk ?_ ?_
 exact zu
 exact zn
 exact (wN 5 y9.nd)
 refine zv ?_ ?_
 refine zV 6 ?_ ?_
 refine zC yk ?_ ?_
 refine yo ?_ ?_ ?_ ?_
 exact (yr (zM hr))
 exact (zg 3)
 refine zC jv ?_ ?_
 refine zC yk ?_ ?_
 exact (zg 2)
 refine zC jz ?_ ?_
 exact zu
 exact (zg 5)
 exact zu
 exact fun _ _=>rfl
 refine yo ?_ ?_ ?_ ?_
 exact (yr (zM hr))
 exact (zg 3)
 refine zC zcM ?_ ?_
 exact (zg 5)
 exact zu
 exact fun _ _=>rfl
 exact y9.nd
 refine zx ?_
 refine zbL ?_ ?_ ?_ ?_ ?_
 exact (zM hr)
 exact (zg 7)
 exact (zg 6)
 refine zC jv ?_ ?_
 refine zC jz ?_ ?_
 exact (zg 2)
 exact (zg 5)
 exact zu
 rfl
 refine zx ?_
 refine zI ?_
 exact (zg 7)
theorem zb6:FnScope ["_law_value_here", "_law_turned_here", "_law_word_here"] ["_law_value_here"] (zB zbX):=⟨rfl,rfl,rfl,by decide +kernel,rfl,by decide +kernel,by decide +kernel⟩
def znK (mr:List PV->Mo PV):zc->Mo Fl :=
  (zE (zd 0))
def znL (mr:List PV->Mo PV):zc->Mo Fl :=
  zq (zK (mB (zm (yf isT) (zf (zd 0) (zf (mC (.ty "dict")) zj))))
  (zq (zH 1 zab)
  (zq (jy (yM (yg zbT (zd 0))) (gN 2)
  (y0 (zd 1) (zd 2) (zm mr (zf (zh zJ (zd 0) (zd 2)) zj))))
  (zE (zd 1))))
  zL) (znK mr)
def znM (mr:List PV->Mo PV):zc->Mo Fl :=
  zq (zK (mB (zm (yf isT) (zf (zd 0) (zf (mC (.ty "tuple")) zj))))
  (zE (zm wL (zf (yt (yM (zd 0)) (zm mr (zf (zd 0) zj))) zj)))
  zL) (znL mr)
def zdE (mr:List PV->Mo PV):List PV->Mo PV:=zU 1 3 (znM mr)
theorem znN (T:Txt w K mg) {k:Nat} (hk:1<=k) {mr:List PV->Mo PV} (hmr:FOk P w K mg base "_law_turned" k mr):FOk P w K mg base "_law_turned" (k+1) (zdE mr):=T.f__law_turned.ok (k:=k+0) zb6 fun f cdv A outer s H E hr =>
  by
 refine zv ?_ ?_
 refine zT ?_ ?_ ?_
 refine ya ?_
 refine zY (yD T.is) T.b_isinstance yE ?_
 refine zk ?_ ?_
 exact (zg 0)
 refine zk ?_ ?_
 exact (yC T.b_tuple jK)
 exact zn
 refine zx ?_
 refine zI ?_
 refine j1 zaM T.b_tuple jK ?_
 refine zk ?_ ?_
 refine zad (N:=["_law_value_here", "_law_turned_here", "_law_word_here"]) rfl (by exact ⟨rfl,by decide +kernel,by decide +kernel,rfl,by show ∀y:Str×NameKind,y∈_->y.2=NameKind.free->List.lookup y.1 (zB zbX).names=some NameKind.cell;decide +kernel⟩) rfl (by decide +kernel) ?_ ?_
 refine wg ?_
 exact (zg 0)
 intro _ _ _ _ _
 refine zN hmr (hr.mono (by omega)) wn ?_
 refine zk ?_ ?_
 exact (zg 0)
 exact zn
 exact zn
 exact zS
 refine zv ?_ ?_
 refine zT ?_ ?_ ?_
 refine ya ?_
 refine zY (yD T.is) T.b_isinstance yE ?_
 refine zk ?_ ?_
 exact (zg 0)
 refine zk ?_ ?_
 exact (yC T.b_dict zbJ)
 exact zn
 refine zv ?_ ?_
 refine zV 1 ?_ ?_
 exact zaS
 exact zb6.nd
 refine zv ?_ ?_
 refine wO (jF rfl rfl) rfl ?_ ?_ ?_
 refine wg ?_
 refine zng rfl T.b_sorted ?_
 exact (zg 0)
 exact (wN 2 zb6.nd)
 refine zx ?_
 refine zbL ?_ ?_ ?_ ?_ ?_
 exact (zM hr)
 exact (zg 1)
 exact (zg 2)
 refine zN hmr (hr.mono (by omega)) zA ?_
 refine zk ?_ ?_
 refine yo ?_ ?_ ?_ ?_
 exact (yr (zM hr))
 exact (zg 0)
 exact (zg 2)
 exact fun _ _=>rfl
 exact zn
 rfl
 refine zx ?_
 refine zI ?_
 exact (zg 1)
 exact zS
 refine zx ?_
 refine zI ?_
 exact (zg 0)
def jS:Nat->List PV->Mo PV
 | 0=>zU 1 3 yN
 | n+1=>zdE (jS n)
theorem zdF (T:Txt w K mg):∀n,FOk P w K mg base "_law_turned" (1+1+1*n) (jS n)
 | 0=>T.f__law_turned.ok (k:=1) zb6 fun f cdv A outer s H E hr=>zah
 | n+1=>(znN T (by omega) (zdF T n)).mono (by omega)
theorem zgC:FnScope ["_law_value_here"] ["_law_value_here"] (zB za4):=⟨rfl,rfl,rfl,by decide +kernel,rfl,by decide +kernel,by decide +kernel⟩
def znO (mr:List PV->Mo PV):zc->Mo Fl :=
  (zE (zm zaf (zf (zd 0) zj)))
def znP (mr:List PV->Mo PV):zc->Mo Fl :=
  zq (zK (mB (zm (yf isT) (zf (zd 0) (zf (mC (.ty "dict")) zj))))
  (zE (zh zR (zh zR (mC (.str "{")) (jR (mC (.str ",")) (yt (yM (zm wV (zf (zd 0) zj))) (zh zR (zh zR (zd 0) (mC (.str ":"))) (zm mr (zf (zh zJ (zd 1) (zd 0)) zj)))))) (mC (.str "}"))))
  zL) (znO mr)
def znQ (mr:List PV->Mo PV):zc->Mo Fl :=
  zq (zK (mB (zm (yf isT) (zf (zd 0) (zf (mC (.ty "tuple")) zj))))
  (zE (zh zR (zh zR (mC (.str "[")) (jR (mC (.str ",")) (yt (yM (zd 0)) (zm mr (zf (zd 0) zj))))) (mC (.str "]"))))
  zL) (znP mr)
def znR (mr:List PV->Mo PV):zc->Mo Fl :=
  zq (zK (mB (zm (yf isT) (zf (zd 0) (zf (mC (.ty "str")) zj))))
  (zE (zh zR (mC (.str "'")) (zd 0)))
  zL) (znQ mr)
def zdG (mr:List PV->Mo PV):List PV->Mo PV:=zU 1 1 (znR mr)
theorem znS (T:Txt w K mg) {k:Nat} (hk:1<=k) {mr:List PV->Mo PV} (hmr:FOk P w K mg base "_law_text" k mr):FOk P w K mg base "_law_text" (k+1) (zdG mr):=T.f__law_text.ok (k:=k+0) zgC fun f cdv A outer s H E hr =>
  by
 refine zv ?_ ?_
 refine zT ?_ ?_ ?_
 refine ya ?_
 refine zY (yD T.is) T.b_isinstance yE ?_
 refine zk ?_ ?_
 exact (zg 0)
 refine zk ?_ ?_
 exact (yC T.b_str wm)
 exact zn
 refine zx ?_
 refine zI ?_
 refine zC yk ?_ ?_
 exact zW
 exact (zg 0)
 exact zS
 refine zv ?_ ?_
 refine zT ?_ ?_ ?_
 refine ya ?_
 refine zY (yD T.is) T.b_isinstance yE ?_
 refine zk ?_ ?_
 exact (zg 0)
 refine zk ?_ ?_
 exact (yC T.b_tuple jK)
 exact zn
 refine zx ?_
 refine zI ?_
 refine zC yk ?_ ?_
 refine zC yk ?_ ?_
 exact zW
 refine za0 ?_ ?_
 exact zW
 refine zad (N:=["_law_value_here"]) rfl (by exact ⟨rfl,by decide +kernel,by decide +kernel,rfl,by show ∀y:Str×NameKind,y∈_->y.2=NameKind.free->List.lookup y.1 (zB za4).names=some NameKind.cell;decide +kernel⟩) rfl (by decide +kernel) ?_ ?_
 refine wg ?_
 exact (zg 0)
 intro _ _ _ _ _
 refine zN hmr (hr.mono (by omega)) wn ?_
 refine zk ?_ ?_
 exact (zg 0)
 exact zn
 exact zW
 exact zS
 refine zv ?_ ?_
 refine zT ?_ ?_ ?_
 refine ya ?_
 refine zY (yD T.is) T.b_isinstance yE ?_
 refine zk ?_ ?_
 exact (zg 0)
 refine zk ?_ ?_
 exact (yC T.b_dict zbJ)
 exact zn
 refine zx ?_
 refine zI ?_
 refine zC yk ?_ ?_
 refine zC yk ?_ ?_
 exact zW
 refine za0 ?_ ?_
 exact zW
 refine zad (N:=["_law_value_here"]) rfl (by exact ⟨rfl,by decide +kernel,by decide +kernel,rfl,by show ∀y:Str×NameKind,y∈_->y.2=NameKind.free->List.lookup y.1 (zB za4).names=some NameKind.cell;decide +kernel⟩) rfl (by decide +kernel) ?_ ?_
 refine wg ?_
 refine zY (zgp rfl) T.b_sorted zdh ?_
 refine zk ?_ ?_
 exact (zg 0)
 exact zn
 intro _ _ _ _ _
 refine zC yk ?_ ?_
 refine zC yk ?_ ?_
 exact (zg 0)
 exact zW
 refine zN hmr (hr.mono (by omega)) wn ?_
 refine zk ?_ ?_
 refine yo ?_ ?_ ?_ ?_
 exact (yr (zM hr))
 exact (zg 1)
 exact (zg 0)
 exact fun _ _=>rfl
 exact zn
 exact zW
 exact zS
 refine zx ?_
 refine zI ?_
 refine j1 zfO T.b_str wm ?_
 refine zk ?_ ?_
 exact (zg 0)
 exact zn
def wu:Nat->List PV->Mo PV
 | 0=>zU 1 1 yN
 | n+1=>zdG (wu n)
theorem zdH (T:Txt w K mg):∀n,FOk P w K mg base "_law_text" (1+1+1*n) (wu n)
 | 0=>T.f__law_text.ok (k:=1) zgC fun f cdv A outer s H E hr=>zah
 | n+1=>(znS T (by omega) (zdH T n)).mono (by omega)
theorem zgD:FnScope ["_law_found", "_law_due"] ["_law_found", "_law_due"] (zB za5):=⟨rfl,rfl,rfl,by decide +kernel,rfl,by decide +kernel,by decide +kernel⟩
def znT (mr:List PV->Mo PV):zc->Mo Fl :=
  (zE (zm zak (zf (zc4 (zd 1) (jH (zh (jO false) (zd 0) (zd 1)) (zm mr (zf (zh y8 (zd 1) (zd 0)) (zf (zh y8 (zd 2) (zd 0)) zj))))) zj)))
def znU (mr:List PV->Mo PV):zc->Mo Fl :=
  zq (zK (yR (yA (mB (zm (yf isT) (zf (zd 0) (zf (mC (.ty "dict")) zj))))) (mB (zh j0 (zm yc (zf (zd 0) zj)) (zm yc (zf (zd 1) zj)))))
  (zE (mC (.bl false)))
  zL) (znT mr)
def znV (mr:List PV->Mo PV):zc->Mo Fl :=
  zq (zK (mB (zm (yf isT) (zf (zd 1) (zf (mC (.ty "tuple")) zj))))
  (zq (zK (yR (yA (mB (zm (yf isT) (zf (zd 0) (zf (mC (.ty "tuple")) zj))))) (mB (zh j0 (zm yc (zf (zd 0) zj)) (zm yc (zf (zd 1) zj)))))
  (zE (mC (.bl false)))
  zL)
  (zE (zm zak (zf (zc7 (zcW (zf (zd 0) (zf (zd 1) zj))) (zm mr (zf (zd 0) (zf (zd 1) zj)))) zj))))
  zL) (znU mr)
def zgE (mr:List PV->Mo PV):zc->Mo Fl :=
  zq (zK (mB (zm (yf isT) (zf (zd 1) (zf (mC (.ty "str")) zj))))
  (zE (jH (zm (yf isT) (zf (zd 0) (zf (mC (.ty "str")) zj))) (zh wo (zd 0) (zd 1))))
  zL) (znV mr)
def zdI (mr:List PV->Mo PV):zc->Mo Fl :=
  zq (zK (mB (zm (yf isT) (zf (zd 1) (zf (mC (.ty "int")) zj))))
  (zE (jH (zm (yf isT) (zf (zd 0) (zf (mC (.ty "int")) zj))) (jH (zcJ (zm (yf isT) (zf (zd 0) (zf (mC (.ty "bool")) zj)))) (zh wo (zd 0) (zd 1)))))
  zL) (zgE mr)
def wv (mr:List PV->Mo PV):List PV->Mo PV:=zU 2 2 (zdI mr)
theorem znW (T:Txt w K mg) {k:Nat} (hk:1<=k) {mr:List PV->Mo PV} (hmr:FOk P w K mg base "_law_alike" k mr):FOk P w K mg base "_law_alike" (k+1) (wv mr):=T.f__law_alike.ok (k:=k+0) zgD fun f cdv A outer s H E hr =>
  by
 refine zv ?_ ?_
 refine zT ?_ ?_ ?_
 refine ya ?_
 refine zY (yD T.is) T.b_isinstance yE ?_
 refine zk ?_ ?_
 exact (zg 1)
 refine zk ?_ ?_
 exact (yC T.b_int zbI)
 exact zn
 refine zx ?_
 refine zI ?_
 refine w8 ?_ ?_
 refine zY (yD T.is) T.b_isinstance yE ?_
 refine zk ?_ ?_
 exact (zg 0)
 refine zk ?_ ?_
 exact (yC T.b_int zbI)
 exact zn
 refine w8 ?_ ?_
 refine zkU ?_
 refine zY (yD T.is) T.b_isinstance yE ?_
 refine zk ?_ ?_
 exact (zg 0)
 refine zk ?_ ?_
 exact (yC T.b_bool zlA)
 exact zn
 refine zbx ?_
 refine zaG (zf6 (zM hr)) ?_ ?_
 exact (zg 0)
 exact (zg 1)
 exact zS
 refine zv ?_ ?_
 refine zT ?_ ?_ ?_
 refine ya ?_
 refine zY (yD T.is) T.b_isinstance yE ?_
 refine zk ?_ ?_
 exact (zg 1)
 refine zk ?_ ?_
 exact (yC T.b_str wm)
 exact zn
 refine zx ?_
 refine zI ?_
 refine w8 ?_ ?_
 refine zY (yD T.is) T.b_isinstance yE ?_
 refine zk ?_ ?_
 exact (zg 0)
 refine zk ?_ ?_
 exact (yC T.b_str wm)
 exact zn
 refine zbx ?_
 refine zaG (zf6 (zM hr)) ?_ ?_
 exact (zg 0)
 exact (zg 1)
 exact zS
 refine zv ?_ ?_
 refine zT ?_ ?_ ?_
 refine ya ?_
 refine zY (yD T.is) T.b_isinstance yE ?_
 refine zk ?_ ?_
 exact (zg 1)
 refine zk ?_ ?_
 exact (yC T.b_tuple jK)
 exact zn
 refine zv ?_ ?_
 refine zT ?_ ?_ ?_
 refine jc ?_
 refine j9 ?_ ?_
 refine jr ?_
 refine ya ?_
 refine zY (yD T.is) T.b_isinstance yE ?_
 refine zk ?_ ?_
 exact (zg 0)
 refine zk ?_ ?_
 exact (yC T.b_tuple jK)
 exact zn
 refine j8 ?_
 refine yb (zbD (zM hr)) ?_ ?_
 refine zY jg T.b_len je ?_
 refine zk ?_ ?_
 exact (zg 0)
 exact zn
 refine zY jg T.b_len je ?_
 refine zk ?_ ?_
 exact (zg 1)
 exact zn
 refine zx ?_
 refine zI ?_
 exact wG
 exact zS
 refine zx ?_
 refine zI ?_
 refine zY (zc5 rfl) T.b_all zc6 ?_
 refine zk ?_ ?_
 refine zmO (N:=["_law_found", "_law_due"]) rfl (by exact ⟨rfl,by decide +kernel,by decide +kernel,by show ∀y:Str×NameKind,y∈_->y.2=NameKind.free->List.lookup y.1 (zB za5).names=some NameKind.cell;decide +kernel⟩) rfl (by decide +kernel) ?_ ?_
 refine zly T.b_zip ?_
 refine zk ?_ ?_
 exact (zg 0)
 refine zk ?_ ?_
 exact (zg 1)
 exact zn
 intro _ _ _ _ _
 refine zN hmr (hr.mono (by omega)) wn ?_
 refine zk ?_ ?_
 exact (zg 0)
 refine zk ?_ ?_
 exact (zg 1)
 exact zn
 exact zn
 exact zS
 refine zv ?_ ?_
 refine zT ?_ ?_ ?_
 refine jc ?_
 refine j9 ?_ ?_
 refine jr ?_
 refine ya ?_
 refine zY (yD T.is) T.b_isinstance yE ?_
 refine zk ?_ ?_
 exact (zg 0)
 refine zk ?_ ?_
 exact (yC T.b_dict zbJ)
 exact zn
 refine j8 ?_
 refine yb (zbD (zM hr)) ?_ ?_
 refine zY jg T.b_len je ?_
 refine zk ?_ ?_
 exact (zg 0)
 exact zn
 refine zY jg T.b_len je ?_
 refine zk ?_ ?_
 exact (zg 1)
 exact zn
 refine zx ?_
 refine zI ?_
 exact wG
 exact zS
 refine zx ?_
 refine zI ?_
 refine zY (zc5 rfl) T.b_all zc6 ?_
 refine zk ?_ ?_
 refine zmL (N:=["_law_found", "_law_due"]) rfl (by exact ⟨rfl,by decide +kernel,by decide +kernel,rfl,by show ∀y:Str×NameKind,y∈_->y.2=NameKind.free->List.lookup y.1 (zB za5).names=some NameKind.cell;decide +kernel⟩) rfl (by decide +kernel) ?_ ?_
 exact (zg 1)
 intro _ _ _ _ _
 refine w8 ?_ ?_
 refine zaG (zmY (zM hr)) ?_ ?_
 exact (zg 0)
 exact (zg 1)
 refine zbx ?_
 refine zN hmr (hr.mono (by omega)) wn ?_
 refine zk ?_ ?_
 refine yo ?_ ?_ ?_ ?_
 exact (zf9 (zM hr))
 exact (zg 1)
 exact (zg 0)
 exact fun _ _=>rfl
 refine zk ?_ ?_
 refine yo ?_ ?_ ?_ ?_
 exact (zf9 (zM hr))
 exact (zg 2)
 exact (zg 0)
 exact fun _ _=>rfl
 exact zn
 exact zn
def yG:Nat->List PV->Mo PV
 | 0=>zU 2 2 yN
 | n+1=>wv (yG n)
theorem ww (T:Txt w K mg):∀n,FOk P w K mg base "_law_alike" (1+1+1*n) (yG n)
 | 0=>T.f__law_alike.ok (k:=1) zgD fun f cdv A outer s H E hr=>zah
 | n+1=>(znW T (by omega) (ww T n)).mono (by omega)
theorem znX:FnScope ["value"] ["value"] (zB zdn):=⟨rfl,rfl,rfl,by decide +kernel,rfl,by decide +kernel,by decide +kernel⟩
def zgF:zc->Mo Fl :=
  (zE (mC (.str "number")))
def zgG:zc->Mo Fl :=
  zq (zK (mB (zm (yf isT) (zf (zd 0) (zf (mC (.ty "dict")) zj))))
  (zE (mC (.str "record")))
  zL) (zgF)
def zgH:zc->Mo Fl :=
  zq (zK (mB (zm (yf isT) (zf (zd 0) (zf (mC (.ty "tuple")) zj))))
  (zE (mC (.str "row")))
  zL) (zgG)
def zgI:zc->Mo Fl :=
  zq (zK (mB (zm (yf isT) (zf (zd 0) (zf (mC (.ty "str")) zj))))
  (zE (mC (.str "word")))
  zL) (zgH)
def wx:List PV->Mo PV:=zU 1 1 (zgI)
theorem znY (T:Txt w K mg):FOk P w K mg base "kind_of" 1 wx:=T.f_kind_of.ok (k:=0) znX fun f cdv A outer s H E hr =>
  by
 refine zv ?_ ?_
 refine zT ?_ ?_ ?_
 refine ya ?_
 refine zY (yD T.is) T.b_isinstance yE ?_
 refine zk ?_ ?_
 exact (zg 0)
 refine zk ?_ ?_
 exact (yC T.b_str wm)
 exact zn
 refine zx ?_
 refine zI ?_
 exact zW
 exact zS
 refine zv ?_ ?_
 refine zT ?_ ?_ ?_
 refine ya ?_
 refine zY (yD T.is) T.b_isinstance yE ?_
 refine zk ?_ ?_
 exact (zg 0)
 refine zk ?_ ?_
 exact (yC T.b_tuple jK)
 exact zn
 refine zx ?_
 refine zI ?_
 exact zW
 exact zS
 refine zv ?_ ?_
 refine zT ?_ ?_ ?_
 refine ya ?_
 refine zY (yD T.is) T.b_isinstance yE ?_
 refine zk ?_ ?_
 exact (zg 0)
 refine zk ?_ ?_
 exact (yC T.b_dict zbJ)
 exact zn
 refine zx ?_
 refine zI ?_
 exact zW
 exact zS
 refine zx ?_
 refine zI ?_
 exact zW
theorem zb7:FnScope ["value", "kind", "shown"] ["value"] (zB za6):=⟨rfl,rfl,rfl,by decide +kernel,rfl,by decide +kernel,by decide +kernel⟩
def znZ (mr:List PV->Mo PV):zc->Mo Fl :=
  (zE (zh zR (zh zR (mC (.str "{")) (jR (mC (.str ",")) (zd 2))) (mC (.str "}"))))
def zn0 (mr:List PV->Mo PV):zc->Mo Fl :=
  zq (zH 2 (yt (yM (zm wV (zf (zd 0) zj))) (zh zR (zh zR (zd 0) (mC (.str ":"))) (zm mr (zf (zh zJ (zd 1) (zd 0)) zj))))) (znZ mr)
def zn1 (mr:List PV->Mo PV):zc->Mo Fl :=
  zq (zK (mB (zh yq (zd 1) (mC (.str "row"))))
  (zE (zh zR (zh zR (mC (.str "[")) (jR (mC (.str ",")) (yt (yM (zd 0)) (zm mr (zf (zd 0) zj))))) (mC (.str "]"))))
  zL) (zn0 mr)
def zn2 (mr:List PV->Mo PV):zc->Mo Fl :=
  zq (zK (mB (zh yq (zd 1) (mC (.str "word"))))
  (zE (zh zR (mC (.str "'")) (zd 0)))
  zL) (zn1 mr)
def zn3 (mr:List PV->Mo PV):zc->Mo Fl :=
  zq (zK (mB (zh yq (zd 1) (mC (.str "number"))))
  (zE (zm zaf (zf (zd 0) zj)))
  zL) (zn2 mr)
def zn4 (mr:List PV->Mo PV):zc->Mo Fl :=
  zq (zH 1 (zm wx (zf (zd 0) zj))) (zn3 mr)
def zdJ (mr:List PV->Mo PV):List PV->Mo PV:=zU 1 3 (zn4 mr)
theorem zn5 (T:Txt w K mg) {k:Nat} (hk:1<=k) {mr:List PV->Mo PV} (hmr:FOk P w K mg base "show_value" k mr):FOk P w K mg base "show_value" (k+1) (zdJ mr):=T.f_show_value.ok (k:=k+0) zb7 fun f cdv A outer s H E hr =>
  by
 refine zv ?_ ?_
 refine zV 1 ?_ ?_
 refine zN (znY T) (hr.mono (by omega)) zA ?_
 refine zk ?_ ?_
 exact (zg 0)
 exact zn
 exact zb7.nd
 refine zv ?_ ?_
 refine zT ?_ ?_ ?_
 refine yb (yJ (zM hr)) ?_ ?_
 exact (zg 1)
 exact zW
 refine zx ?_
 refine zI ?_
 refine j1 zfO T.b_str wm ?_
 refine zk ?_ ?_
 exact (zg 0)
 exact zn
 exact zS
 refine zv ?_ ?_
 refine zT ?_ ?_ ?_
 refine yb (yJ (zM hr)) ?_ ?_
 exact (zg 1)
 exact zW
 refine zx ?_
 refine zI ?_
 refine zC yk ?_ ?_
 exact zW
 exact (zg 0)
 exact zS
 refine zv ?_ ?_
 refine zT ?_ ?_ ?_
 refine yb (yJ (zM hr)) ?_ ?_
 exact (zg 1)
 exact zW
 refine zx ?_
 refine zI ?_
 refine zC yk ?_ ?_
 refine zC yk ?_ ?_
 exact zW
 refine za0 ?_ ?_
 exact zW
 refine zad (N:=["value", "kind", "shown"]) rfl (by exact ⟨rfl,by decide +kernel,by decide +kernel,rfl,by show ∀y:Str×NameKind,y∈_->y.2=NameKind.free->List.lookup y.1 (zB za6).names=some NameKind.cell;decide +kernel⟩) rfl (by decide +kernel) ?_ ?_
 refine wg ?_
 exact (zg 0)
 intro _ _ _ _ _
 refine zN hmr (hr.mono (by omega)) wn ?_
 refine zk ?_ ?_
 exact (zg 0)
 exact zn
 exact zW
 exact zS
 refine zv ?_ ?_
 refine zmx 2 (N:=["value", "kind", "shown"]) rfl (by exact ⟨rfl,by decide +kernel,by decide +kernel,rfl,by show ∀y:Str×NameKind,y∈_->y.2=NameKind.free->List.lookup y.1 (zB za6).names=some NameKind.cell;decide +kernel⟩) rfl (by decide +kernel) ?_ ?_ zb7.nd rfl (by first|exact Or.inl rfl|exact Or.inr rfl) (by first|exact .inl rfl|exact .inr rfl|assumption) (by rfl)
 refine wg ?_
 refine zY (zgp rfl) T.b_sorted zdh ?_
 refine zk ?_ ?_
 exact (zg 0)
 exact zn
 intro _ _ _ _ _
 refine zC yk ?_ ?_
 refine zC yk ?_ ?_
 exact (zg 0)
 exact zW
 refine zN hmr (hr.mono (by omega)) wn ?_
 refine zk ?_ ?_
 refine yo ?_ ?_ ?_ ?_
 exact (yr (zM hr))
 exact (zg 1)
 exact (zg 0)
 exact fun _ _=>rfl
 exact zn
 refine zx ?_
 refine zI ?_
 refine zC yk ?_ ?_
 refine zC yk ?_ ?_
 exact zW
 refine za0 ?_ ?_
 exact zW
 exact (zg 2)
 exact zW
def jC:Nat->List PV->Mo PV
 | 0=>zU 1 3 yN
 | n+1=>zdJ (jC n)
theorem zb8 (T:Txt w K mg):∀n,FOk P w K mg base "show_value" (1+1+1*n) (jC n)
 | 0=>T.f_show_value.ok (k:=1) zb7 fun f cdv A outer s H E hr=>zah
 | n+1=>(zn5 T (by omega) (zb8 T n)).mono (by omega)
theorem zn6:FnScope ["self", "text"] ["self", "text"] (zB zdo):=⟨rfl,rfl,rfl,by decide +kernel,rfl,by decide +kernel,by decide +kernel⟩
def zn7:zc->Mo Fl :=
  (sFld "begun" insOf (zd 0) (mC (.int 0)))
def zn8:zc->Mo Fl :=
  zq (sFld "place" insOf (zd 0) (mC (.int 0))) (zn7)
def zn9:zc->Mo Fl :=
  zq (sFld "text" insOf (zd 0) (zd 1)) (zn8)
def zb9:List PV->Mo PV:=zU 2 2 (zn9)
theorem zoa (T:Txt w K mg):NOk P w K mg base "ValueReader" 1 zb9:=T.n_ValueReader.ok (k:=0) zn6 fun f cdv A outer s H E hr =>
  by
 refine zv ?_ ?_
 refine zcV T.d_text ?_ ?_
 exact (zg 0)
 exact (zg 1)
 refine zv ?_ ?_
 refine zcV T.d_place ?_ ?_
 exact (zg 0)
 exact zu
 refine zx ?_
 refine zcV T.d_begun ?_ ?_
 exact (zg 0)
 exact zu
theorem zob:FnScope ["self"] ["self"] (zB zdp):=⟨rfl,rfl,rfl,by decide +kernel,rfl,by decide +kernel,by decide +kernel⟩
def zoc:zc->Mo Fl :=
  (zE (wK (yg (fldAt "text" insOf excOf) (zd 0)) (pSome (yg (fldAt "place" insOf excOf) (zd 0))) (pSome (zh zR (yg (fldAt "place" insOf excOf) (zd 0)) (mC (.int 1))))))
def m_ValueReader_sign_here:List PV->Mo PV:=zU 1 1 (zoc)
theorem zod (T:Txt w K mg):MOk P w K mg base "ValueReader" "sign_here" 1 m_ValueReader_sign_here:=T.m_ValueReader_sign_here.ok (k:=0) zob fun f cdv A outer s H E hr =>
  by
 refine zx ?_
 refine zI ?_
 refine zcT ?_ ?_ ?_
 refine jd T.d_text ?_
 exact (zg 0)
 refine zaK ?_
 refine jd T.d_place ?_
 exact (zg 0)
 refine zaK ?_
 refine zC yk ?_ ?_
 refine jd T.d_place ?_
 exact (zg 0)
 exact zu
def zca (c:Str):Option (List PV->Mo PV):=if c = "ValueReader" then some m_ValueReader_sign_here else none
theorem zgJ (T:Txt w K mg) {c:Str} {m:List PV->Mo PV} (h:zca c=some m):MOk P w K mg base c "sign_here" 1 m:=by
 unfold zca at h
 by_cases e0:c = "ValueReader"
 ·rw [if_pos e0] at h;cases h;rw [e0];exact (zod T).mono (by decide)
 rw [if_neg e0] at h
 cases h
theorem zoe:FnScope ["self", "sign"] ["self", "sign"] (zB zdq):=⟨rfl,rfl,rfl,by decide +kernel,rfl,by decide +kernel,by decide +kernel⟩
def zof:zc->Mo Fl :=
  (zE (mC (.bl true)))
def zog:zc->Mo Fl :=
  zq (jM "place" insOf (zd 0) (mC (.int 1))) (zof)
def zoh:zc->Mo Fl :=
  zq (zK (mB (zh j0 (zX "sign_here" zca (zd 0) zj) (zd 1)))
  (zE (mC (.bl false)))
  zL) (zog)
def m_ValueReader_passes:List PV->Mo PV:=zU 2 2 (zoh)
theorem zoi (T:Txt w K mg):MOk P w K mg base "ValueReader" "passes" 2 m_ValueReader_passes:=T.m_ValueReader_passes.ok (k:=1) zoe fun f cdv A outer s H E hr =>
  by
 refine zv ?_ ?_
 refine zT ?_ ?_ ?_
 refine yb (zbD (zM hr)) ?_ ?_
 refine jx (fun c m h=>zgJ T h) ?_ (hr.mono (by decide)) zA
 exact (zg 0)
 exact (zg 1)
 refine zx ?_
 refine zI ?_
 exact wG
 exact zS
 refine zv ?_ ?_
 refine zbN T.d_place ?_ ?_
 exact (zg 0)
 exact zu
 refine zx ?_
 refine zI ?_
 exact wG
def ji (c:Str):Option (List PV->Mo PV):=if c = "ValueReader" then some m_ValueReader_passes else none
theorem wy (T:Txt w K mg) {c:Str} {m:List PV->Mo PV} (h:ji c=some m):MOk P w K mg base c "passes" 2 m:=by
 unfold ji at h
 by_cases e0:c = "ValueReader"
 ·rw [if_pos e0] at h;cases h;rw [e0];exact (zoi T).mono (by decide)
 rw [if_neg e0] at h
 cases h
theorem zgK:FnScope ["self", "signs", "start"] ["self", "signs"] (zB zdr):=⟨rfl,rfl,rfl,by decide +kernel,rfl,by decide +kernel,by decide +kernel⟩
def zoj:zc->Mo Fl :=
  (zE (wK (yg (fldAt "text" insOf excOf) (zd 0)) (pSome (zd 2)) (pSome (yg (fldAt "place" insOf excOf) (zd 0)))))
def zok:zc->Mo Fl :=
  zq (zbG (jG (mB (zh wJ (yg (fldAt "place" insOf excOf) (zd 0)) (zm yc (zf (yg (fldAt "text" insOf excOf) (zd 0)) zj)))) (mB (zh (yK false) (zh zJ (yg (fldAt "text" insOf excOf) (zd 0)) (yg (fldAt "place" insOf excOf) (zd 0))) (zd 1))))
  (jM "place" insOf (zd 0) (mC (.int 1)))) (zoj)
def zol:zc->Mo Fl :=
  zq (zH 2 (yg (fldAt "place" insOf excOf) (zd 0))) (zok)
def m_ValueReader_run_of:List PV->Mo PV:=zU 2 3 (zol)
theorem zom (T:Txt w K mg):MOk P w K mg base "ValueReader" "run_of" 1 m_ValueReader_run_of:=T.m_ValueReader_run_of.ok (k:=0) zgK fun f cdv A outer s H E hr =>
  by
 refine zv ?_ ?_
 refine zV 2 ?_ ?_
 refine jd T.d_place ?_
 exact (zg 0)
 exact zgK.nd
 refine zv ?_ ?_
 refine zcX (jF rfl rfl) ?_ ?_
 refine jc ?_
 refine zbw ?_ ?_
 refine yb zcO ?_ ?_
 refine jd T.d_place ?_
 exact (zg 0)
 refine zY jg T.b_len je ?_
 refine zk ?_ ?_
 refine jd T.d_text ?_
 exact (zg 0)
 exact zn
 refine zbv ?_
 refine yb (zfJ (zM hr)) ?_ ?_
 refine yo ?_ ?_ ?_ ?_
 exact (yr (zM hr))
 refine jd T.d_text ?_
 exact (zg 0)
 refine jd T.d_place ?_
 exact (zg 0)
 exact fun _ _=>rfl
 exact (zg 1)
 refine zx ?_
 refine zbN T.d_place ?_ ?_
 exact (zg 0)
 exact zu
 refine zx ?_
 refine zI ?_
 refine zcT ?_ ?_ ?_
 refine jd T.d_text ?_
 exact (zg 0)
 refine zaK ?_
 exact (zg 2)
 refine zaK ?_
 refine jd T.d_place ?_
 exact (zg 0)
def zcb (c:Str):Option (List PV->Mo PV):=if c = "ValueReader" then some m_ValueReader_run_of else none
theorem zgL (T:Txt w K mg) {c:Str} {m:List PV->Mo PV} (h:zcb c=some m):MOk P w K mg base c "run_of" 1 m:=by
 unfold zcb at h
 by_cases e0:c = "ValueReader"
 ·rw [if_pos e0] at h;cases h;rw [e0];exact (zom T).mono (by decide)
 rw [if_neg e0] at h
 cases h
theorem zon:FnScope ["thing"] ["thing"] (zB zbY):=⟨rfl,rfl,rfl,by decide +kernel,rfl,by decide +kernel,by decide +kernel⟩
def zoo:zc->Mo Fl :=
  (zE (zm zak (zf (yt (yM (zd 0)) (zh (yK false) (zd 0) (mC (.str "abcdefghijklmnopqrstuvwxyz")))) zj)))
def zop:zc->Mo Fl :=
  zq (zK (yR (yA (mB (zm (yf isT) (zf (zd 0) (zf (mC (.ty "str")) zj))))) (yA (mB (wH we we (mC (.int 1)) (zm yc (zf (zd 0) zj)) (mC (.int 8))))))
  (zE (mC (.bl false)))
  zL) (zoo)
def zdK:List PV->Mo PV:=zU 1 1 (zop)
theorem zoq (T:Txt w K mg):FOk P w K mg base "is_word" 1 zdK:=T.f_is_word.ok (k:=0) zon fun f cdv A outer s H E hr =>
  by
 refine zv ?_ ?_
 refine zT ?_ ?_ ?_
 refine jc ?_
 refine j9 ?_ ?_
 refine jr ?_
 refine ya ?_
 refine zY (yD T.is) T.b_isinstance yE ?_
 refine zk ?_ ?_
 exact (zg 0)
 refine zk ?_ ?_
 exact (yC T.b_str wm)
 exact zn
 refine j8 ?_
 refine jr ?_
 refine zfd zbA zbA ?_ ?_ ?_
 exact zu
 refine zY jg T.b_len je ?_
 refine zk ?_ ?_
 exact (zg 0)
 exact zn
 exact (zcY T.c_MOST_SIGNS)
 refine zx ?_
 refine zI ?_
 exact wG
 exact zS
 refine zx ?_
 refine zI ?_
 refine zY (zc5 rfl) T.b_all zc6 ?_
 refine zk ?_ ?_
 refine zad (N:=["thing"]) rfl (by exact ⟨rfl,by decide +kernel,by decide +kernel,rfl,by show ∀y:Str×NameKind,y∈_->y.2=NameKind.free->List.lookup y.1 (zB zbY).names=some NameKind.cell;decide +kernel⟩) rfl (by decide +kernel) ?_ ?_
 refine wg ?_
 exact (zg 0)
 intro _ _ _ _ _
 refine zaG (zfJ (zM hr)) ?_ ?_
 exact (zg 0)
 exact (zcZ T.c_LETTERS)
 exact zn
theorem zgM:FnScope ["self", "word"] ["self"] (zB zds):=⟨rfl,rfl,rfl,by decide +kernel,rfl,by decide +kernel,by decide +kernel⟩
def zor:zc->Mo Fl :=
  (zE (zd 1))
def zos:zc->Mo Fl :=
  zq (zK (yA (mB (zm zdK (zf (zd 1) zj))))
  yN
  zL) (zor)
def zot:zc->Mo Fl :=
  zq (zH 1 (zX "run_of" zcb (zd 0) (zf (mC (.str "abcdefghijklmnopqrstuvwxyz")) zj))) (zos)
def m_ValueReader_read_word:List PV->Mo PV:=zU 1 2 (zot)
theorem zou (T:Txt w K mg):MOk P w K mg base "ValueReader" "read_word" 2 m_ValueReader_read_word:=T.m_ValueReader_read_word.ok (k:=1) zgM fun f cdv A outer s H E hr =>
  by
 refine zv ?_ ?_
 refine zV 1 ?_ ?_
 refine yS (fun c m h=>zgL T h) ?_ (hr.mono (by decide)) zA ?_
 exact (zg 0)
 refine zk ?_ ?_
 exact (zcZ T.c_LETTERS)
 exact zn
 exact zgM.nd
 refine zv ?_ ?_
 refine zT ?_ ?_ ?_
 refine jr ?_
 refine ya ?_
 refine zN (zoq T) (hr.mono (by decide)) zA ?_
 refine zk ?_ ?_
 exact (zg 1)
 exact zn
 refine zx ?_
 exact wj
 exact zS
 refine zx ?_
 refine zI ?_
 exact (zg 1)
def zcc (c:Str):Option (List PV->Mo PV):=if c = "ValueReader" then some m_ValueReader_read_word else none
theorem zgN (T:Txt w K mg) {c:Str} {m:List PV->Mo PV} (h:zcc c=some m):MOk P w K mg base c "read_word" 2 m:=by
 unfold zcc at h
 by_cases e0:c = "ValueReader"
 ·rw [if_pos e0] at h;cases h;rw [e0];exact (zou T).mono (by decide)
 rw [if_neg e0] at h
 cases h
theorem zov:FnScope ["self", "sign"] ["self", "sign"] (zB zdt):=⟨rfl,rfl,rfl,by decide +kernel,rfl,by decide +kernel,by decide +kernel⟩
def zow:zc->Mo Fl :=
  (jM "place" insOf (zd 0) (mC (.int 1)))
def zox:zc->Mo Fl :=
  zq (zK (mB (zh j0 (zX "sign_here" zca (zd 0) zj) (zd 1)))
  yN
  zL) (zow)
def m_ValueReader_pass_sign:List PV->Mo PV:=zU 2 2 (zox)
theorem zoy (T:Txt w K mg):MOk P w K mg base "ValueReader" "pass_sign" 2 m_ValueReader_pass_sign:=T.m_ValueReader_pass_sign.ok (k:=1) zov fun f cdv A outer s H E hr =>
  by
 refine zv ?_ ?_
 refine zT ?_ ?_ ?_
 refine yb (zbD (zM hr)) ?_ ?_
 refine jx (fun c m h=>zgJ T h) ?_ (hr.mono (by decide)) zA
 exact (zg 0)
 exact (zg 1)
 refine zx ?_
 exact wj
 exact zS
 refine zx ?_
 refine zbN T.d_place ?_ ?_
 exact (zg 0)
 exact zu
def zar (c:Str):Option (List PV->Mo PV):=if c = "ValueReader" then some m_ValueReader_pass_sign else none
theorem zdL (T:Txt w K mg) {c:Str} {m:List PV->Mo PV} (h:zar c=some m):MOk P w K mg base c "pass_sign" 2 m:=by
 unfold zar at h
 by_cases e0:c = "ValueReader"
 ·rw [if_pos e0] at h;cases h;rw [e0];exact (zoy T).mono (by decide)
 rw [if_neg e0] at h
 cases h
theorem zgO:FnScope ["self", "row"] ["self"] (zB zdu):=⟨rfl,rfl,rfl,by decide +kernel,rfl,by decide +kernel,by decide +kernel⟩
def zoz (mr:List PV->Mo PV):zc->Mo Fl :=
  (zE (zm wL (zf (zd 1) zj)))
def zoA (mr:List PV->Mo PV):zc->Mo Fl :=
  zq (yY (zX "pass_sign" zar (zd 0) (zf (mC (.str "]")) zj))) (zoz mr)
def zoB (mr:List PV->Mo PV):zc->Mo Fl :=
  zq (zbG (mB (zX "passes" ji (zd 0) (zf (mC (.str ",")) zj)))
  (yY (jJ wR (zd 1) (zX "read_part" (yT "ValueReader" mr) (zd 0) zj)))) (zoA mr)
def zoC (mr:List PV->Mo PV):zc->Mo Fl :=
  zq (zH 1 (jZ (zf (zX "read_part" (yT "ValueReader" mr) (zd 0) zj) zj))) (zoB mr)
def zoD (mr:List PV->Mo PV):zc->Mo Fl :=
  zq (zK (mB (zX "passes" ji (zd 0) (zf (mC (.str "]")) zj)))
  (zE (wa zj))
  zL) (zoC mr)
def m_ValueReader_read_row (mr:List PV->Mo PV):List PV->Mo PV:=zU 1 2 (zoD mr)
theorem zoE (T:Txt w K mg) {k:Nat} (hk:3<=k) {mr:List PV->Mo PV} (hmr:MOk P w K mg base "ValueReader" "read_part" k mr):MOk P w K mg base "ValueReader" "read_row" (k+1) (m_ValueReader_read_row mr):=T.m_ValueReader_read_row.ok (k:=k+0) zgO fun f cdv A outer s H E hr =>
  by
 refine zv ?_ ?_
 refine zT ?_ ?_ ?_
 refine ya ?_
 refine yS (fun c m h=>wy T h) ?_ (hr.mono (by omega)) zA ?_
 exact (zg 0)
 refine zk ?_ ?_
 exact zW
 exact zn
 refine zx ?_
 refine zI ?_
 refine zcL ?_
 exact zn
 exact zS
 refine zv ?_ ?_
 refine zV 1 ?_ ?_
 refine w9 ?_
 refine zk ?_ ?_
 refine jx (fun c m h=>wt hmr h) ?_ (hr.mono (by omega)) zA
 exact (zg 0)
 exact zn
 exact zgO.nd
 refine zv ?_ ?_
 refine zcX (jF rfl rfl) ?_ ?_
 refine ya ?_
 refine yS (fun c m h=>wy T h) ?_ (hr.mono (by omega)) zA ?_
 exact (zg 0)
 refine zk ?_ ?_
 exact zW
 exact zn
 refine zx ?_
 refine wM ?_
 refine zfp ?_ ?_
 exact (zg 1)
 refine jx (fun c m h=>wt hmr h) ?_ (hr.mono (by omega)) zA
 exact (zg 0)
 refine zv ?_ ?_
 refine wM ?_
 refine yS (fun c m h=>zdL T h) ?_ (hr.mono (by omega)) zA ?_
 exact (zg 0)
 refine zk ?_ ?_
 exact zW
 exact zn
 refine zx ?_
 refine zI ?_
 refine j1 zaM T.b_tuple jK ?_
 refine zk ?_ ?_
 exact (zg 1)
 exact zn
theorem zgP:FnScope ["self", "record", "last", "word"] ["self", "record", "last"] (zB zdv):=⟨rfl,rfl,rfl,by decide +kernel,rfl,by decide +kernel,by decide +kernel⟩
def zoF (mr:List PV->Mo PV):zc->Mo Fl :=
  (y0 (zd 1) (zd 3) (zX "read_part" (yT "ValueReader" mr) (zd 0) zj))
def zoG (mr:List PV->Mo PV):zc->Mo Fl :=
  zq (yY (zX "pass_sign" zar (zd 0) (zf (mC (.str ":")) zj))) (zoF mr)
def zoH (mr:List PV->Mo PV):zc->Mo Fl :=
  zq (zK (mB (zh zdk (zd 3) (zd 2)))
  yN
  zL) (zoG mr)
def zoI (mr:List PV->Mo PV):zc->Mo Fl :=
  zq (zH 3 (zX "read_word" zcc (zd 0) zj)) (zoH mr)
def m_ValueReader_read_entry (mr:List PV->Mo PV):List PV->Mo PV:=zU 3 4 (zoI mr)
theorem zgQ (T:Txt w K mg) {k:Nat} (hk:3<=k) {mr:List PV->Mo PV} (hmr:MOk P w K mg base "ValueReader" "read_part" k mr):MOk P w K mg base "ValueReader" "read_entry" (k+1) (m_ValueReader_read_entry mr):=T.m_ValueReader_read_entry.ok (k:=k+0) zgP fun f cdv A outer s H E hr =>
  by
 refine zv ?_ ?_
 refine zV 3 ?_ ?_
 refine jx (fun c m h=>zgN T h) ?_ (hr.mono (by omega)) zA
 exact (zg 0)
 exact zgP.nd
 refine zv ?_ ?_
 refine zT ?_ ?_ ?_
 refine yb znm ?_ ?_
 exact (zg 3)
 exact (zg 2)
 refine zx ?_
 exact wj
 exact zS
 refine zv ?_ ?_
 refine wM ?_
 refine yS (fun c m h=>zdL T h) ?_ (hr.mono (by omega)) zA ?_
 exact (zg 0)
 refine zk ?_ ?_
 exact zW
 exact zn
 refine zx ?_
 refine zbL ?_ ?_ ?_ ?_ ?_
 exact (zM hr)
 exact (zg 1)
 exact (zg 3)
 refine jx (fun c m h=>wt hmr h) ?_ (hr.mono (by omega)) zA
 exact (zg 0)
 rfl
theorem zgR:FnScope ["self", "record"] ["self"] (zB zdw):=⟨rfl,rfl,rfl,by decide +kernel,rfl,by decide +kernel,by decide +kernel⟩
def zoJ (mr:List PV->Mo PV):zc->Mo Fl :=
  (zE (zd 1))
def zoK (mr:List PV->Mo PV):zc->Mo Fl :=
  zq (yY (zX "pass_sign" zar (zd 0) (zf (mC (.str "}")) zj))) (zoJ mr)
def zoL (mr:List PV->Mo PV):zc->Mo Fl :=
  zq (zbG (mB (zX "passes" ji (zd 0) (zf (mC (.str ",")) zj)))
  (yY (zX "read_entry" (yT "ValueReader" (m_ValueReader_read_entry mr)) (zd 0) (zf (zd 1) (zf (zm za2 (zf (zd 1) zj)) zj))))) (zoK mr)
def zoM (mr:List PV->Mo PV):zc->Mo Fl :=
  zq (yY (zX "read_entry" (yT "ValueReader" (m_ValueReader_read_entry mr)) (zd 0) (zf (zd 1) (zf (mC (.str "")) zj)))) (zoL mr)
def zoN (mr:List PV->Mo PV):zc->Mo Fl :=
  zq (zH 1 zab) (zoM mr)
def zoO (mr:List PV->Mo PV):zc->Mo Fl :=
  zq (zK (mB (zX "passes" ji (zd 0) (zf (mC (.str "}")) zj)))
  (zE zab)
  zL) (zoN mr)
def m_ValueReader_read_record (mr:List PV->Mo PV):List PV->Mo PV:=zU 1 2 (zoO mr)
theorem zoP (T:Txt w K mg) {k:Nat} (hk:3<=k) {mr:List PV->Mo PV} (hmr:MOk P w K mg base "ValueReader" "read_part" k mr):MOk P w K mg base "ValueReader" "read_record" (k+2) (m_ValueReader_read_record mr):=T.m_ValueReader_read_record.ok (k:=k+1) zgR fun f cdv A outer s H E hr =>
  by
 refine zv ?_ ?_
 refine zT ?_ ?_ ?_
 refine ya ?_
 refine yS (fun c m h=>wy T h) ?_ (hr.mono (by omega)) zA ?_
 exact (zg 0)
 refine zk ?_ ?_
 exact zW
 exact zn
 refine zx ?_
 refine zI ?_
 exact zaS
 exact zS
 refine zv ?_ ?_
 refine zV 1 ?_ ?_
 exact zaS
 exact zgR.nd
 refine zv ?_ ?_
 refine wM ?_
 refine yS (fun c m h=>wt (zgQ T hk hmr) h) ?_ (hr.mono (by omega)) zA ?_
 exact (zg 0)
 refine zk ?_ ?_
 exact (zg 1)
 refine zk ?_ ?_
 exact zW
 exact zn
 refine zv ?_ ?_
 refine zcX (jF rfl rfl) ?_ ?_
 refine ya ?_
 refine yS (fun c m h=>wy T h) ?_ (hr.mono (by omega)) zA ?_
 exact (zg 0)
 refine zk ?_ ?_
 exact zW
 exact zn
 refine zx ?_
 refine wM ?_
 refine yS (fun c m h=>wt (zgQ T hk hmr) h) ?_ (hr.mono (by omega)) zA ?_
 exact (zg 0)
 refine zk ?_ ?_
 exact (zg 1)
 refine zk ?_ ?_
 refine zY (znj rfl) T.b_max zmj ?_
 refine zk ?_ ?_
 exact (zg 1)
 exact zn
 exact zn
 refine zv ?_ ?_
 refine wM ?_
 refine yS (fun c m h=>zdL T h) ?_ (hr.mono (by omega)) zA ?_
 exact (zg 0)
 refine zk ?_ ?_
 exact zW
 exact zn
 refine zx ?_
 refine zI ?_
 exact (zg 1)
theorem zdM:FnScope ["self", "below", "figures"] ["self"] (zB zdx):=⟨rfl,rfl,rfl,by decide +kernel,rfl,by decide +kernel,by decide +kernel⟩
def zoQ:zc->Mo Fl :=
  (zE (mIf (mB (zd 1)) (yg zbz (zm zan (zf (zd 2) zj))) (zm zan (zf (zd 2) zj))))
def zoR:zc->Mo Fl :=
  zq (zK (jG (mB (zh yq (zh zJ (zd 2) (mC (.int 0))) (mC (.str "0")))) (yR (mB (zd 1)) (mB (zh jw (zm yc (zf (zd 2) zj)) (mC (.int 1))))))
  yN
  zL) (zoQ)
def zoS:zc->Mo Fl :=
  zq (zK (yA (mB (wH we we (mC (.int 1)) (zm yc (zf (zd 2) zj)) (mC (.int 18)))))
  yN
  zL) (zoR)
def zoT:zc->Mo Fl :=
  zq (zH 2 (zX "run_of" zcb (zd 0) (zf (mC (.str "0123456789")) zj))) (zoS)
def zoU:zc->Mo Fl :=
  zq (zH 1 (zX "passes" ji (zd 0) (zf (mC (.str "-")) zj))) (zoT)
def m_ValueReader_read_number:List PV->Mo PV:=zU 1 3 (zoU)
theorem zoV (T:Txt w K mg):MOk P w K mg base "ValueReader" "read_number" 3 m_ValueReader_read_number:=T.m_ValueReader_read_number.ok (k:=2) zdM fun f cdv A outer s H E hr =>
  by
 refine zv ?_ ?_
 refine zV 1 ?_ ?_
 refine yS (fun c m h=>wy T h) ?_ (hr.mono (by decide)) zA ?_
 exact (zg 0)
 refine zk ?_ ?_
 exact zW
 exact zn
 exact zdM.nd
 refine zv ?_ ?_
 refine zV 2 ?_ ?_
 refine yS (fun c m h=>zgL T h) ?_ (hr.mono (by decide)) zA ?_
 exact (zg 0)
 refine zk ?_ ?_
 exact (zcZ T.c_FIGURES)
 exact zn
 exact zdM.nd
 refine zv ?_ ?_
 refine zT ?_ ?_ ?_
 refine jr ?_
 refine zfd zbA zbA ?_ ?_ ?_
 exact zu
 refine zY jg T.b_len je ?_
 refine zk ?_ ?_
 exact (zg 2)
 exact zn
 exact (zcY T.c_MOST_FIGURES)
 refine zx ?_
 exact wj
 exact zS
 refine zv ?_ ?_
 refine zT ?_ ?_ ?_
 refine jc ?_
 refine zbw ?_ ?_
 refine yb (yJ (zM hr)) ?_ ?_
 refine yo ?_ ?_ ?_ ?_
 exact (yr (zM hr))
 exact (zg 2)
 exact zu
 exact fun _ _=>rfl
 exact zW
 refine zbv ?_
 refine jc ?_
 refine j9 ?_ ?_
 refine ya ?_
 exact (zg 1)
 refine j8 ?_
 refine yb zaJ ?_ ?_
 refine zY jg T.b_len je ?_
 refine zk ?_ ?_
 exact (zg 2)
 exact zn
 exact zu
 refine zx ?_
 exact wj
 exact zS
 refine zx ?_
 refine zI ?_
 refine zkV ?_ ?_ ?_
 refine ya ?_
 exact (zg 1)
 refine zfe zfg ?_
 refine j1 zgq T.b_int zbI ?_
 refine zk ?_ ?_
 exact (zg 2)
 exact zn
 refine j1 zgq T.b_int zbI ?_
 refine zk ?_ ?_
 exact (zg 2)
 exact zn
def zdN (c:Str):Option (List PV->Mo PV):=if c = "ValueReader" then some m_ValueReader_read_number else none
theorem zoW (T:Txt w K mg) {c:Str} {m:List PV->Mo PV} (h:zdN c=some m):MOk P w K mg base c "read_number" 3 m:=by
 unfold zdN at h
 by_cases e0:c = "ValueReader"
 ·rw [if_pos e0] at h;cases h;rw [e0];exact (zoV T).mono (by decide)
 rw [if_neg e0] at h
 cases h
theorem zgS:FnScope ["self"] ["self"] (zB zdy):=⟨rfl,rfl,rfl,by decide +kernel,rfl,by decide +kernel,by decide +kernel⟩
def zoX (mr:List PV->Mo PV):zc->Mo Fl :=
  (zE (zX "read_number" zdN (zd 0) zj))
def zoY (mr:List PV->Mo PV):zc->Mo Fl :=
  zq (zK (mB (zX "passes" ji (zd 0) (zf (mC (.str "{")) zj)))
  (zE (zX "read_record" (yT "ValueReader" (m_ValueReader_read_record mr)) (zd 0) zj))
  zL) (zoX mr)
def zoZ (mr:List PV->Mo PV):zc->Mo Fl :=
  zq (zK (mB (zX "passes" ji (zd 0) (zf (mC (.str "[")) zj)))
  (zE (zX "read_row" (yT "ValueReader" (m_ValueReader_read_row mr)) (zd 0) zj))
  zL) (zoY mr)
def zgT (mr:List PV->Mo PV):zc->Mo Fl :=
  zq (zK (mB (zX "passes" ji (zd 0) (zf (mC (.str "'")) zj)))
  (zE (zX "read_word" zcc (zd 0) zj))
  zL) (zoZ mr)
def zo0 (mr:List PV->Mo PV):zc->Mo Fl :=
  zq (zK (mB (zh jw (yg (fldAt "begun" insOf excOf) (zd 0)) (mC (.int 60))))
  yN
  zL) (zgT mr)
def zgU (mr:List PV->Mo PV):zc->Mo Fl :=
  zq (jM "begun" insOf (zd 0) (mC (.int 1))) (zo0 mr)
def m_ValueReader_read_part (mr:List PV->Mo PV):List PV->Mo PV:=zU 1 1 (zgU mr)
theorem zo1 (T:Txt w K mg) {k:Nat} (hk:3<=k) {mr:List PV->Mo PV} (hmr:MOk P w K mg base "ValueReader" "read_part" k mr):MOk P w K mg base "ValueReader" "read_part" (k+3) (m_ValueReader_read_part mr):=T.m_ValueReader_read_part.ok (k:=k+2) zgS fun f cdv A outer s H E hr =>
  by
 refine zv ?_ ?_
 refine zbN T.d_begun ?_ ?_
 exact (zg 0)
 exact zu
 refine zv ?_ ?_
 refine zT ?_ ?_ ?_
 refine yb zaJ ?_ ?_
 refine jd T.d_begun ?_
 exact (zg 0)
 exact (zcY T.c_MOST_PARTS)
 refine zx ?_
 exact wj
 exact zS
 refine zv ?_ ?_
 refine zT ?_ ?_ ?_
 refine ya ?_
 refine yS (fun c m h=>wy T h) ?_ (hr.mono (by omega)) zA ?_
 exact (zg 0)
 refine zk ?_ ?_
 exact zW
 exact zn
 refine zx ?_
 refine zI ?_
 refine jx (fun c m h=>zgN T h) ?_ (hr.mono (by omega)) zA
 exact (zg 0)
 exact zS
 refine zv ?_ ?_
 refine zT ?_ ?_ ?_
 refine ya ?_
 refine yS (fun c m h=>wy T h) ?_ (hr.mono (by omega)) zA ?_
 exact (zg 0)
 refine zk ?_ ?_
 exact zW
 exact zn
 refine zx ?_
 refine zI ?_
 refine jx (fun c m h=>wt (zoE T hk hmr) h) ?_ (hr.mono (by omega)) zA
 exact (zg 0)
 exact zS
 refine zv ?_ ?_
 refine zT ?_ ?_ ?_
 refine ya ?_
 refine yS (fun c m h=>wy T h) ?_ (hr.mono (by omega)) zA ?_
 exact (zg 0)
 refine zk ?_ ?_
 exact zW
 exact zn
 refine zx ?_
 refine zI ?_
 refine jx (fun c m h=>wt (zoP T hk hmr) h) ?_ (hr.mono (by omega)) zA
 exact (zg 0)
 exact zS
 refine zx ?_
 refine zI ?_
 refine jx (fun c m h=>zoW T h) ?_ (hr.mono (by omega)) zA
 exact (zg 0)
def wz:Nat->List PV->Mo PV
 | 0=>zU 1 1 yN
 | n+1=>m_ValueReader_read_part (wz n)
theorem zgV (T:Txt w K mg):∀n,MOk P w K mg base "ValueReader" "read_part" (3+1+3*n) (wz n)
 | 0=>T.m_ValueReader_read_part.ok (k:=3) zgS fun f cdv A outer s H E hr=>zah
 | n+1=>(zo1 T (by omega) (zgV T n)).mono (by omega)
theorem zdO:FnScope ["text", "reader", "value"] ["text"] (zB zdz):=⟨rfl,rfl,rfl,by decide +kernel,rfl,by decide +kernel,by decide +kernel⟩
def zo2:zc->Mo Fl :=
  (zE (zd 2))
def zo3:zc->Mo Fl :=
  zq (zK (mB (zh wJ (yg (fldAt "place" insOf excOf) (zd 1)) (zm yc (zf (zd 0) zj))))
  yN
  zL) (zo2)
def zo4:zc->Mo Fl :=
  zq (zH 2 (zX "read_part" (yT "ValueReader" (wz 61)) (zd 1) zj)) (zo3)
def zo5:zc->Mo Fl :=
  zq (zH 1 (zm (newI "ValueReader" zb9) (zf (zd 0) zj))) (zo4)
def zo6:zc->Mo Fl :=
  zq (zK (yA (mB (zm (yf isT) (zf (zd 0) (zf (mC (.ty "str")) zj)))))
  yN
  zL) (zo5)
def zas:List PV->Mo PV:=zU 1 3 (zo6)
theorem zgW (T:Txt w K mg):FOk P w K mg base "read_value" 188 zas:=T.f_read_value.ok (k:=187) zdO fun f cdv A outer s H E hr =>
  by
 refine zv ?_ ?_
 refine zT ?_ ?_ ?_
 refine jr ?_
 refine ya ?_
 refine zY (yD T.is) T.b_isinstance yE ?_
 refine zk ?_ ?_
 exact (zg 0)
 refine zk ?_ ?_
 exact (yC T.b_str wm)
 exact zn
 refine zx ?_
 exact wj
 exact zS
 refine zv ?_ ?_
 refine zV 1 ?_ ?_
 refine zlj (zoa T) (hr.mono (by decide)) zA ?_
 refine zk ?_ ?_
 exact (zg 0)
 exact zn
 exact zdO.nd
 refine zv ?_ ?_
 refine zV 2 ?_ ?_
 refine jx (fun c m h=>wt (zgV T 61) h) ?_ (hr.mono (by decide)) zA
 exact (zg 1)
 exact zdO.nd
 refine zv ?_ ?_
 refine zT ?_ ?_ ?_
 refine yb zcO ?_ ?_
 refine jd T.d_place ?_
 exact (zg 1)
 refine zY jg T.b_len je ?_
 refine zk ?_ ?_
 exact (zg 0)
 exact zn
 refine zx ?_
 exact wj
 exact zS
 refine zx ?_
 refine zI ?_
 exact (zg 2)
theorem jT:FnScope ["_law_script", "_law_deck_here", "_law_large_here", "_law_one", "_law_other", "_law_kept", "_law_texts", "_law_turn"] ["_law_script"] (zB zbZ):=⟨rfl,rfl,rfl,by decide +kernel,rfl,by decide +kernel,by decide +kernel⟩
def zo7:zc->Mo Fl :=
  (zE (jH (zm (yG 64) (zf (zm (jC 61) (zf (zh zJ (zd 5) (mC (.int 1))) zj)) (zf (zh zJ (zd 6) (mC (.int 1))) zj))) (jH (zm (yG 64) (zf (zd 4) (zf (zh zJ (zd 5) (mC (.int 1))) zj))) (zm (yG 64) (zf (zd 3) (zf (zh zJ (zd 5) (mC (.int 0))) zj))))))
def zo8:zc->Mo Fl :=
  zq (jy (iRng1 (zf (mC (.int 2)) zj)) (gN 7)
  (zq (zK (yR (yA (mB (zm (yG 64) (zf (zm (jC 61) (zf (zd 3) zj)) (zf (zh zJ (zd 6) (mC (.int 0))) zj))))) (yA (mB (zm (yG 64) (zf (zm (jC 61) (zf (zd 4) zj)) (zf (zh zJ (zd 6) (mC (.int 1))) zj))))))
  (zE (mC (.bl false)))
  zL)
  (zq (zK (yR (yA (mB (zm (yG 64) (zf (zm zas (zf (zh zJ (zd 6) (mC (.int 1))) zj)) (zf (zh zJ (zd 5) (mC (.int 1))) zj))))) (yA (mB (zm (yG 64) (zf (zm zas (zf (zh zJ (zd 6) (mC (.int 0))) zj)) (zf (zh zJ (zd 5) (mC (.int 0))) zj))))))
  (zE (mC (.bl false)))
  zL)
  (zH 3 (zh zJ (zd 5) (mC (.int 0))))))) (zo7)
def zo9:zc->Mo Fl :=
  zq (zH 6 (jZ (zf (zm (wu 61) (zf (zd 3) zj)) (zf (zm (wu 61) (zf (zd 4) zj)) zj)))) (zo8)
def zpa:zc->Mo Fl :=
  zq (zH 5 (jZ (zf (zm (jS 61) (zf (zd 3) zj)) (zf (zm (jS 61) (zf (zd 4) zj)) zj)))) (zo9)
def zpb:zc->Mo Fl :=
  zq (zH 4 (zm (yU 5) (zf (zd 1) (zf (mC (.int 3)) zj)))) (zpa)
def zpc:zc->Mo Fl :=
  zq (zK (mB (zd 2))
  (zH 3 (zm zb5 (zf (zd 1) zj)))
  zL) (zpb)
def zpd:zc->Mo Fl :=
  zq (zH 3 (zm (yU 5) (zf (zd 1) (zf (mC (.int 3)) zj)))) (zpc)
def zpe:zc->Mo Fl :=
  zq (zH 2 (zh yq (zm yF (zf (zd 1) (zf (mC (.int 4)) zj))) (mC (.int 1)))) (zpd)
def zpf:zc->Mo Fl :=
  zq (zH 1 (zm zdA (zf (zd 0) zj))) (zpe)
def zgX:List PV->Mo PV:=zU 1 8 (zpf)
theorem zpg (T:Txt w K mg) {f:Addr} {fd:FuncData} (F:Fun K "law" "law" zbZ f fd):FnOk P w K mg base (CXe P w) 189 f fd ["_law_script"] (spM K mg zgX):=zbH (k:=188) F jT fun cdv A outer s H E hr =>
  by
 refine zv ?_ ?_
 refine zV 1 ?_ ?_
 refine zN (znr T) (hr.mono (by decide)) zA ?_
 refine zk ?_ ?_
 exact (zg 0)
 exact zn
 exact jT.nd
 refine zv ?_ ?_
 refine zV 2 ?_ ?_
 refine zaG (yJ (zM hr)) ?_ ?_
 refine zN (y4 T) (hr.mono (by decide)) zA ?_
 refine zk ?_ ?_
 exact (zg 1)
 refine zk ?_ ?_
 exact zu
 exact zn
 exact zu
 exact jT.nd
 refine zv ?_ ?_
 refine zV 3 ?_ ?_
 refine zN (zdD T 5) (hr.mono (by decide)) zA ?_
 refine zk ?_ ?_
 exact (zg 1)
 refine zk ?_ ?_
 exact zu
 exact zn
 exact jT.nd
 refine zv ?_ ?_
 refine zT ?_ ?_ ?_
 refine ya ?_
 exact (zg 2)
 refine zx ?_
 refine zV 3 ?_ ?_
 refine zN (znJ T) (hr.mono (by decide)) zA ?_
 refine zk ?_ ?_
 exact (zg 1)
 exact zn
 exact jT.nd
 exact zS
 refine zv ?_ ?_
 refine zV 4 ?_ ?_
 refine zN (zdD T 5) (hr.mono (by decide)) zA ?_
 refine zk ?_ ?_
 exact (zg 1)
 refine zk ?_ ?_
 exact zu
 exact zn
 exact jT.nd
 refine zv ?_ ?_
 refine zV 5 ?_ ?_
 refine w9 ?_
 refine zk ?_ ?_
 refine zN (zdF T 61) (hr.mono (by decide)) zA ?_
 refine zk ?_ ?_
 exact (zg 3)
 exact zn
 refine zk ?_ ?_
 refine zN (zdF T 61) (hr.mono (by decide)) zA ?_
 refine zk ?_ ?_
 exact (zg 4)
 exact zn
 exact zn
 exact jT.nd
 refine zv ?_ ?_
 refine zV 6 ?_ ?_
 refine w9 ?_
 refine zk ?_ ?_
 refine zN (zdH T 61) (hr.mono (by decide)) zA ?_
 refine zk ?_ ?_
 exact (zg 3)
 exact zn
 refine zk ?_ ?_
 refine zN (zdH T 61) (hr.mono (by decide)) zA ?_
 refine zk ?_ ?_
 exact (zg 4)
 exact zn
 exact zn
 exact jT.nd
 refine zv ?_ ?_
 refine wO (jF rfl rfl) rfl ?_ ?_ ?_
 refine jI T.b_range ?_
 refine zk ?_ ?_
 exact zu
 exact zn
 exact (wN 7 jT.nd)
 refine zv ?_ ?_
 refine zT ?_ ?_ ?_
 refine jc ?_
 refine j9 ?_ ?_
 refine jr ?_
 refine ya ?_
 refine zN (ww T 64) (hr.mono (by decide)) zA ?_
 refine zk ?_ ?_
 refine zN (zb8 T 61) (hr.mono (by decide)) zA ?_
 refine zk ?_ ?_
 exact (zg 3)
 exact zn
 refine zk ?_ ?_
 refine yo ?_ ?_ ?_ ?_
 exact (yr (zM hr))
 exact (zg 6)
 exact zu
 exact fun _ _=>rfl
 exact zn
 refine j8 ?_
 refine jr ?_
 refine ya ?_
 refine zN (ww T 64) (hr.mono (by decide)) zA ?_
 refine zk ?_ ?_
 refine zN (zb8 T 61) (hr.mono (by decide)) zA ?_
 refine zk ?_ ?_
 exact (zg 4)
 exact zn
 refine zk ?_ ?_
 refine yo ?_ ?_ ?_ ?_
 exact (yr (zM hr))
 exact (zg 6)
 exact zu
 exact fun _ _=>rfl
 exact zn
 refine zx ?_
 refine zI ?_
 exact wG
 exact zS
 refine zv ?_ ?_
 refine zT ?_ ?_ ?_
 refine jc ?_
 refine j9 ?_ ?_
 refine jr ?_
 refine ya ?_
 refine zN (ww T 64) (hr.mono (by decide)) zA ?_
 refine zk ?_ ?_
 refine zN (zgW T) (hr.mono (by decide)) zA ?_
 refine zk ?_ ?_
 refine yo ?_ ?_ ?_ ?_
 exact (yr (zM hr))
 exact (zg 6)
 exact zu
 exact fun _ _=>rfl
 exact zn
 refine zk ?_ ?_
 refine yo ?_ ?_ ?_ ?_
 exact (yr (zM hr))
 exact (zg 5)
 exact zu
 exact fun _ _=>rfl
 exact zn
 refine j8 ?_
 refine jr ?_
 refine ya ?_
 refine zN (ww T 64) (hr.mono (by decide)) zA ?_
 refine zk ?_ ?_
 refine zN (zgW T) (hr.mono (by decide)) zA ?_
 refine zk ?_ ?_
 refine yo ?_ ?_ ?_ ?_
 exact (yr (zM hr))
 exact (zg 6)
 exact zu
 exact fun _ _=>rfl
 exact zn
 refine zk ?_ ?_
 refine yo ?_ ?_ ?_ ?_
 exact (yr (zM hr))
 exact (zg 5)
 exact zu
 exact fun _ _=>rfl
 exact zn
 refine zx ?_
 refine zI ?_
 exact wG
 exact zS
 refine zx ?_
 refine zV 3 ?_ ?_
 refine yo ?_ ?_ ?_ ?_
 exact (yr (zM hr))
 exact (zg 5)
 exact zu
 exact fun _ _=>rfl
 exact jT.nd
 refine zx ?_
 refine zI ?_
 refine w8 ?_ ?_
 refine zN (ww T 64) (hr.mono (by decide)) zA ?_
 refine zk ?_ ?_
 refine zN (zb8 T 61) (hr.mono (by decide)) zA ?_
 refine zk ?_ ?_
 refine yo ?_ ?_ ?_ ?_
 exact (yr (zM hr))
 exact (zg 5)
 exact zu
 exact fun _ _=>rfl
 exact zn
 refine zk ?_ ?_
 refine yo ?_ ?_ ?_ ?_
 exact (yr (zM hr))
 exact (zg 6)
 exact zu
 exact fun _ _=>rfl
 exact zn
 refine w8 ?_ ?_
 refine zN (ww T 64) (hr.mono (by decide)) zA ?_
 refine zk ?_ ?_
 exact (zg 4)
 refine zk ?_ ?_
 refine yo ?_ ?_ ?_ ?_
 exact (yr (zM hr))
 exact (zg 5)
 exact zu
 exact fun _ _=>rfl
 exact zn
 refine zbx ?_
 refine zN (ww T 64) (hr.mono (by decide)) zA ?_
 refine zk ?_ ?_
 exact (zg 3)
 refine zk ?_ ?_
 refine yo ?_ ?_ ?_ ?_
 exact (yr (zM hr))
 exact (zg 5)
 exact zu
 exact fun _ _=>rfl
 exact zn
end
theorem zph (i j:Int) (h:0<j):yB i j=i%j:=by unfold yB;rw [if_pos h]
theorem zpi (i j:Int) (h:0<j):ju i j=i/j:=by unfold ju;rw [if_pos h]
inductive Tr where
 | num (i:Int)|word (z:Str)|row (ts:List Tr)|rec_ (ks:List Str) (ts:List Tr)
mutual
def sz:Tr->Nat
 | .num _=>1
 | .word _=>1
 | .row ts=>1+szs ts
 | .rec_ _ ts=>1+szs ts
def szs:List Tr->Nat
 | []=>0
 | t::ts=>sz t+szs ts
end
mutual
def dp:Tr->Nat
 | .num _=>0
 | .word _=>0
 | .row ts=>1+dps ts
 | .rec_ _ ts=>1+dps ts
def dps:List Tr->Nat
 | []=>0
 | t::ts=>max (dp t) (dps ts)
end
mutual
def TR (st:Sto):Tr->PV->Prop
 | .num i,v=>v=.int i
 | .word z,v=>v=.str z/\z.length<=1000
 | .row ts,v=>∃xs,v=.tup xs/\TRs st ts xs
 | .rec_ ks ts,v=>∃n xs,v=.ref n/\st[n]?=some (.dic ks xs)/\ks.Nodup/\ks.length=xs.length/\TRs st ts xs/\∀k∈ks,k.length<=1000
def TRs (st:Sto):List Tr->List PV->Prop
 | [],xs=>xs=[]
 | t::ts,xs=>∃x r,xs=x::r/\TR st t x/\TRs st ts r
end
def Dk (a b:Sto):Prop:=∀(n:Nat) (ks:List Str) (xs:List PV),a[n]?=some (SO.dic ks xs)->b[n]?=some (SO.dic ks xs)
mutual
theorem TR.mono {a b:Sto}(d:Dk a b):∀(t:Tr) {v:PV},TR a t v->TR b t v
 | .num _,_,h=>h
 | .word _,_,h=>h
 | .row ts,_,h=>by obtain ⟨xs,e,r⟩:=h;exact ⟨xs,e,TRs.mono d ts r⟩
 | .rec_ ks ts,_,h=>by obtain ⟨n,xs,e,h1,h2,h3,r,h4⟩:=h;exact ⟨n,xs,e,d _ _ _ h1,h2,h3,TRs.mono d ts r,h4⟩
theorem TRs.mono {a b:Sto}(d:Dk a b):∀(ts:List Tr) {xs:List PV},TRs a ts xs->TRs b ts xs
 | [],_,h=>h
 | t::ts,_,h=>by obtain ⟨x,r,e,h1,h2⟩:=h;exact ⟨x,r,e,TR.mono d t h1,TRs.mono d ts h2⟩
end
theorem TRs.len {st:Sto}:∀{ts:List Tr}{xs:List PV},TRs st ts xs->ts.length=xs.length
 | [],_,h=>by cases h;rfl
 | t::ts,_,h=>by obtain ⟨x,r,rfl,_,h2⟩:=h;simp [TRs.len h2]
theorem TRs.get {st:Sto}:∀{ts:List Tr}{xs:List PV}{i:Nat}{x:PV},TRs st ts xs->xs[i]?=some x->∃t,ts[i]?=some t/\TR st t x
 | [],_,_,_,h,e=>by cases h;simp at e
 | t::ts,_,0,x,h,e=>by obtain ⟨y,r,rfl,h1,_⟩:=h;simp at e;subst e;exact ⟨t,by simp,h1⟩
 | t::ts,_,i+1,x,h,e=>by obtain ⟨y,r,rfl,_,h2⟩:=h;simp at e;simpa using TRs.get h2 e
theorem TRs.append {st:Sto}:∀{ts us:List Tr}{xs ys:List PV},TRs st ts xs->TRs st us ys->TRs st (ts++us) (xs++ys)
 | [],_,_,_,h,h'=>by cases h;exact h'
 | t::ts,_,_,_,h,h'=>by obtain ⟨y,r,rfl,h1,h2⟩:=h;exact ⟨y,r++_,rfl,h1,TRs.append h2 h'⟩
mutual
theorem zdP:∀t:Tr,0<sz t
 | .num _=>by simp [sz]
 | .word _=>by simp [sz]
 | .row ts=>by simp only [sz];omega
 | .rec_ _ ts=>by simp only [sz];omega
end
mutual
theorem zpj:∀t:Tr,dp t<=sz t
 | .num _=>by simp [sz,dp]
 | .word _=>by simp [sz,dp]
 | .row ts=>by have:=dps_szs ts;simp only [sz,dp];omega
 | .rec_ _ ts=>by have:=dps_szs ts;simp only [sz,dp];omega
theorem dps_szs:∀ts:List Tr,dps ts<=szs ts
 | []=>by simp [szs,dps]
 | t::ts=>by have:=zpj t;have:=dps_szs ts;simp only [szs,dps];omega
end
theorem jj:∀{ts:List Tr}{t:Tr},t∈ts->sz t<=szs ts
 | u::ts,t,h=>by
  rcases List.mem_cons.mp h with rfl|h
  ·simp only [szs];omega
  ·have:=jj h;simp only [szs];omega
theorem yV:∀{ts:List Tr}{t:Tr},t∈ts->dp t<=dps ts
 | u::ts,t,h=>by
  rcases List.mem_cons.mp h with rfl|h
  ·simp only [dps];omega
  ·have:=yV h;simp only [dps];omega
def ty:Tr->String
 | .num _ => "int"
 | .word _ => "str"
 | .row _ => "tuple"
 | .rec_ _ _ => "dict"
abbrev abc:Str := "abcdefghijklmnopqrstuvwxyz"
def isW (z:Str):Bool:=decide (1<=z.length)&&decide (z.length<=8)&&z.cps.toList.all fun c=>decide (c∈abc.cps.toList)
theorem zdQ {st:Sto}{t:Tr}{v:PV}(h:TR st t v) (n:String):yf isT [v,.ty n] st=optB (tyb (ty t) n) st:=by
 cases t with
 | num i=>cases h;rfl
 | word z=>obtain ⟨rfl,_⟩:=h;rfl
 | row ts=>obtain ⟨xs,rfl,_⟩:=h;rfl
 | rec_ ks ts =>
  obtain ⟨m,xs,rfl,hm,_⟩:=h
  show isiA isT st (.ty n) (soCls st[m]?) st=_
  rw [hm]
  rfl
@[simp] theorem zqn (b:Bool) (st:Sto):optB (some b) st=.ok (.bl b) st:=(rfl)
theorem t1:tyb "int" "str" = some false:=rfl
theorem t2:tyb "int" "tuple" = some false:=rfl
theorem t3:tyb "int" "dict" = some false:=rfl
theorem t4:tyb "int" "int" = some true:=rfl
theorem t5:tyb "str" "str" = some true:=rfl
theorem t8:tyb "str" "int" = some false:=rfl
theorem t9:tyb "tuple" "str" = some false:=rfl
theorem t10:tyb "tuple" "tuple" = some true:=rfl
theorem t13:tyb "dict" "str" = some false:=rfl
theorem t14:tyb "dict" "tuple" = some false:=rfl
theorem t15:tyb "dict" "dict" = some true:=rfl
theorem t17:tyb "int" "bool" = some false:=rfl
def kn:Tr->Str
 | .num _ => "number"
 | .word _ => "word"
 | .row _ => "row"
 | .rec_ _ _ => "record"
theorem zpp {st:Sto}{t:Tr}{v:PV}(h:TR st t v):wx [v] st=.ok (.str (kn t)) st:=by
 have e:=zdQ h
 cases t<;>simp [wx,zU,zgI,zgH,zgG,zgF,e,ty,t1,t2,t3,t5,t9,t10,t13,t14,t15,kn]
theorem wA:∀ts:List Tr,ts.length<=szs ts
 | []=>by simp [szs]
 | t::ts=>by have:=zdP t;have:=wA ts;simp only [szs,List.length_cons];omega
def Old (a b:Sto):Prop:=∀(n:Nat) so,a[n]?=some so->b[n]?=some so
theorem Old.refl (a:Sto):Old a a:=fun _ _ e=>e
theorem Old.trans {a b c:Sto}(h:Old a b) (h':Old b c):Old a c:=fun n so e=>h' n so (h n so e)
theorem Old.dk {a b:Sto}(h:Old a b):Dk a b:=fun n ks xs e=>h n _ e
theorem zpq {a b:Sto}(h:Pre a b):Old a b:=fun n so e=>h.get e
theorem zZ (a d:Sto):Old a (a++d):=zpq (Pre.of a d)
def Ob (r:Nat) (a b:Sto):Prop:=∀(n:Nat) so,n≠r->a[n]?=some so->b[n]?=some so
theorem Ob.trans {r:Nat}{a b c:Sto}(h:Ob r a b) (h':Ob r b c):Ob r a c:=fun n so ne e=>h' n so ne (h n so ne e)
theorem zgY {r:Nat}{a b:Sto}(h:Old a b):Ob r a b:=fun n so _ e=>h n so e
theorem zgZ (r:Nat) (a:Sto) (so:SO):Ob r a (a.set r so):=fun n s ne e=>by rw [List.getElem?_set_ne (Ne.symm ne)];exact e
mutual
theorem TR.one {st:Sto}:∀(t t':Tr) {v:PV},TR st t v->TR st t' v->t=t'
 | .num i,t',v,h,h'=>by
  cases h
  cases t' with
  | num j=>cases h';rfl
  | word z=>obtain ⟨e,_⟩:=h';cases e
  | row ts=>obtain ⟨_,e,_⟩:=h';cases e
  | rec_ ks ts=>obtain ⟨_,_,e,_⟩:=h';cases e
 | .word z,t',v,h,h'=>by
  obtain ⟨rfl,_⟩:=h
  cases t' with
  | num j=>cases h'
  | word z=>obtain ⟨e,_⟩:=h';cases e;rfl
  | row ts=>obtain ⟨_,e,_⟩:=h';cases e
  | rec_ ks ts=>obtain ⟨_,_,e,_⟩:=h';cases e
 | .row ts,t',v,h,h'=>by
  obtain ⟨xs,rfl,r⟩:=h
  cases t' with
  | num j=>cases h'
  | word z=>obtain ⟨e,_⟩:=h';cases e
  | row us=>obtain ⟨_,e,r'⟩:=h';cases e;rw [TRs.one ts us r r']
  | rec_ ks ts=>obtain ⟨_,_,e,_⟩:=h';cases e
 | .rec_ ks ts,t',v,h,h'=>by
  obtain ⟨n,xs,rfl,g,_,_,r,_⟩:=h
  cases t' with
  | num j=>cases h'
  | word z=>obtain ⟨e,_⟩:=h';cases e
  | row us=>obtain ⟨_,e,r'⟩:=h';cases e
  | rec_ ks' us =>
   obtain ⟨_,_,e,g',_,_,r',_⟩:=h'
   cases e
   rw [g] at g'
   cases g'
   rw [TRs.one ts us r r']
theorem TRs.one {st:Sto}:∀(ts us:List Tr) {xs:List PV},TRs st ts xs->TRs st us xs->ts=us
 | [],us,xs,h,h'=>by
  cases h
  cases us with
  | nil=>rfl
  | cons=>obtain ⟨_,_,e,_⟩:=h';cases e
 | t::ts,us,xs,h,h'=>by
  obtain ⟨x,r,rfl,h1,h2⟩:=h
  cases us with
  | nil=>cases h'
  | cons u us =>
   obtain ⟨_,_,e,g1,g2⟩:=h'
   cases e
   rw [TR.one t u h1 g1,TRs.one ts us h2 g2]
end
theorem zg0 {g:PV->zc->Option zc}{body:zc->Mo Fl}(I:Nat->zc->Sto->Prop) (n:Nat) (hb:∀i e st,i<n->I i e st->∃e1 e2 st2,g (.int i) e=some e1/\body e1 st=.ok (.nx e2) st2/\I (i+1) e2 st2) :
  ∀(k i:Nat) (env:zc) (st:Sto),i+k=n->I i env st->∃env' st',forL g body ((List.range' i k).map fun i:Nat=>PV.int i) env st=.ok (.nx env') st'/\I n env' st'
 | 0,i,env,st,hk,h=>⟨env,st,by simp,by rw [<-hk];exact h⟩
 | k+1,i,env,st,hk,h=>by
  obtain ⟨e1,e2,st2,q1,q2,q3⟩:=hb i env st (by omega) h
  obtain ⟨env',st',r1,r2⟩:=zg0 I n hb k (i+1) e2 st2 (by omega) q3
  refine ⟨env',st',?_,r2⟩
  rw [List.range'_succ,List.map_cons]
  unfold forL
  rw [q1]
  simp only
  rw [q2]
  simp only [zw]
  exact r1
theorem zpr (m:Nat) (st:Sto) (h:m<=1000):wP [.int (m:Int)] st=.ok (.im ((List.range' 0 m).map fun i:Nat=>PV.int i)) st:=by
 have hr:cR (m:Int)=true:=by simp [cR];omega
 simp [hr,nums,List.range_eq_range']
theorem modNat (i:Int) (j:Nat) (h:0<j):∃b:Nat,b<j/\yB i j=b:=by
 have h1:=Int.emod_nonneg i (show (j:Int)≠0 by omega)
 have h2:=Int.emod_lt_of_pos i (show (0:Int)<j by omega)
 exact ⟨(i%j).toNat,by omega,by rw [zph _ _ (by omega)];omega⟩
theorem za8 {st:Sto}{z:Str}:∀{ks:List Str}{ts:List Tr}{xs:List PV}{t:Tr},TRs st ts xs->(ks.zip ts).lookup z=some t->∃y,(ks.zip xs).lookup z=some y/\TR st t y
 | [],_,_,_,_,h=>by simp at h
 | _::_,[],_,_,_,h=>by simp at h
 | k::ks,u::ts,xs,t,r,h=>by
  obtain ⟨y,xs',rfl,r1,r2⟩:=r
  rw [List.zip_cons_cons,List.lookup_cons] at h ⊢
  cases hz:(z==k) with
  | true =>
   rw [hz] at h
   cases h
   exact ⟨y,rfl,r1⟩
  | false =>
   rw [hz] at h
   exact za8 r2 h
theorem yd {st:Sto}{n:Nat}{so:SO}(h:st[n]?=some so):n<st.length:=(List.getElem?_eq_some_iff.mp h).1
theorem za9 {fe:zc->Mo PV}{env:zc}(xs:List PV) (I:Nat->List PV->Sto->Prop) (step:∀i x ys st,xs[i]?=some x->I i ys st->∃y st1,fe (some x::env) st=.ok y st1/\I (i+1) (ys++[y]) st1) :
  ∀(k i:Nat) (ys:List PV) (st:Sto),i+k=xs.length->I i ys st->∃ys' st',compL fe env (xs.drop i) ys st=.ok (.ref st'.length) (st'++[.lst ys'])/\I xs.length ys' st'
 | 0,i,ys,st,hk,h=>⟨ys,st,by rw [List.drop_of_length_le (by omega)];rfl,by rw [<-hk];exact h⟩
 | k+1,i,ys,st,hk,h=>by
  have hx:xs[i]?=some (xs[i]'(by omega)):=List.getElem?_eq_getElem (by omega)
  obtain ⟨y,st1,e,h1⟩:=step i _ ys st hx h
  obtain ⟨ys',st',r,h2⟩:=za9 xs I step k (i+1) (ys++[y]) st1 (by omega) h1
  refine ⟨ys',st',?_,h2⟩
  rw [List.drop_eq_getElem_cons (by omega)]
  unfold compL
  rw [e]
  simp only [zaQ,zw]
  exact r
theorem zdR {fe:zc->Mo PV}{env:zc}{n:Nat}(xs:List PV) (I:Nat->List PV->Sto->Prop) (at_:∀i ys st,I i ys st->st[n]?=some (.lst xs)) (step:∀i x ys st,xs[i]?=some x->I i ys st->∃y st1,fe (some x::env) st=.ok y st1/\I (i+1) (ys++[y]) st1) :
  ∀(k i m:Nat) (ys:List PV) (st:Sto),i+k=xs.length->k<m->I i ys st->∃ys' st',compR fe env n m i ys st=.ok (.ref st'.length) (st'++[.lst ys'])/\I xs.length ys' st'
 | 0,i,m,ys,st,hk,hm,h=>by
  obtain ⟨m,rfl⟩:∃j,m=j+1:=⟨m-1,by omega⟩
  refine ⟨ys,st,?_,by rw [<-hk];exact h⟩
  unfold compR
  rw [yl (at_ _ _ _ h),List.getElem?_eq_none (by omega)]
 | k+1,i,m,ys,st,hk,hm,h=>by
  obtain ⟨m,rfl⟩:∃j,m=j+1:=⟨m-1,by omega⟩
  have hx:xs[i]?=some (xs[i]'(by omega)):=List.getElem?_eq_getElem (by omega)
  obtain ⟨y,st1,e,h1⟩:=step i _ ys st hx h
  obtain ⟨ys',st',r,h2⟩:=zdR xs I at_ step k (i+1) m (ys++[y]) st1 (by omega) (by omega) h1
  refine ⟨ys',st',?_,h2⟩
  unfold compR
  rw [yl (at_ _ _ _ h),hx]
  simp only
  rw [e]
  simp only [zaQ,zw]
  exact r
theorem zg1 {fe:zc->Mo PV}{env:zc}(xs ys:List PV) (hl:xs.length=ys.length) (I:Nat->List PV->Sto->Prop) (step:∀i x y zs st,xs[i]?=some x->ys[i]?=some y->I i zs st->∃z st1,fe (some x::some y::env) st=.ok z st1/\I (i+1) (zs++[z]) st1) :
  ∀(k i:Nat) (zs:List PV) (st:Sto),i+k=ys.length->I i zs st->∃zs' st',jN fe env (((xs.zip ys).map fun p=>PV.tup [p.1,p.2]).drop i) zs st=.ok (.ref st'.length) (st'++[.lst zs'])/\I ys.length zs' st'
 | 0,i,zs,st,hk,h=>⟨zs,st,by rw [List.drop_of_length_le (by simp;omega)];rfl,by rw [<-hk];exact h⟩
 | k+1,i,zs,st,hk,h=>by
  have hx:xs[i]?=some (xs[i]'(by omega)):=List.getElem?_eq_getElem (by omega)
  have hy:ys[i]?=some (ys[i]'(by omega)):=List.getElem?_eq_getElem (by omega)
  obtain ⟨z,st1,e,h1⟩:=step i _ _ zs st hx hy h
  obtain ⟨zs',st',r,h2⟩:=zg1 xs ys hl I step k (i+1) (zs++[z]) st1 (by omega) h1
  refine ⟨zs',st',?_,h2⟩
  rw [List.drop_eq_getElem_cons (by simp;omega)]
  unfold jN
  simp only [List.getElem_map,List.getElem_zip,pairOf]
  rw [e]
  simp only [zaQ,zw]
  exact r
theorem zg2 {fe:zc->Mo PV}{env:zc}(ks:List Str) (I:Nat->List PV->Sto->Prop) (step:∀i k ys st,ks[i]?=some k->I i ys st->∃y st1,fe (some (.str k)::env) st=.ok y st1/\I (i+1) (ys++[y]) st1) :
  ∀(k i:Nat) (ys:List PV) (st:Sto),i+k=ks.length->I i ys st->∃ys' st',compK fe env ((ks.drop i).map PV.str) ys st=.ok ys' st'/\I ks.length ys' st'
 | 0,i,ys,st,hk,h=>⟨ys,st,by rw [List.drop_of_length_le (by omega)];rfl,by rw [<-hk];exact h⟩
 | k+1,i,ys,st,hk,h=>by
  have hx:ks[i]?=some (ks[i]'(by omega)):=List.getElem?_eq_getElem (by omega)
  obtain ⟨y,st1,e,h1⟩:=step i _ ys st hx h
  obtain ⟨ys',st',r,h2⟩:=zg2 ks I step k (i+1) (ys++[y]) st1 (by omega) h1
  refine ⟨ys',st',?_,h2⟩
  rw [List.drop_eq_getElem_cons (by omega),List.map_cons]
  unfold compK
  rw [e]
  simp only [zaQ,zw]
  exact r
inductive Sm:Tr->Tr->Prop
 | num (i:Int):Sm (.num i) (.num i)
 | word (z:Str):Sm (.word z) (.word z)
 | row {ts us:List Tr}:ts.length=us.length->(∀(i:Nat) t u,ts[i]?=some t->us[i]?=some u->Sm t u)->Sm (.row ts) (.row us)
 | rec_ {ks ks':List Str} (f g:Str->Tr):ks.Nodup->ks.Perm ks'->(∀k∈ks,Sm (f k) (g k))->Sm (.rec_ ks (ks.map f)) (.rec_ ks' (ks'.map g))
theorem lkm {k:Str}{α:Type}{f:Str->α}:∀{ks:List Str},k∈ks->(ks.zip (ks.map f)).lookup k=some (f k)
 | z::ks,h=>by
  rw [List.map_cons,List.zip_cons_cons,List.lookup_cons]
  by_cases e:k=z
  ·subst e;simp
  ·rw [show (k==z)=false by simpa using e]
   exact lkm (by simpa [e] using h)
theorem jU {m:Nat}:∀{ts:List Tr},(∀t∈ts,dp t<=m)->dps ts<=m
 | [],_=>by simp [dps]
 | t::ts,h=>by have:=h t (List.mem_cons_self ..);have:=jU (ts:=ts) fun u hu=>h u (List.mem_cons_of_mem _ hu);simp only [dps];omega
theorem Sm.dp {t u:Tr}(h:Sm t u):FK21.dp t=FK21.dp u:=by
 induction h with
 | num=>rfl
 | word=>rfl
 | @row ts us hl _ ih =>
  have a:dps ts<=dps us:=jU fun t ht=>by
   obtain ⟨i,hi,e⟩:=List.getElem_of_mem ht
   have:=ih i t (us[i]'(by omega)) (by rw [List.getElem?_eq_getElem hi,e]) (List.getElem?_eq_getElem (by omega))
   have:=yV (List.getElem_mem (l:=us) (n:=i) (by omega))
   omega
  have b:dps us<=dps ts:=jU fun t ht=>by
   obtain ⟨i,hi,e⟩:=List.getElem_of_mem ht
   have:=ih i (ts[i]'(by omega)) t (List.getElem?_eq_getElem (by omega)) (by rw [List.getElem?_eq_getElem hi,e])
   have:=yV (List.getElem_mem (l:=ts) (n:=i) (by omega))
   omega
  simp only [FK21.dp];omega
 | @rec_ ks ks' f g nd pm _ ih =>
  have a:dps (ks.map f)<=dps (ks'.map g):=jU fun t ht=>by
   obtain ⟨k,hk,rfl⟩:=List.mem_map.mp ht
   have:=ih k hk
   have:=yV (List.mem_map_of_mem (f:=g) (pm.mem_iff.mp hk))
   omega
  have b:dps (ks'.map g)<=dps (ks.map f):=jU fun t ht=>by
   obtain ⟨k,hk,rfl⟩:=List.mem_map.mp ht
   have:=ih k (pm.mem_iff.mpr hk)
   have:=yV (List.mem_map_of_mem (f:=f) (pm.mem_iff.mpr hk))
   omega
  simp only [FK21.dp];omega
def Fz (S:List Nat) (a b:Sto):Prop:=∀(m:Nat) so,m∉S->a[m]?=some so->b[m]?=some so
theorem Fz.old {S:List Nat}{a b c:Sto}(h:Fz S a b) (o:Old b c):Fz S a c:=fun m so n e=>o m so (h m so n e)
theorem allT (n:Nat):(List.replicate n true).all id=true:=by induction n with|zero=>rfl|succ n ih=>simp
theorem zps {st:Sto}{mr:List PV->Mo PV}{xs ys:List PV}(len:xs.length=ys.length) (hl:ys.length<=1000) (hm:∀(i:Nat) x y s,Old st s->xs[i]?=some x->ys[i]?=some y->∃s1,mr [x,y] s=.ok (.bl true) s1/\Old s s1):∃s1,wv mr [.tup xs,.tup ys] st=.ok (.bl true) s1/\Old st s1:=by
 have ex:∀(zs:List PV) t,yf isT [.tup zs,.ty t] st=optB (tyb "tuple" t) st:=fun _ _=>rfl
 obtain ⟨zs',st',R,hz,ho⟩:=zg1 (fe:=(zm mr (zf (zd 0) (zf (zd 1) zj)))) (env:=[some (.tup xs),some (.tup ys)]) xs ys len (fun i zs s=>zs=(List.replicate i true).map PV.bl/\Old st s) (fun i x y zs s hx hy ⟨h1,h2⟩=>by
  obtain ⟨s1,e,o⟩:=hm i x y s h2 hx hy
  refine ⟨.bl true,s1,zt (zG (ze rfl) (ze rfl)) e,?_,h2.trans o⟩
  rw [h1,List.replicate_succ',List.map_append];rfl) ys.length 0 [] st (by omega) ⟨rfl,Old.refl _⟩
 refine ⟨st'++[.lst zs'],?_,ho.trans (zZ _ _)⟩
 have A:=zc8 (st:=st'++[.lst zs']) (n:=st'.length) (bs:=List.replicate ys.length true) (by rw [<-hz];exact z0 _ _)
 rw [allT] at A
 have lens:((xs.length:Int)=(ys.length:Int)):=by omega
 refine zP rfl ?_
 refine zo (zF (zp (zt (zG (ze rfl) rfl) (by rw [ex];rfl)))) ?_
 refine zo (zF (zp (zt (zG (ze rfl) rfl) (by rw [ex];rfl)))) ?_
 refine yi (ye (zp (zt (zG (ze rfl) rfl) (by rw [ex];rfl))) (zo (zF (jP (jh (b:=true) (zp (zt (zG (ze rfl) rfl) (by rw [ex];rfl)))) (zp (zl (zt (zy (ze rfl)) (zgf ..)) (zt (zy (ze rfl)) (zgf ..)) (by rw [zgi,decide_eq_true lens];rfl))))) (zO (zt (zy ?_) A))))
 rw [zmV,zl0,zG (ze rfl) (ze rfl)]
 simp only [zw,zaO,imOf]
 exact (if_pos (by simp [wQ,lim];omega)).trans R
theorem zpt {a st:Sto}{mr:List PV->Mo PV}{ks ks':List Str}{xs ys:List PV}{p q:Nat}{S:List Nat}{f g:Str->Tr}(hp:a[p]?=some (.dic ks xs)) (hq:a[q]?=some (.dic ks' ys)) (tr:TRs a (ks.map f) xs) (tr':TRs a (ks'.map g) ys) (len:ks.length=ks'.length) (ll:ks'.length=ys.length)
  (F:Fz S a st) (np:p∉S) (nq:q∉S) (sub:∀k∈ks',k∈ks)
  (hm:∀k x y s,k∈ks'->Old (st.set q (.fdi ks' ys)) s->TR a (f k) x->TR a (g k) y->∃s1,mr [x,y] s=.ok (.bl true) s1/\Old s s1):∃s1,wv mr [.ref p,.ref q] st=.ok (.bl true) s1/\Old st s1:=by
 have gp:st[p]?=some (.dic ks xs):=F p _ np hp
 have gq:st[q]?=some (.dic ks' ys):=F q _ nq hq
 have hlt:=yd gq
 have hl':=tr'.len
 have gq1:(st.set q (.fdi ks' ys))[q]?=some (.fdi ks' ys):=by rw [List.getElem?_set_self hlt]
 have gp0:(st.set q (.fdi ks' ys))[p]?=some (.fdi ks xs)\/(st.set q (.fdi ks' ys))[p]?=some (.dic ks xs):=by
  by_cases e:q=p
  ·subst e
   rw [gp] at gq
   cases gq
   exact .inl gq1
  ·exact .inr (by rw [List.getElem?_set_ne e];exact gp)
 have id1:∀n,yf isT [.ref q,.ty n] st=optB (tyb "dict" n) st:=fun n=>by
  show isiA isT st _ (soCls st[q]?) st=_
  rw [gq];rfl
 have id2:∀n,yf isT [.ref p,.ty n] st=optB (tyb "dict" n) st:=fun n=>by
  show isiA isT st _ (soCls st[p]?) st=_
  rw [gp];rfl
 have l1:=zge gp
 have l2:=zge gq
 obtain ⟨zs,s',R,hz,ho⟩:=zg2 (fe:=(jH (zh (jO false) (zd 0) (zd 1)) (zm mr (zf (zh y8 (zd 1) (zd 0)) (zf (zh y8 (zd 2) (zd 0)) zj))))) (env:=[some (.ref p),some (.ref q)]) ks' (fun i zs s=>zs=(List.replicate i true).map PV.bl/\Old (st.set q (.fdi ks' ys)) s) (fun i k zs s hk ⟨h1,h2⟩=>by
  have hu:=List.mem_of_getElem? hk
  obtain ⟨y,hy,ty⟩:=za8 tr' (lkm hu)
  obtain ⟨x,hx,tx⟩:=za8 tr (lkm (sub k hu))
  obtain ⟨s1,e,o⟩:=hm k x y s hu h2 tx ty
  have gq2:=h2 _ _ gq1
  have gp1:s[p]?=some (.fdi ks xs)\/s[p]?=some (.dic ks xs):=gp0.imp (fun g=>h2 _ _ g) (fun g=>h2 _ _ g)
  have i1:jO false (.str k) (.ref p) s=.ok (.bl true) s:=by
   rcases gp1 with g|g
   ·simp [jO,g,hx]
   ·simp [jO,g,yK,hx]
  have i2:y8 (.ref p) (.str k) s=.ok x s:=by
   rcases gp1 with g|g
   ·simp [y8,g,hx]
   ·simp [y8,g,zJ,zbK,yp,hx]
  have i3:y8 (.ref q) (.str k) s=.ok y s:=by
   simp [y8,gq2,hy]
  refine ⟨.bl true,s1,zdb (zl (ze rfl) (ze rfl) i1) (zt (zG (zl (ze rfl) (ze rfl) i2) (zl (ze rfl) (ze rfl) i3)) e),?_,h2.trans o⟩
  rw [h1,List.replicate_succ',List.map_append];rfl) ks'.length 0 [] (st.set q (.fdi ks' ys)) (by omega) ⟨rfl,Old.refl _⟩
 have g3:(s'++[SO.lst zs])[q]?=some (.fdi ks' ys):=zZ _ _ _ _ (ho _ _ gq1)
 have hql:q<s'.length:=yd (ho _ _ gq1)
 refine ⟨(s'++[SO.lst zs]).set q (.dic ks' ys),?_,fun m so e=>?_⟩
 ·have A:=zc8 (st:=(s'++[SO.lst zs]).set q (.dic ks' ys)) (n:=s'.length) (bs:=List.replicate ks'.length true) (by rw [<-hz,List.getElem?_set_ne (by omega)];exact z0 _ _)
  rw [allT] at A
  have lens:((ks.length:Int)=(ks'.length:Int)):=by omega
  refine zP rfl ?_
  refine zo (zF (zp (zt (zG (ze rfl) rfl) (by rw [id1];rfl)))) ?_
  refine zo (zF (zp (zt (zG (ze rfl) rfl) (by rw [id1];rfl)))) ?_
  refine zo (zF (zp (zt (zG (ze rfl) rfl) (by rw [id1];rfl)))) ?_
  refine zo (zF (jP (jh (b:=true) (zp (zt (zG (ze rfl) rfl) (by rw [id2];rfl)))) (zp (zl (zt (zy (ze rfl)) l1) (zt (zy (ze rfl)) l2) (by rw [zgi,decide_eq_true lens];rfl))))) (zO (zt (zy ?_) A))
  rw [zmU,ze rfl]
  simp only [zw,zaW,zal gq]
  rw [List.drop_zero] at R
  refine (congrArg (fun r=>(noErr r).bind _) R).trans ?_
  simp only [zaQ,zw,thawM,g3]
 ·by_cases hm:q=m
  ·subst hm
   rw [gq] at e
   cases e
   rw [List.getElem?_set_self (by simp;omega)]
  ·rw [List.getElem?_set_ne hm]
   exact zZ _ _ _ _ (ho m so (by rw [List.getElem?_set_ne hm];exact e))
theorem zcd (n:Nat) (z:Str) (st:Sto):yG (n+1) [.str z,.str z] st=.ok (.bl true) st:=by
 have e:∀t,yf isT [.str z,.ty t] st=optB (tyb "str" t) st:=fun _=>rfl
 have q:wo (.str z) (.str z) st=.ok (.bl true) st:=by
  unfold wo
  rw [show eqT st 150 (.str z) (.str z)=some true by show some (z==z)=_;simp]
 show wv (yG n) [.str z,.str z] st=_
 simp [wv,zU,zdI,zgE,e,t5,t8,optB,q]
theorem zpu {a:Sto}:∀(n:Nat) (t u:Tr) (v w:PV) (S:List Nat) (st:Sto),Sm t u->dp u<n->sz u<=1000->Fz S a st->(∀m∈S,∃u',TR a u' (.ref m)/\dp u<dp u')->TR a t v->TR a u w->∃s1,yG n [v,w] st=.ok (.bl true) s1/\Old st s1:=by
 intro n
 induction n with
 | zero=>intro t u v w S st _ h;omega
 | succ n ih =>
  intro t u v w S st sm hd hz F big tv tw
  have sd:=sm.dp
  show ∃s1,wv (yG n) [v,w] st=_/\_
  cases sm with
  | num i =>
   cases tv;cases tw
   refine ⟨st,?_,Old.refl _⟩
   have e:∀t,yf isT [.int i,.ty t] st=optB (tyb "int" t) st:=fun _=>rfl
   have q:wo (.int i) (.int i) st=.ok (.bl true) st:=by
    unfold wo
    rw [show eqT st 150 (.int i) (.int i)=some true by show some (i==i)=_;simp]
   simp [wv,zU,zdI,e,t4,t17,optB,q]
  | word z =>
   obtain ⟨rfl,_⟩:=tv
   obtain ⟨rfl,_⟩:=tw
   exact ⟨st,zcd n z st,Old.refl _⟩
  | @row ts us hl hs =>
   obtain ⟨xs,rfl,r1⟩:=tv
   obtain ⟨ys,rfl,r2⟩:=tw
   have l1:=r1.len
   have l2:=r2.len
   have hb:=wA us
   simp only [sz] at hz
   simp only [dp] at hd big
   refine zps (by omega) (by omega) fun i x y s os hx hy=>?_
   obtain ⟨c,hc,tx⟩:=r1.get hx
   obtain ⟨c',hc',ty⟩:=r2.get hy
   have hm:=List.mem_of_getElem? hc'
   have hsz:=jj hm
   have hdp:=yV hm
   exact ih c c' _ _ S s (hs i c c' hc hc') (by omega) (by omega) (F.old os) (fun m h=>by
    obtain ⟨u',h1,h2⟩:=big m h
    exact ⟨u',h1,by omega⟩) tx ty
  | @rec_ ks ks' f g nd pm hs =>
   have tv':=tv
   have tw':=tw
   obtain ⟨p,xs,rfl,g1,_,ll,r1,_⟩:=tv
   obtain ⟨q,ys,rfl,g2,_,ll2,r2,_⟩:=tw
   have np:∀m t',dp t'=dp (.rec_ ks' (ks'.map g))->TR a t' (.ref m)->m∉S:=fun m t' e h hm=>by
    obtain ⟨u,hu,hs⟩:=big m hm
    rw [TR.one _ _ h hu] at e
    omega
   refine zpt g1 g2 r1 r2 pm.length_eq ll2 F (np p _ sd tv') (np q _ rfl tw') (fun k h=>pm.mem_iff.mpr h) fun k x y s hk os tx ty=>?_
   have hmem:g k∈ks'.map g:=List.mem_map_of_mem hk
   have hsz:sz (g k)<sz (.rec_ ks' (ks'.map g)):=by
    have:=jj hmem
    simp only [sz];omega
   have hdp:dp (g k)<dp (.rec_ ks' (ks'.map g)):=by
    have:=yV hmem
    simp only [dp];omega
   refine ih (f k) (g k) x y (q::S) s (hs k (pm.mem_iff.mpr hk)) (by omega) (by omega) (fun m so hm e=>os m so ?_) (fun m hm=>?_) tx ty
   ·rw [List.getElem?_set_ne (fun e=>hm (by rw [e];exact List.mem_cons_self ..))]
    exact F m so (fun h=>hm (List.mem_cons_of_mem _ h)) e
   ·rcases List.mem_cons.mp hm with e|e
    ·rw [e];exact ⟨_,tw',hdp⟩
    ·obtain ⟨u',h1,h2⟩:=big m e
     exact ⟨u',h1,by omega⟩
theorem zce {st:Sto}{t u:Tr}{v w:PV}(h:Sm t u) (hd:dp u<64) (hz:sz u<=1000) (tv:TR st t v) (tw:TR st u w):∃s1,yG 64 [v,w] st=.ok (.bl true) s1/\Old st s1:=zpu 64 t u v w [] st h hd hz (fun _ _ _ e=>e) (fun _ h=>nomatch h) tv tw
mutual
def gd:Tr->Prop
 | .num i => -1000000000000000000<i/\i<1000000000000000000
 | .word z=>isW z=true
 | .row ts=>gds ts
 | .rec_ ks ts=>ks.Nodup/\ks.length=ts.length/\(∀k∈ks,isW k=true)/\gds ts
def gds:List Tr->Prop
 | []=>True
 | t::ts=>gd t/\gds ts
end
theorem yH:∀{ts:List Tr},gds ts↔∀t∈ts,gd t
 | []=>by simp [gds]
 | t::ts=>by simp [gds,yH (ts:=ts)]
mutual
def od (so:List Str->List Str):Tr->Tr
 | .num i=>.num i
 | .word z=>.word z
 | .row ts=>.row (ods so ts)
 | .rec_ ks ts=>.rec_ (so ks) ((so ks).map fun k=>((ks.zip (ods so ts)).lookup k).getD (.num 0))
def ods (so:List Str->List Str):List Tr->List Tr
 | []=>[]
 | t::ts=>od so t::ods so ts
end
theorem jk {so:List Str->List Str}:∀ts:List Tr,ods so ts=ts.map (od so)
 | []=>rfl
 | t::ts=>by simp [ods,jk ts]
theorem jD {so:List Str->List Str}{ks:List Str}{f:Str->Tr}(h:∀k∈so ks,k∈ks):od so (.rec_ ks (ks.map f))=.rec_ (so ks) ((so ks).map fun k=>od so (f k)):=by
 simp only [od,jk,List.map_map]
 congr 1
 refine List.map_congr_left fun k hk=>?_
 rw [lkm (h k hk)];rfl
theorem zat:∀{ks:List Str}{ts:List Tr},ks.Nodup->ks.length=ts.length->∃f:Str->Tr,ts=ks.map f
 | [],[],_,_=>⟨fun _=>.num 0,rfl⟩
 | [],_::_,_,h=>by simp at h
 | _::_,[],_,h=>by simp at h
 | k::ks,t::ts,nd,h=>by
  rw [List.nodup_cons] at nd
  obtain ⟨f,e⟩:=zat (ks:=ks) (ts:=ts) nd.2 (by simpa using h)
  refine ⟨fun z=>if z=k then t else f z,?_⟩
  rw [List.map_cons,if_pos rfl,e]
  congr 1
  exact List.map_congr_left fun z hz=>by rw [if_neg];exact fun e=>nd.1 (e▸hz)
theorem zpv {P:Tr->Prop}(hn:∀i,gd (.num i)->P (.num i)) (hw:∀z,isW z=true->P (.word z)) (hr:∀ts,(∀t∈ts,gd t)->(∀t∈ts,P t)->P (.row ts))
  (hf:∀ks f,ks.Nodup->(∀k∈ks,isW k=true)->(∀k∈ks,gd (f k))->(∀k∈ks,P (f k))->P (.rec_ ks (ks.map f))):∀(n:Nat) (t:Tr),sz t<=n->gd t->P t:=by
 intro n
 induction n with
 | zero=>intro t h;have:=zdP t;omega
 | succ n ih =>
  intro t h g
  cases t with
  | num i=>exact hn i g
  | word z=>exact hw z g
  | row ts =>
   simp only [sz] at h
   have g':=yH.mp g
   exact hr ts g' fun u hu=>ih u (by have:=jj hu;omega) (g' u hu)
  | rec_ ks ts =>
   simp only [sz] at h
   obtain ⟨nd,hl,hk,g1⟩:=g
   obtain ⟨f,rfl⟩:=zat nd hl
   have g':=yH.mp g1
   exact hf ks f nd hk (fun k hk=>g' _ (List.mem_map_of_mem hk)) fun k hk=>ih (f k) (by have:=jj (List.mem_map_of_mem (f:=f) hk);omega) (g' _ (List.mem_map_of_mem hk))
theorem zau {P:Tr->Prop}(hn:∀i,gd (.num i)->P (.num i)) (hw:∀z,isW z=true->P (.word z)) (hr:∀ts,(∀t∈ts,gd t)->(∀t∈ts,P t)->P (.row ts))
  (hf:∀ks f,ks.Nodup->(∀k∈ks,isW k=true)->(∀k∈ks,gd (f k))->(∀k∈ks,P (f k))->P (.rec_ ks (ks.map f))) {t:Tr} (g:gd t):P t:=zpv hn hw hr hf (sz t) t (Nat.le_refl _) g
abbrev Pm (so:List Str->List Str):Prop:=∀ks,(so ks).Perm ks
theorem zg3:Pm id:=fun ks=>.refl ks
theorem yu:Pm sortT:=fun ks=>List.mergeSort_perm ks leS
def rv (ks:List Str):List Str:=(sortT ks).reverse
theorem yw:Pm rv:=fun ks=>(List.reverse_perm _).trans (yu ks)
theorem Pm.sub {so:List Str->List Str}(h:Pm so) (ks:List Str):∀k∈so ks,k∈ks:=fun k hk=>(h ks).mem_iff.mp hk
theorem zpw {ks ls:List Str}(h:ks.Perm ls):sortT ks=sortT ls :=
 List.Perm.eq_of_pairwise (le:=fun a b=>leS a b=true) (fun a b _ _ h h'=>zdf h h') (List.pairwise_mergeSort za1 zbS ks) (List.pairwise_mergeSort za1 zbS ls) ((yu ks).trans (h.trans (yu ls).symm))
theorem zcf {so so':List Str->List Str}(h:Pm so) (h':Pm so') {t:Tr}(g:gd t):Sm (od so t) (od so' t):=by
 refine zau (P:=fun t=>Sm (od so t) (od so' t)) (fun i _=>.num i) (fun z _=>.word z) (fun ts _ ih=>?_) (fun ks f nd _ _ ih=>?_) g
 ·simp only [od,jk]
  refine .row (by simp) fun i a b ha hb=>?_
  rw [List.getElem?_map] at ha hb
  cases e:ts[i]? with
  | none=>rw [e] at ha;cases ha
  | some c =>
   rw [e] at ha hb
   cases ha;cases hb
   exact ih c (List.mem_of_getElem? e)
 ·rw [jD (h.sub ks),jD (h'.sub ks)]
  exact .rec_ _ _ ((h ks).nodup_iff.mpr nd) ((h ks).trans (h' ks).symm) fun k hk=>ih k (h.sub ks k hk)
theorem zpx {t:Tr}(g:gd t):od id t=t:=by
 refine zau (P:=fun t=>od id t=t) (fun i _=>rfl) (fun z _=>rfl) (fun ts _ ih=>?_) (fun ks f nd _ _ ih=>?_) g
 ·simp only [od,jk]
  congr 1
  exact (List.map_congr_left ih).trans (List.map_id' ts)
 ·rw [jD (zg3.sub ks)]
  exact congrArg (Tr.rec_ ks) (List.map_congr_left ih)
theorem zdS {so:List Str->List Str}(h:Pm so) {t:Tr}(g:gd t):Sm t (od so t):=by have:=zcf zg3 h g;rwa [zpx g] at this
theorem zg4 {so:List Str->List Str}(h:Pm so) {t:Tr}(g:gd t):dp (od so t)=dp t:=(zdS h g).dp.symm
theorem zdT {ts us:List Tr}(h:ts.Perm us):szs ts=szs us:=by
 induction h with
 | nil=>rfl
 | cons x _ ih=>simp only [szs,ih]
 | swap x y l=>simp only [szs];omega
 | trans _ _ a b=>omega
theorem zdU {f g:α->Tr}:∀{l:List α},(∀x∈l,sz (f x)=sz (g x))->szs (l.map f)=szs (l.map g)
 | [],_=>rfl
 | x::l,h=>by simp only [List.map_cons,szs,h x (List.mem_cons_self ..),zdU (l:=l) fun y hy=>h y (List.mem_cons_of_mem _ hy)]
theorem zdV {so:List Str->List Str}(h:Pm so) {t:Tr}(g:gd t):sz (od so t)=sz t:=by
 refine zau (P:=fun t=>sz (od so t)=sz t) (fun i _=>rfl) (fun z _=>rfl) (fun ts _ ih=>?_) (fun ks f nd _ _ ih=>?_) g
 ·simp only [od,jk,sz]
  have:=zdU (f:=od so) (g:=id) (l:=ts) ih
  rw [List.map_id] at this
  omega
 ·rw [jD (h.sub ks)]
  simp only [sz]
  rw [zdT ((h ks).map _),zdU ih]
theorem zcg {so:List Str->List Str}(h:Pm so) {t:Tr}(g:gd t):gd (od so t):=by
 refine zau (P:=fun t=>gd (od so t)) (fun i g=>g) (fun z g=>g) (fun ts _ ih=>?_) (fun ks f nd hk _ ih=>?_) g
 ·simp only [od,jk]
  exact yH.mpr fun u hu=>by obtain ⟨c,hc,rfl⟩:=List.mem_map.mp hu;exact ih c hc
 ·rw [jD (h.sub ks)]
  exact ⟨(h ks).nodup_iff.mpr nd,by simp,fun k hk'=>hk k (h.sub ks k hk'),yH.mpr fun u hu=>by obtain ⟨c,hc,rfl⟩:=List.mem_map.mp hu;exact ih c (h.sub ks c hc)⟩
abbrev cn:Tr->Tr:=od sortT
theorem zg5 {so:List Str->List Str}(h:Pm so) {t:Tr}(g:gd t):cn (od so t)=cn t:=by
 refine zau (P:=fun t=>cn (od so t)=cn t) (fun i _=>rfl) (fun z _=>rfl) (fun ts _ ih=>?_) (fun ks f nd _ _ ih=>?_) g
 ·simp only [od,jk,List.map_map]
  congr 1
  exact List.map_congr_left ih
 ·rw [jD (h.sub ks),cn,jD (yu.sub _),jD (yu.sub _),zpw (h ks)]
  congr 1
  exact List.map_congr_left fun k hk=>ih k (yu.sub ks k hk)
theorem zch {m:Nat}(h:10<=m):Nat.toDigits 10 m=Nat.toDigits 10 (m/10)++[Nat.digitChar (m%10)]:=by
 have hm:m%10<10:=Nat.mod_lt m (by decide)
 have glue:=Nat.toDigits_append_toDigits (b:=10) (n:=m/10) (d:=m%10) (by decide) (by omega) hm
 rw [Nat.div_add_mod,Nat.toDigits_of_lt_base hm] at glue
 exact glue.symm
theorem zg6:∀(k m:Nat),m<10 ^ (k+1)->(Nat.toDigits 10 m).length<=k+1
 | 0,m,h=>by
  rw [Nat.toDigits_of_lt_base (by omega)]
  exact Nat.le_refl _
 | k+1,m,h=>by
  by_cases hm:m<10
  ·rw [Nat.toDigits_of_lt_base hm]
   show 1<=_
   omega
  ·rw [zch (by omega),List.length_append,List.length_singleton]
   have e:10 ^ (k+1+1)=10 ^ (k+1)*10:=Nat.pow_succ ..
   have:=zg6 k (m/10) (by omega)
   omega
theorem zpy (m:Nat):Nat.toDigits 10 m≠[]:=by
 by_cases hm:m<10
 ·rw [Nat.toDigits_of_lt_base hm]
  exact List.cons_ne_nil _ _
 ·rw [zch (by omega)]
  simp
theorem zpz:∀(m:Nat),0<m->∃c r,Nat.toDigits 10 m=c::r/\c.toNat≠48:=by
 intro m
 induction m using Nat.strongRecOn with
 | _ m ih =>
  intro h
  by_cases hm:m<10
  ·rw [Nat.toDigits_of_lt_base hm]
   refine ⟨_,_,rfl,?_⟩
   have:∀d:Nat,d<10->0<d->(Nat.digitChar d).toNat≠48:=by decide
   exact this m hm h
  ·obtain ⟨c,r,e,n⟩:=ih (m/10) (by omega) (by omega)
   rw [zch (by omega),e]
   exact ⟨c,r++[Nat.digitChar (m%10)],rfl,n⟩
def dg (m:Nat):List Nat:=(Nat.toDigits 10 m).map Char.toNat
theorem zpA (m:Nat):∀c∈Nat.toDigits 10 m,48<=c.toNat/\c.toNat<=57:=by
 induction m using Nat.strongRecOn with
 | _ m ih =>
  by_cases hm:m<10
  ·rw [Nat.toDigits_of_lt_base hm]
   intro c hc
   have e:c=Nat.digitChar m:=by simpa using hc
   subst e
   have:∀d:Nat,d<10->48<=(Nat.digitChar d).toNat/\(Nat.digitChar d).toNat<=57:=by decide
   exact this m hm
  ·rw [zch (by omega)]
   intro c hc
   rcases List.mem_append.mp hc with q|q
   ·exact ih (m/10) (by omega) c q
   ·have e:c=Nat.digitChar (m%10):=by simpa using q
    subst e
    have:∀d:Nat,d<10->48<=(Nat.digitChar d).toNat/\(Nat.digitChar d).toNat<=57:=by decide
    exact this (m%10) (Nat.mod_lt m (by decide))
theorem zba (m:Nat):∀c∈dg m,48<=c/\c<=57:=fun c hc=>by
 obtain ⟨d,hd,e⟩:=List.mem_map.mp hc
 rw [<-e]
 exact zpA m d hd
theorem zci (m:Nat):1<=(dg m).length:=by
 unfold dg
 rw [List.length_map]
 have:=zpy m
 cases e:Nat.toDigits 10 m with
 | nil=>exact absurd e this
 | cons a b=>simp
theorem zcj {m:Nat}(h:m<10 ^ 18):(dg m).length<=18:=by
 unfold dg
 rw [List.length_map]
 exact zg6 17 m h
theorem zg7:dg 0=[48]:=by decide
theorem zg8 {m:Nat}(h:0<m):∃c r,dg m=c::r/\c≠48:=by
 obtain ⟨c,r,e,n⟩:=zpz m h
 exact ⟨c.toNat,r.map Char.toNat,by unfold dg;rw [e];rfl,n⟩
def sgn (n:Int):List Nat:=if n<0 then 45::dg n.natAbs else dg n.natAbs
theorem zpB (s:String):(Str.ofString s).cps.toList=s.toList.map Char.toNat:=by
 simp only [Str.ofString_eq_toList,List.toList_toArray]
theorem zpC (n:Int):(Str.ofString (toString n)).cps.toList=sgn n:=by
 rw [zpB]
 unfold sgn
 cases n with
 | ofNat m =>
  rw [if_neg (show ¬(Int.ofNat m<0) from Int.not_lt.mpr (Int.natCast_nonneg m))]
  show (Nat.repr m).toList.map Char.toNat=dg m
  rw [Nat.toList_repr]
  rfl
 | negSucc m =>
  rw [if_pos (by omega)]
  show ("-" ++ Nat.repr (m+1)).toList.map Char.toNat=45::dg (m+1)
  rw [String.toList_append,Nat.toList_repr]
  rfl
theorem zpD {m:Nat}(h:m<10 ^ 18):PySem.intText? (⟨(dg m).toArray⟩:Str)=some (m:Int):=by
 have hl:(⟨(dg m).toArray⟩:Str).length=(dg m).length:=by show (dg m).toArray.size=_;rw [List.size_toArray]
 have hc:(⟨(dg m).toArray⟩:Str).cps.toList=dg m:=List.toList_toArray
 have h18:=zcj h
 have e:=PySem.intText_digits (x:=(⟨(dg m).toArray⟩:Str)) (by rw [hc];exact fun c hc'=>zba m c hc') (by
  rw [hc]
  intro z
  have:=zci m
  rw [z] at this
  exact absurd this (by decide)) (by rw [hl];omega)
 rw [hc] at e
 rw [e]
 exact congrArg (fun k:Nat=>some (k:Int)) (PySem.W.KIN.val_back m)
abbrev S (l:List Nat):Str:=⟨l.toArray⟩
theorem zav (z:Str):S z.cps.toList=z:=by cases z;simp [S]
theorem yP (l:List Nat):(S l).length=l.length:=by show l.toArray.size=_;simp
theorem jE (a b:List Nat):S a++S b=S (a++b):=by
 rw [<-zav (S a++S b),PySem.Str.cps_append]
 congr 1
 simp [S]
theorem zg9 (z:Str) (b:List Nat):z++S b=S (z.cps.toList++b):=by rw [<-jE,zav]
def jt:List (List Nat)->List Nat
 | []=>[]
 | x::xs=>44::(x++jt xs)
def jn:List (List Nat)->List Nat
 | []=>[]
 | x::xs=>x++jt xs
theorem zpE (ls:List (List Nat)):PySem.Txt.join ("," : Str) (ls.map S)=S (jn ls):=by
 show PySem.Builtin.Str.glued ("," : Str) (ls.map S)=_
 rw [PySem.StrLaws.glued_eq_join]
 have e0:("," : Str)=S [44]:=by decide +kernel
 rw [e0]
 induction ls with
 | nil=>rfl
 | cons c r ih =>
  cases r with
  | nil=>show S c=_;simp [jn,jt]
  | cons d r' =>
   show S c++S [44]++Str.join (S [44]) ((d::r').map S)=_
   rw [ih,jE,jE]
   simp [jn,jt]
def ent (k:Str) (c:List Nat):List Nat:=k.cps.toList++58::c
mutual
def tx:Tr->List Nat
 | .num i=>sgn i
 | .word z=>39::z.cps.toList
 | .row ts=>91::(jn (txs ts)++[93])
 | .rec_ ks ts=>123::(jn (List.zipWith ent ks (txs ts))++[125])
def txs:List Tr->List (List Nat)
 | []=>[]
 | t::ts=>tx t::txs ts
end
theorem zdW:∀ts:List Tr,txs ts=ts.map tx
 | []=>rfl
 | t::ts=>by simp [txs,zdW ts]
theorem zck (ts:List Tr):tx (.row ts)=91::(jn (ts.map tx)++[93]):=by simp only [tx,zdW]
theorem zha {f:Str->List Nat}:∀ks:List Str,List.zipWith ent ks (ks.map f)=ks.map fun k=>ent k (f k)
 | []=>rfl
 | k::ks=>by simp [zha ks]
theorem zhb (ks:List Str) (f:Str->Tr):tx (.rec_ ks (ks.map f))=123::(jn (ks.map fun k=>ent k (tx (f k)))++[125]):=by
 simp only [tx,zdW,List.map_map,zha];rfl
theorem y6 {z:Str}(h:isW z=true):1<=z.length/\z.length<=8:=by
 simp only [isW,Bool.and_eq_true,decide_eq_true_eq] at h;exact h.1
theorem zpF {i:Int}(h:gd (.num i)):(sgn i).length<=19:=by
 have g : -1000000000000000000<i/\i<1000000000000000000:=h
 have:=zcj (m:=i.natAbs) (by omega)
 unfold sgn
 split
 ·simp only [List.length_cons];omega
 ·omega
theorem zhc:∀{α:Type}{l:List α}{f:α->List Nat}{g:α->Nat},(∀x∈l,(f x).length+1<=g x)->(jt (l.map f)).length<=(l.map g).sum
 | _,[],_,_,_=>by simp [jt]
 | _,x::l,f,g,h=>by
  have:=h x (List.mem_cons_self ..)
  have:=zhc (l:=l) (f:=f) (g:=g) fun y hy=>h y (List.mem_cons_of_mem _ hy)
  simp only [List.map_cons,jt,List.length_cons,List.length_append,List.sum_cons];omega
theorem zcl {α:Type}{l:List α}{f:α->List Nat}{g:α->Nat}(h:∀x∈l,(f x).length+1<=g x):(jn (l.map f)).length<=(l.map g).sum:=by
 have:=zhc h
 cases l with
 | nil=>simp [jn]
 | cons x l=>simp only [List.map_cons,jn,jt,List.length_cons,List.length_append] at this ⊢;omega
theorem zbb:∀ts:List Tr,(ts.map fun t=>30*sz t).sum=30*szs ts
 | []=>rfl
 | t::ts=>by simp only [List.map_cons,List.sum_cons,szs,zbb ts];omega
theorem zpG {t:Tr}(g:gd t):(tx t).length+11<=30*sz t:=by
 refine zau (P:=fun t=>(tx t).length+11<=30*sz t) (fun i g=>?_) (fun z g=>?_) (fun ts _ ih=>?_) (fun ks f nd hk _ ih=>?_) g
 ·have:=zpF g
  simp only [tx,sz];omega
 ·have:=y6 g
  have e:z.cps.toList.length=z.length:=by cases z;simp [Str.length]
  simp only [tx,sz,List.length_cons];omega
 ·have:=zcl (l:=ts) (f:=tx) (g:=fun t=>30*sz t) fun t ht=>by have:=ih t ht;omega
  rw [zbb] at this
  rw [zck]
  simp only [sz,List.length_cons,List.length_append,List.length_nil];omega
 ·have:=zcl (l:=ks) (f:=fun k=>ent k (tx (f k))) (g:=fun k=>30*sz (f k)) fun k h=>by
   have:=ih k h
   have:=y6 (hk k h)
   have e:k.cps.toList.length=k.length:=by cases k;simp [Str.length]
   simp only [ent,List.length_append,List.length_cons];omega
  have e:=zbb (ks.map f)
  rw [List.map_map] at e
  have e':(ks.map fun k=>30*sz (f k)).sum=30*szs (ks.map f):=e
  rw [zhb]
  simp only [sz,List.length_cons,List.length_append,List.length_nil];omega
theorem ad (x y:Str) (h:x.length+y.length<=1000000) (st:Sto):zR (.str x) (.str y) st=.ok (.str (x++y)) st:=by
 rw [zlR,if_pos h]
theorem zhd:∀ls:List (List Nat),strsOf (ls.map fun l=>PV.str (S l))=some (ls.map S)
 | []=>rfl
 | l::ls=>by simp [strsOf,zhd ls]
theorem zhe:∀ls:List (List Nat),((ls.map S).map (·.length)).sum+ls.length<=(jt ls).length
 | []=>by simp [jt]
 | l::ls=>by
  have:=zhe ls
  have:=yP l
  simp only [List.map_cons,List.sum_cons,List.length_cons,jt,List.length_append];omega
theorem zpH (ls:List (List Nat)):(jt ls).length<=(jn ls).length+1:=by cases ls<;>simp [jt,jn]
theorem glue {fa:zc->Mo PV}{e:zc}{st s1:Sto}{r:Nat}{ls:List (List Nat)}{a b:Str}{ca cb:Nat}(h:fa e st=.ok (.ref r) s1) (hr:s1[r]?=some (.lst (ls.map fun l=>PV.str (S l)))) (hl:(jn ls).length<=5000) (ea:a=S [ca]) (eb:b=S [cb]) :
  (zh zR (zh zR (mC (.str a)) (jR (mC (.str ",")) fa)) (mC (.str b))) e st=.ok (.str (S (ca::(jn ls++[cb])))) s1:=by
 have hs:=zhe ls
 have hj:=zpH ls
 have J:(jR (mC (.str ",")) fa) e st=.ok (.str (S (jn ls))) s1:=by
  show (fa e st).bind _=_
  rw [h,zw]
  show z9 s1 r _=_
  rw [yl hr,zhd]
  have l1:("," : Str).length=1:=by decide +kernel
  simp only [List.length_map,l1]
  rw [if_pos (by omega),zpE]
 subst ea eb
 have la:=yP [ca]
 have lb:=yP [cb]
 have lj:=yP (jn ls)
 refine zl (zl rfl J (ad _ _ (by rw [la,lj];simp;omega) _)) rfl ?_
 rw [ad _ _ (by rw [jE,yP,lb];simp;omega),jE,jE]
 simp
theorem TR.old {a b:Sto}(o:Old a b) {t:Tr}{v:PV}(h:TR a t v):TR b t v:=h.mono o.dk t
theorem zbc {α:Type}{l:List α}{i:Nat}{x:α}(h:l[i]?=some x):l.take (i+1)=l.take i++[x]:=by
 obtain ⟨hi,e⟩:=List.getElem?_eq_some_iff.mp h
 rw [<-e,List.take_append_getElem]
theorem zcm {t:Tr}(g:gd t):(tx (cn t)).length+11<=30*sz t:=by have:=zpG (zcg yu g);rw [zdV yu g] at this;exact this
def Tells (mr:List PV->Mo PV) (t:Tr):Prop:=∀s v,TR s t v->∃s1,mr [v] s=.ok (.str (S (tx (cn t)))) s1/\Old s s1
theorem rowT {mr:List PV->Mo PV}{st:Sto}{xs:List PV}{ts:List Tr}{e:zc}(tr:TRs st ts xs) (gs:∀t∈ts,gd t) (hz:szs ts<=60) (hm:∀t∈ts,Tells mr t) :
  ∃s1,(zh zR (zh zR (mC (.str "[")) (jR (mC (.str ",")) (yt (yM (zd 0)) (zm mr (zf (zd 0) zj))))) (mC (.str "]"))) (some (.tup xs)::e) st=.ok (.str (S (tx (cn (.row ts))))) s1/\Old st s1:=by
 have hl:=tr.len
 obtain ⟨ys,s1,R,hy,o⟩:=za9 (fe:=zm mr (zf (zd 0) zj)) (env:=some (.tup xs)::e) xs (fun i ys s=>ys=((ts.take i).map fun t=>PV.str (S (tx (cn t))))/\Old st s) (fun i x ys s hx ⟨h1,h2⟩=>by
  obtain ⟨t,ht,tx_⟩:=tr.get hx
  obtain ⟨s1,e1,o1⟩:=hm t (List.mem_of_getElem? ht) s x (TR.old h2 tx_)
  refine ⟨_,s1,zt (zy (ze rfl)) e1,?_,h2.trans o1⟩
  rw [h1,zbc ht,List.map_append];rfl) xs.length 0 [] st (by omega) ⟨rfl,Old.refl _⟩
 have hn:=wA ts
 refine ⟨s1++[.lst ys],?_,o.trans (zZ _ _)⟩
 have C:(yt (yM (zd 0)) (zm mr (zf (zd 0) zj))) (some (.tup xs)::e) st=.ok (.ref s1.length) (s1++[.lst ys]):=by
  rw [zag]
  show compS _ _ (.im xs) st=_
  rw [zbP,if_pos (by simp [lim];omega)]
  exact R
 have G:=glue (ls:=ts.map fun t=>tx (cn t)) (a := "[") (b := "]") (ca:=91) (cb:=93) C (by rw [z0,hy,<-hl,List.take_length,List.map_map];rfl) (by
  have:=zcl (l:=ts) (f:=fun t=>tx (cn t)) (g:=fun t=>30*sz t) fun t ht=>by
   have:=zcm (gs t ht);omega
  rw [zbb] at this;omega) (by decide +kernel) (by decide +kernel)
 rw [G]
 simp only [cn,od,jk,zck,List.map_map]
 rfl
theorem recC {mr:List PV->Mo PV}{st:Sto}{q:Nat}{xs:List PV}{ks:List Str}{f:Str->Tr}{e:zc}(hq:st[q]?=some (.dic ks xs)) (tr:TRs st (ks.map f) xs) (hw:∀k∈ks,isW k=true) (gs:∀k∈ks,gd (f k)) (hz:szs (ks.map f)<=60) (hm:∀k∈ks,Tells mr (f k)) :
  ∃s1 r,(yt (yM (zm wV (zf (zd 0) zj))) (zh zR (zh zR (zd 0) (mC (.str ":"))) (zm mr (zf (zh zJ (zd 1) (zd 0)) zj)))) (some (.ref q)::e) st=.ok (.ref r) s1/\s1[r]?=some (.lst (((sortT ks).map fun k=>ent k (tx (cn (f k)))).map fun l=>PV.str (S l)))/\Old st s1:=by
 have hl:=tr.len
 have hn:=wA (ks.map f)
 rw [List.length_map] at hl hn
 have so:wV [.ref q] st=.ok (.ref st.length) (st++[.lst ((sortT ks).map PV.str)]):=by
  show yp st q _=_
  rw [zal hq,if_pos (by omega)]
 have ls:(sortT ks).length=ks.length:=(yu ks).length_eq
 obtain ⟨ys,s1,R,hy,o,ha⟩:=zdR (fe:=(zh zR (zh zR (zd 0) (mC (.str ":"))) (zm mr (zf (zh zJ (zd 1) (zd 0)) zj)))) (env:=some (.ref q)::e) (n:=st.length) ((sortT ks).map PV.str) (fun i ys s=>ys=(((sortT ks).take i).map fun k=>PV.str (S (ent k (tx (cn (f k))))))/\Old st s/\s[st.length]?=some (.lst ((sortT ks).map PV.str))) (fun i ys s h=>h.2.2) (fun i x ys s hx ⟨h1,h2,h3⟩=>by
  rw [List.getElem?_map] at hx
  cases hk:(sortT ks)[i]? with
  | none=>rw [hk] at hx;cases hx
  | some k =>
   rw [hk] at hx
   cases hx
   have km:=yu.sub ks k (List.mem_of_getElem? hk)
   obtain ⟨y,hy,ty⟩:=za8 tr (lkm km)
   obtain ⟨s1,e1,o1⟩:=hm k km s y (TR.old h2 ty)
   have ix:zJ (.ref q) (.str k) s=.ok y s:=by simp [zJ,zbK,yp,h2 _ _ hq,hy]
   have lk:=y6 (hw k km)
   have lt:=zcm (gs k km)
   have lz:=jj (List.mem_map_of_mem (f:=f) km)
   have c1:(":" : Str)=S [58]:=by decide +kernel
   have c2:(":" : Str).length=1:=by decide +kernel
   refine ⟨_,s1,zl (zl (ze rfl) rfl (ad _ _ (by rw [c2];omega) _)) (zt (zy (zl (ze rfl) (ze rfl) ix)) e1) (ad _ _ (by
    rw [c1,zg9,yP,yP]
    have e:k.cps.toList.length=k.length:=by cases k;simp [Str.length]
    simp only [List.length_append,List.length_singleton];omega) _),?_,h2.trans o1,o1 _ _ h3⟩
   rw [h1,zbc hk,List.map_append,c1,zg9,jE]
   simp [ent]) (sortT ks).length 0 (lim+1) [] (st++[.lst ((sortT ks).map PV.str)]) (by simp) (by simp [lim];omega) ⟨rfl,zZ _ _,z0 _ _⟩
 refine ⟨s1++[.lst ys],s1.length,?_,?_,o.trans (zZ _ _)⟩
 ·rw [zag]
  show ((zm wV (zf (zd 0) zj) (some (.ref q)::e) st).bind _).bind _=_
  rw [zt (zy (ze rfl)) so]
  simp only [zw,seqOf]
  rw [yl (z0 _ _)]
  exact R
 ·rw [z0,hy,List.length_map,List.take_length,List.map_map];rfl
theorem recL {ks:List Str}{f:Str->Tr}(hw:∀k∈ks,isW k=true) (gs:∀k∈ks,gd (f k)) (hz:szs (ks.map f)<=60):(jn ((sortT ks).map fun k=>ent k (tx (cn (f k))))).length<=5000:=by
 have:=zcl (l:=sortT ks) (f:=fun k=>ent k (tx (cn (f k)))) (g:=fun k=>30*sz (f k)) fun k hk=>by
  have km:=yu.sub ks k hk
  have h1:=zcm (gs k km)
  have h2:=y6 (hw k km)
  have e:k.cps.toList.length=k.length:=by cases k;simp [Str.length]
  simp only [ent,List.length_append,List.length_cons];omega
 have e:((sortT ks).map fun k=>30*sz (f k)).sum=30*szs ((sortT ks).map f):=by rw [<-zbb,List.map_map];rfl
 rw [e,zdT ((yu ks).map f)] at this
 omega
theorem zcn (ks:List Str) (f:Str->Tr):tx (cn (.rec_ ks (ks.map f)))=123::(jn ((sortT ks).map fun k=>ent k (tx (cn (f k))))++[125]):=by
 rw [cn,jD (yu.sub ks),zhb]
theorem zpI (i:Int):(Str.ofString (toString i))=S (sgn i):=by rw [<-zpC,zav]
theorem zhf {i:Int}(h:gd (.num i)) (st:Sto):zaf [.int i] st=.ok (.str (S (sgn i))) st:=by
 have g : -1000000000000000000<i/\i<1000000000000000000:=h
 rw [zmf,if_pos]
 ·rw [<-zpI]
 ·by_cases h0:i.natAbs=0
  ·rw [h0];decide
  ·have:=(Nat.log2_lt h0 (k:=1920)).mpr (Nat.lt_of_lt_of_le (show i.natAbs<2 ^ 60 by omega) (Nat.pow_le_pow_right (by decide) (by decide)))
   exact this
theorem zhg {z:Str} (h:isW z=true) (st:Sto):zR (.str "'") (.str z) st=.ok (.str (S (39::z.cps.toList))) st:=by
 have c1:("'" : Str)=S [39]:=by decide +kernel
 have c2:("'" : Str).length=1:=by decide +kernel
 have:=y6 h
 rw [ad _ _ (by rw [c2];omega),c1,<-zav z,jE,zav]
 rfl
theorem zhh:∀(n:Nat) (t:Tr),dp t<n->sz t<=60->gd t->Tells (wu n) t:=by
 intro n
 induction n with
 | zero=>intro t h;omega
 | succ n ih =>
  intro t hd hz g st v tv
  have is:=zdQ tv
  show ∃s1,zdG (wu n) [v] st=_/\_
  cases t with
  | num i =>
   cases tv
   exact ⟨st,zP rfl (zo (zF (zp (zt (zG (ze rfl) rfl) (is "str")))) (zo (zF (zp (zt (zG (ze rfl) rfl) (is "tuple")))) (zo (zF (zp (zt (zG (ze rfl) rfl) (is "dict")))) (zO (zt (zy (ze rfl)) (zhf g st)))))),Old.refl _⟩
  | word z =>
   obtain ⟨rfl,_⟩:=tv
   exact ⟨st,zP rfl (yi (ye (zp (zt (zG (ze rfl) rfl) (is "str"))) (zO (zl rfl (ze rfl) (zhg g st))))),Old.refl _⟩
  | row ts =>
   obtain ⟨xs,rfl,r1⟩:=tv
   simp only [sz] at hz
   simp only [dp] at hd
   have g':=yH.mp g
   obtain ⟨s1,e,o⟩:=rowT (mr:=wu n) (e:=[]) r1 g' (by omega) fun t ht=>ih t (by have:=yV ht;omega) (by have:=jj ht;omega) (g' t ht)
   exact ⟨s1,zP rfl (zo (zF (zp (zt (zG (ze rfl) rfl) (is "str")))) (yi (ye (zp (zt (zG (ze rfl) rfl) (is "tuple"))) (zO e)))),o⟩
  | rec_ ks ts =>
   obtain ⟨q,xs,rfl,hq,_,_,r1,_⟩:=tv
   simp only [sz] at hz
   simp only [dp] at hd
   obtain ⟨nd,hl,hw,g1⟩:=g
   obtain ⟨f,rfl⟩:=zat nd hl
   have g':=yH.mp g1
   have gk:∀k∈ks,gd (f k):=fun k hk=>g' _ (List.mem_map_of_mem hk)
   obtain ⟨s1,r,e,hr,o⟩:=recC (mr:=wu n) (e:=[]) hq r1 hw gk (by omega) fun k hk=>ih (f k) (by have:=yV (List.mem_map_of_mem (f:=f) hk);omega) (by have:=jj (List.mem_map_of_mem (f:=f) hk);omega) (gk k hk)
   have G:=glue (a := "{") (b := "}") (ca:=123) (cb:=125) e hr (recL hw gk (by omega)) (by decide +kernel) (by decide +kernel)
   rw [<-zcn] at G
   exact ⟨s1,zP rfl (zo (zF (zp (zt (zG (ze rfl) rfl) (is "str")))) (zo (zF (zp (zt (zG (ze rfl) rfl) (is "tuple")))) (yi (ye (zp (zt (zG (ze rfl) rfl) (is "dict"))) (zO G))))),o⟩
theorem eqs (a b:Str) (c:Bool) (h:decide (a=b)=c) (st:Sto):yq (.str a) (.str b) st=.ok (.bl c) st:=by rw [zm3,h]
theorem zdX:∀(n:Nat) (t:Tr),dp t<n->sz t<=60->gd t->Tells (jC n) t:=by
 intro n
 induction n with
 | zero=>intro t h;omega
 | succ n ih =>
  intro t hd hz g st v tv
  have kd:=zpp tv
  show ∃s1,zdJ (jC n) [v] st=_/\_
  cases t with
  | num i =>
   cases tv
   have kd:wx [.int i] st=.ok (.str "number") st:=kd
   exact ⟨st,zP rfl (zo (zQ (zt (zy (ze rfl)) kd)) (yi (ye (zp (zl (ze rfl) rfl (eqs _ _ true (by decide +kernel) st))) (zO (zt (zy (ze rfl)) (zhf g st)))))),Old.refl _⟩
  | word z =>
   obtain ⟨rfl,_⟩:=tv
   have kd:wx [.str z] st=.ok (.str "word") st:=kd
   exact ⟨st,zP rfl (zo (zQ (zt (zy (ze rfl)) kd)) (zo (zF (zp (zl (ze rfl) rfl (eqs _ _ false (by decide +kernel) st)))) (yi (ye (zp (zl (ze rfl) rfl (eqs _ _ true (by decide +kernel) st))) (zO (zl rfl (ze rfl) (zhg g st))))))),Old.refl _⟩
  | row ts =>
   obtain ⟨xs,rfl,r1⟩:=tv
   have kd:wx [.tup xs] st=.ok (.str "row") st:=kd
   simp only [sz] at hz
   simp only [dp] at hd
   have g':=yH.mp g
   obtain ⟨s1,e,o⟩:=rowT (mr:=jC n) (e:=[some (.str "row"),none]) r1 g' (by omega) fun t ht=>ih t (by have:=yV ht;omega) (by have:=jj ht;omega) (g' t ht)
   exact ⟨s1,zP rfl (zo (zQ (zt (zy (ze rfl)) kd)) (zo (zF (zp (zl (ze rfl) rfl (eqs _ _ false (by decide +kernel) st)))) (zo (zF (zp (zl (ze rfl) rfl (eqs _ _ false (by decide +kernel) st)))) (yi (ye (zp (zl (ze rfl) rfl (eqs _ _ true (by decide +kernel) st))) (zO e)))))),o⟩
  | rec_ ks ts =>
   obtain ⟨q,xs,rfl,hq,_,_,r1,_⟩:=tv
   have kr:wx [.ref q] st=.ok (.str "record") st:=kd
   simp only [sz] at hz
   simp only [dp] at hd
   obtain ⟨nd,hl,hw,g1⟩:=g
   obtain ⟨f,rfl⟩:=zat nd hl
   have g':=yH.mp g1
   have gk:∀k∈ks,gd (f k):=fun k hk=>g' _ (List.mem_map_of_mem hk)
   obtain ⟨s1,r,e,hr,o⟩:=recC (mr:=jC n) (e:=[some (.str "record"),none]) hq r1 hw gk (by omega) fun k hk=>ih (f k) (by have:=yV (List.mem_map_of_mem (f:=f) hk);omega) (by have:=jj (List.mem_map_of_mem (f:=f) hk);omega) (gk k hk)
   have G:=glue (fa:=zd 2) (e:=[some (.ref q),some (.str "record"),some (.ref r)]) (st:=s1) (a := "{") (b := "}") (ca:=123) (cb:=125) (ze rfl) hr (recL hw gk (by omega)) (by decide +kernel) (by decide +kernel)
   rw [<-zcn] at G
   exact ⟨s1,zP rfl (zo (zQ (zt (zy (ze rfl)) kr)) (zo (zF (zp (zl (ze rfl) rfl (eqs _ _ false (by decide +kernel) st)))) (zo (zF (zp (zl (ze rfl) rfl (eqs _ _ false (by decide +kernel) st)))) (zo (zF (zp (zl (ze rfl) rfl (eqs _ _ false (by decide +kernel) st)))) (zo (zQ e) (zO G)))))),o⟩
def vw (R:List Nat) (s:Sto):Sto:=s.mapIdx fun i so=>if i∈R then SO.lst [] else so
theorem jV {R:List Nat}{s:Sto}{n:Nat}{ks:List Str}{xs:List PV}:(vw R s)[n]?=some (.dic ks xs)↔n∉R/\s[n]?=some (.dic ks xs):=by
 unfold vw
 rw [List.getElem?_mapIdx]
 cases h:s[n]? with
 | none=>simp
 | some so =>
  by_cases hn:n∈R
  ·simp [hn]
  ·simp [hn]
theorem wX {R R':List Nat}{s s':Sto}(h:∀(n:Nat) ks xs,n∉R->s[n]?=some (SO.dic ks xs)->n∉R'/\s'[n]?=some (SO.dic ks xs)):Dk (vw R s) (vw R' s'):=fun n ks xs e=>jV.mpr (h n ks xs (jV.mp e).1 (jV.mp e).2)
theorem ja {R:List Nat}{s s':Sto}(o:Old s s'):Dk (vw R s) (vw R s'):=wX fun n _ _ h e=>⟨h,o n _ e⟩
theorem zaw {R:List Nat}{s:Sto}:Dk (vw R s) s:=fun n ks xs e=>(jV.mp e).2
theorem zpJ {R:List Nat}{s s':Sto}{r:Nat}(hr:s.length<=r) (o:Old s s'):Dk (vw R s) (vw (r::R) s'):=wX fun n _ _ h e=>⟨fun m=>by
 rcases List.mem_cons.mp m with q|q
 ·have:=yd e;omega
 ·exact h q,o n _ e⟩
theorem zdY {R:List Nat}{s:Sto}{r:Nat}(so:SO):Dk (vw (r::R) s) (vw (r::R) (s.set r so)):=wX fun n _ _ h e=>⟨h,by rw [List.getElem?_set_ne (fun q=>h (by rw [q];exact List.mem_cons_self ..))];exact e⟩
theorem zdZ {R:List Nat}{s:Sto}{r:Nat}:Dk (vw (r::R) s) (vw R s):=wX fun n _ _ h e=>⟨fun m=>h (List.mem_cons_of_mem _ m),e⟩
theorem zhi {g:PV->zc->Option zc}{body:zc->Mo Fl}{n:Nat}(xs:List PV) (I:Nat->zc->Sto->Prop) (at_:∀i e st,I i e st->st[n]?=some (.lst xs)) (step:∀i x e st,xs[i]?=some x->I i e st->∃e1 e2 st2,g x e=some e1/\body e1 st=.ok (.nx e2) st2/\I (i+1) e2 st2) :
  ∀(k i m:Nat) (env:zc) (st:Sto),i+k=xs.length->k<m->I i env st->∃env' st',forR g body n m i env st=.ok (.nx env') st'/\I xs.length env' st'
 | 0,i,m,env,st,hk,hm,h=>by
  obtain ⟨m,rfl⟩:∃j,m=j+1:=⟨m-1,by omega⟩
  refine ⟨env,st,?_,by rw [<-hk];exact h⟩
  unfold forR
  rw [yl (at_ _ _ _ h),List.getElem?_eq_none (by omega)]
 | k+1,i,m,env,st,hk,hm,h=>by
  obtain ⟨m,rfl⟩:∃j,m=j+1:=⟨m-1,by omega⟩
  have hx:xs[i]?=some (xs[i]'(by omega)):=List.getElem?_eq_getElem (by omega)
  obtain ⟨e1,e2,st2,q1,q2,q3⟩:=step i _ env st hx h
  obtain ⟨env',st',r,h2⟩:=zhi xs I at_ step k (i+1) m e2 st2 (by omega) (by omega) q3
  refine ⟨env',st',?_,h2⟩
  unfold forR
  rw [yl (at_ _ _ _ h),hx]
  simp only
  rw [q1]
  simp only
  rw [q2]
  simp only [zw]
  exact r
theorem zhj {fo fi fv:zc->Mo PV}{e:zc}{s s1:Sto}{r:Nat}{z:Str}{x:PV}{ks:List Str}{xs:List PV}(hv:fv e s=.ok x s1) (ho:fo e s1=.ok (.ref r) s1) (hi:fi e s1=.ok (.str z) s1) (hr:s1[r]?=some (.dic ks xs)) (hn:z∉ks) (hl:ks.length<=1000) :
  y0 fo fi fv e s=.ok (.nx e) (s1.set r (.dic (ks++[z]) (xs++[x]))):=by
 unfold y0
 rw [hv,zw,ho,zw,hi,zw]
 show (yp s1 r _).bind _=_
 rw [zal hr,if_pos (by simp [lim];omega),zw]
 have:ks.contains z=false:=by simpa using hn
 simp only [yO,this]
 rfl
theorem zhk:∀(n:Nat) (t:Tr) (v:PV) (st:Sto) (R:List Nat),dp t<n->sz t<=60->gd t->TR (vw R st) t v->(∀r∈R,r<st.length)->∃s1 w,jS n [v] st=.ok w s1/\Old st s1/\TR (vw R s1) (od rv t) w:=by
 intro n
 induction n with
 | zero=>intro t v st R h;omega
 | succ n ih =>
  intro t v st R hd hz g tv hR
  have is:=zdQ (TR.mono zaw t tv)
  show ∃s1 w,zdE (jS n) [v] st=_/\_
  cases t with
  | num i =>
   cases tv
   exact ⟨st,_,zP rfl (zo (zF (zp (zt (zG (ze rfl) rfl) (is "tuple")))) (zo (zF (zp (zt (zG (ze rfl) rfl) (is "dict")))) (zO (ze rfl)))),Old.refl _,rfl⟩
  | word z =>
   obtain ⟨rfl,hz'⟩:=tv
   exact ⟨st,_,zP rfl (zo (zF (zp (zt (zG (ze rfl) rfl) (is "tuple")))) (zo (zF (zp (zt (zG (ze rfl) rfl) (is "dict")))) (zO (ze rfl)))),Old.refl _,rfl,hz'⟩
  | row ts =>
   obtain ⟨xs,rfl,tr⟩:=tv
   simp only [sz] at hz
   simp only [dp] at hd
   have g':=yH.mp g
   have hl:=tr.len
   have hn:=wA ts
   obtain ⟨ys,s1,C,hy,o⟩:=za9 (fe:=zm (jS n) (zf (zd 0) zj)) (env:=[some (.tup xs),none,none]) xs (fun i ys s=>TRs (vw R s) ((ts.take i).map (od rv)) ys/\Old st s) (fun i x ys s hx ⟨h1,h2⟩=>by
    obtain ⟨t,ht,tx_⟩:=tr.get hx
    have hm:=List.mem_of_getElem? ht
    obtain ⟨s1,w,e1,o1,tw⟩:=ih t x s R (by have:=yV hm;omega) (by have:=jj hm;omega) (g' t hm) (TR.mono (ja h2) t tx_) (fun r hr=>by
     obtain ⟨so,hso⟩:∃so,st[r]?=some so:=⟨_,List.getElem?_eq_getElem (hR r hr)⟩
     exact yd (h2 r so hso))
    refine ⟨w,s1,zt (zy (ze rfl)) e1,?_,h2.trans o1⟩
    rw [zbc ht,List.map_append]
    exact (TRs.mono (ja o1) _ h1).append ⟨w,[],rfl,tw,rfl⟩) xs.length 0 [] st (by omega) ⟨rfl,Old.refl _⟩
   have C2:(yt (yM (zd 0)) (zm (jS n) (zf (zd 0) zj))) [some (.tup xs),none,none] st=.ok (.ref s1.length) (s1++[.lst ys]):=by
    rw [zag]
    show compS _ _ (.im xs) st=_
    rw [zbP,if_pos (by simp [lim];omega)]
    exact C
   refine ⟨s1++[.lst ys],.tup ys,zP rfl (yi (ye (zp (zt (zG (ze rfl) rfl) (is "tuple"))) (zO (zt (zy C2) (by rw [zaU,yl (z0 _ _)]))))),o.trans (zZ _ _),?_⟩
   simp only [od,jk]
   rw [<-hl,List.take_length] at hy
   exact ⟨ys,rfl,TRs.mono (ja (zZ _ _)) _ hy⟩
  | rec_ ks ts =>
   obtain ⟨q,xs,rfl,hq',_,_,tr,_⟩:=tv
   obtain ⟨hqR,hq⟩:=jV.mp hq'
   simp only [sz] at hz
   simp only [dp] at hd
   obtain ⟨nd,hl,hw,g1⟩:=g
   obtain ⟨f,rfl⟩:=zat nd hl
   have g':=yH.mp g1
   have gk:∀k∈ks,gd (f k):=fun k hk=>g' _ (List.mem_map_of_mem hk)
   have hn:=wA (ks.map f)
   rw [List.length_map] at hn
   have lr:(rv ks).length=ks.length:=(yw ks).length_eq
   have ndr:(rv ks).Nodup:=(yw ks).nodup_iff.mpr nd
   have so:zbT (.ref q) (st++[.dic [] []])=.ok (.ref (st.length+1)) (st++[.dic [] []]++[.lst ((rv ks).map PV.str)]):=by
    show yp _ q _=_
    rw [zal (zZ _ _ _ _ hq),if_pos (by omega)]
    simp [rv]
   have rR:st.length∉R:=fun h=>by have:=hR _ h;omega
   obtain ⟨env',s',F,⟨z2,hz2⟩,o,hl2,ys,hr,hy⟩:=zhi (g:=gN 2) (body:=(y0 (zd 1) (zd 2) (zm (jS n) (zf (zh zJ (zd 0) (zd 2)) zj)))) (n:=st.length+1) ((rv ks).map PV.str)
    (fun i e s=>(∃z2,e=[some (.ref q),some (.ref st.length),z2])/\Old st s/\s[st.length+1]?=some (.lst ((rv ks).map PV.str))/\∃ys,s[st.length]?=some (.dic ((rv ks).take i) ys)/\TRs (vw (st.length::R) s) (((rv ks).take i).map fun k=>od rv (f k)) ys) (fun i e s h=>h.2.2.1) (fun i x e s hx ⟨⟨z2,he⟩,h2,h3,ys,h4,h5⟩=>by
     subst he
     rw [List.getElem?_map] at hx
     cases hk:(rv ks)[i]? with
     | none=>rw [hk] at hx;cases hx
     | some k =>
      rw [hk] at hx
      cases hx
      have km:=yw.sub ks k (List.mem_of_getElem? hk)
      obtain ⟨y,hy,ty⟩:=za8 tr (lkm km)
      have ix:zJ (.ref q) (.str k) s=.ok y s:=by simp [zJ,zbK,yp,h2 _ _ hq,hy]
      obtain ⟨s1,w,e1,o1,tw⟩:=ih (f k) y s (st.length::R) (by have:=yV (List.mem_map_of_mem (f:=f) km);omega) (by have:=jj (List.mem_map_of_mem (f:=f) km);omega) (gk k km) (TR.mono (zpJ (Nat.le_refl _) h2) _ ty) (fun r hr=>by
       rcases List.mem_cons.mp hr with e|e
       ·rw [e];exact yd h4
       ·obtain ⟨so,hso⟩:∃so,st[r]?=some so:=⟨_,List.getElem?_eq_getElem (hR r e)⟩
        exact yd (h2 r so hso))
      have nk:k∉(rv ks).take i:=fun h=>by
       obtain ⟨hi,ek⟩:=List.getElem?_eq_some_iff.mp hk
       have:=ndr
       rw [<-List.take_append_drop i (rv ks),List.nodup_append] at this
       exact this.2.2 k h k (by rw [List.drop_eq_getElem_cons hi,ek];exact List.mem_cons_self ..) rfl
      have ht:=o1 _ _ h4
      refine ⟨[some (.ref q),some (.ref st.length),some (.str k)],_,_,rfl,zhj (zt (zy (zl (ze rfl) (ze rfl) ix)) e1) (ze rfl) (ze rfl) ht nk (by rw [List.length_take];omega),⟨_,rfl⟩,fun m so em=>?_,?_,ys++[w],?_,?_⟩
      ·rw [List.getElem?_set_ne (by have:=yd em;omega)]
       exact (h2.trans o1) m so em
      ·rw [List.getElem?_set_ne (by omega)]
       exact o1 _ _ h3
      ·rw [List.getElem?_set_self (yd ht),zbc hk]
      ·rw [zbc hk,List.map_append]
       exact TRs.mono (zdY _) _ ((TRs.mono (ja o1) _ h5).append ⟨w,[],rfl,tw,rfl⟩)) (rv ks).length 0 (lim+1) [some (.ref q),some (.ref st.length),none] (st++[.dic [] []]++[.lst ((rv ks).map PV.str)]) (by simp) (by simp [lim];omega) ⟨⟨none,rfl⟩,(zZ _ _).trans (zZ _ _),by have:=z0 (st++[SO.dic [] []]) (SO.lst ((rv ks).map PV.str));simpa using this,[],zZ _ _ _ _ (z0 _ _),rfl⟩
   subst hz2
   rw [List.length_map,List.take_length] at hr hy
   have S1:(jy (yM (yg zbT (zd 0))) (gN 2) (y0 (zd 1) (zd 2) (zm (jS n) (zf (zh zJ (zd 0) (zd 2)) zj)))) [some (.ref q),some (.ref st.length),none] (st++[.dic [] []])=.ok (.nx [some (.ref q),some (.ref st.length),z2]) s':=by
    rw [zfx,zfw,yv (ze rfl) so]
    simp only [zw,seqOf]
    have tg:(st++[SO.dic [] []]++[SO.lst ((rv ks).map PV.str)])[st.length+1]?=some (.lst ((rv ks).map PV.str)):=by have:=z0 (st++[SO.dic [] []]) (SO.lst ((rv ks).map PV.str));simpa using this
    rw [yl tg]
    exact F
   refine ⟨s',.ref st.length,zP rfl (zo (zF (zp (zt (zG (ze rfl) rfl) (is "tuple")))) (yi (ye (zp (zt (zG (ze rfl) rfl) (is "dict"))) (zo (zQ rfl) (zo S1 (zO (ze rfl))))))),o,?_⟩
   rw [jD (yw.sub ks)]
   have hly:=hy.len
   rw [List.length_map] at hly
   exact ⟨st.length,ys,rfl,jV.mpr ⟨rR,hr⟩,ndr,hly,TRs.mono zdZ _ hy,fun k hk=>by have:=y6 (hw k (yw.sub ks k hk));omega⟩
theorem atI_get {α:Type}{l:List α}{k:Nat}{x:α}(h:l[k]?=some x):atI l (k:Int)=some x:=by
 have:=(List.getElem?_eq_some_iff.mp h).1
 have e:=(List.getElem?_eq_some_iff.mp h).2
 simp [atI,ixN,this,e]
def Dc (d:Nat) (s:Sto):Prop:=∃l:List Int,s[d]?=some (.lst (l.map PV.int))
structure Nx (d:Nat) (a b:Sto):Prop where
 ob:Ob d a b
 dc:Dc d b
theorem Nx.trans {d:Nat}{a b c:Sto}(h:Nx d a b) (h':Nx d b c):Nx d a c:=⟨h.ob.trans h'.ob,h'.dc⟩
theorem Nx.refl {d:Nat}{a:Sto}(h:Dc d a):Nx d a a:=⟨fun _ _ _ e=>e,h⟩
theorem Nx.of {d:Nat}{a b:Sto}(h:Dc d a) (o:Old a b):Nx d a b:=⟨zgY o,by obtain ⟨l,e⟩:=h;exact ⟨l,o _ _ e⟩⟩
theorem Nx.lt {d:Nat}{a b:Sto}(h:Nx d a b) {n:Nat}(hn:n<a.length):n<b.length:=by
 by_cases e:n=d
 ·obtain ⟨l,q⟩:=h.dc;rw [e];exact yd q
 ·exact yd (h.ob n _ e (List.getElem?_eq_getElem hn))
theorem Nx.vw {d:Nat}{a b:Sto}{R:List Nat}(h:Nx d a b) (hd:Dc d a):Dk (FK21.vw R a) (FK21.vw R b):=wX fun n ks xs hn e=>⟨hn,h.ob n _ (fun q=>by obtain ⟨l,e'⟩:=hd;rw [q,e'] at e;cases e) e⟩
theorem y7 {d:Nat}{st:Sto}(hd:Dc d st) (m:Nat) (hm:0<m):∃(r:Nat) (s1:Sto),yF [.ref d,.int (m:Int)] st=.ok (.int (r:Int)) s1/\r<m/\Nx d st s1:=by
 obtain ⟨l,e⟩:=hd
 cases l with
 | nil =>
  refine ⟨0,st,zP rfl (yi (ye (zp (zl (zt (zy (ze rfl)) (zc9 e)) rfl (zbR _ _))) (zO rfl))),hm,Nx.refl ⟨[],e⟩⟩
 | cons i l =>
  obtain ⟨b,hb,eb⟩:=modNat i m hm
  have e1:(st.set d (.lst (l.map PV.int)))[d]?=some (.lst (l.map PV.int)):=List.getElem?_set_self (yd e)
  refine ⟨b,st.set d (.lst (l.map PV.int)),zP rfl (zo (zF (zp (zl (zt (zy (ze rfl)) (zc9 e)) rfl ((zbR _ _).trans (by rw [decide_eq_false (by simp;omega)]))))) (zO (zl (zdd (ze rfl) e rfl (by
   show z9 st d _=_
   rw [yl e]
   rfl)) (ze rfl) ((jA _ _ (by omega)).trans (by rw [eb]))))),hb,⟨zgZ d st _,l,e1⟩⟩
theorem zd0 (st:Sto):js (.int 10) (.int 9) st=.ok (.int 1000000000) st:=by
 have cp:cPow 10 9=true:=by decide
 have pw:((10:Int) ^ (9:Int).toNat)=1000000000:=by decide
 show (if cPow 10 9=true then Res.ok (PV.int (10 ^ (9:Int).toNat)) st else .stuck)=_
 rw [if_pos cp,pw]
theorem zhl (st:Sto):js (.int 10) (.int 17) st=.ok (.int 100000000000000000) st:=by
 have cp:cPow 10 17=true:=by decide
 have pw:((10:Int) ^ (17:Int).toNat)=100000000000000000:=by decide
 show (if cPow 10 17=true then Res.ok (PV.int (10 ^ (17:Int).toNat)) st else .stuck)=_
 rw [if_pos cp,pw]
theorem zhm (st:Sto):js (.int 10) (.int 18) st=.ok (.int 1000000000000000000) st:=by
 have cp:cPow 10 18=true:=by decide
 have pw:((10:Int) ^ (18:Int).toNat)=1000000000000000000:=by decide
 show (if cPow 10 18=true then Res.ok (PV.int (10 ^ (18:Int).toNat)) st else .stuck)=_
 rw [if_pos cp,pw]
theorem ltT {i j:Int}(b:Bool) (h:decide (i<j)=b) (st:Sto):wJ (.int i) (.int j) st=.ok (.bl b) st:=by rw [zm1,h]
theorem eqT' {i j:Int}(b:Bool) (h:decide (i=j)=b) (st:Sto):yq (.int i) (.int j) st=.ok (.bl b) st:=by rw [zbR,h]
theorem gtT {i j:Int}(b:Bool) (h:decide (j<i)=b) (st:Sto):jw (.int i) (.int j) st=.ok (.bl b) st:=by rw [zm2,h]
theorem zhn {d:Nat}{st:Sto}(hd:Dc d st):∃(i:Int) (s1:Sto),zb3 [.ref d] st=.ok (.int i) s1/\gd (.num i)/\Nx d st s1:=by
 obtain ⟨w,s1,e1,hw,n1⟩:=y7 hd 6 (by decide)
 have A:∀{X:Res Fl},zgt [some (.ref d),some (.int w),none,none] s1=X->zb2 [some (.ref d),none,none,none] st=X:=fun h=>zo (zQ (zt (zG (ze rfl) rfl) e1)) h
 by_cases c1:w<2
 ·obtain ⟨r,s2,e2,hr,n2⟩:=y7 n1.dc 10 (by decide)
  exact ⟨r,s2,zP rfl (A (yi (ye (zp (zl (ze rfl) rfl (ltT true (by simp;omega) _))) (zO (zt (zG (ze rfl) rfl) e2))))),⟨by omega,by omega⟩,n1.trans n2⟩
 have B:∀{X:Res Fl},zgs [some (.ref d),some (.int w),none,none] s1=X->zb2 [some (.ref d),none,none,none] st=X:=fun h=>A (zo (zF (zp (zl (ze rfl) rfl (ltT false (by simp;omega) _)))) h)
 by_cases c2:w=2
 ·obtain ⟨r,s2,e2,hr,n2⟩:=y7 n1.dc 1000 (by decide)
  exact ⟨0-(r:Int),s2,zP rfl (B (yi (ye (zp (zl (ze rfl) rfl (eqT' true (by simp;omega) _))) (zO (zl rfl (zt (zG (ze rfl) rfl) e2) (wq _ _)))))),⟨by omega,by omega⟩,n1.trans n2⟩
 have C:∀{X:Res Fl},zgr [some (.ref d),some (.int w),none,none] s1=X->zb2 [some (.ref d),none,none,none] st=X:=fun h=>B (zo (zF (zp (zl (ze rfl) rfl (eqT' false (by simp;omega) _)))) h)
 by_cases c3:w=3
 ·let L:List Int:=[1000000000000000000-1,1-1000000000000000000,100000000000000000,1-100000000000000000,99,-10]
  have nd:Nx d s1 (s1++[.lst (L.map PV.int)]):=Nx.of n1.dc (zZ _ _)
  obtain ⟨r,s2,e2,hr,n2⟩:=y7 nd.dc 6 (by decide)
  have hL:s2[s1.length]?=some (.lst (L.map PV.int)):=by
   refine n2.ob _ _ ?_ (z0 _ _)
   obtain ⟨l,q⟩:=n1.dc
   have:=yd q
   omega
  have hx:L[r]?=some (L[r]'hr):=List.getElem?_eq_getElem hr
  have g:gd (.num (L[r]'hr)):=by
   have:∀x∈L,-1000000000000000000<x/\x<1000000000000000000:=by decide
   exact this _ (List.getElem_mem _)
  refine ⟨L[r]'hr,s2,zP rfl (C (yi (ye (zp (zl (ze rfl) rfl (eqT' true (by simp;omega) _))) (zo (zQ (zam (xs:=L.map PV.int) (wT (zl (zl rfl rfl (zhm _)) rfl (wq _ _)) (wT (zl rfl (zl rfl rfl (zhm _)) (wq _ _)) (wT (zl rfl rfl (zhl _)) (wT (zl rfl (zl rfl rfl (zhl _)) (wq _ _)) (wT rfl (zy (yv rfl rfl)))))))
   (by simp [L]))) (zO (zl (ze rfl) (zt (zG (ze rfl) rfl) e2) (by
    rw [zaT,yl hL,atI_get (x:=PV.int (L[r]'hr)) (by rw [List.getElem?_map,hx];rfl)]
    rfl))))))),g,n1.trans (nd.trans n2)⟩
 obtain ⟨a,s2,e2,ha,n2⟩:=y7 n1.dc 1000000000 (by decide)
 obtain ⟨b,s3,e3,hb,n3⟩:=y7 n2.dc 1000000000 (by decide)
 have hm:∀n:Nat,n<2->∀(x y:PV),atI [x,y] (n:Int)=some (if n=0 then x else y):=fun n hn x y=>by
  match n,hn with
  | 0,_=>rfl
  | 1,_=>rfl
 obtain ⟨k,hk,ek⟩:=modNat (w:Int) 2 (by decide)
 have n4:Nx d s3 (s3++[.lst [.int ((a:Int)*1000000000+b),.int (0-((a:Int)*1000000000+b))]]):=Nx.of n3.dc (zZ _ _)
 refine ⟨if k=0 then (a:Int)*1000000000+b else 0-((a:Int)*1000000000+b),_,zP rfl (C (zo (zF (zp (zl (ze rfl) rfl (eqT' false (by simp;omega) _)))) (zo (zQ (zl (zl (zt (zG (ze rfl) (zl rfl rfl (zd0 _))) e2) (zl rfl rfl (zd0 _)) (jB _ _ (by simp [cMul]))) (zt (zG (ze rfl) (zl rfl rfl (zd0 _))) e3) (jQ _ _)))
  (zO (zl (zam (zG (ze rfl) (zl rfl (ze rfl) (wq _ _))) (by simp)) (zl (ze rfl) rfl ((jA _ _ (by decide)).trans (by rw [show yB (w:Int) 2=(k:Int) from ek]))) (by
   rw [zaT,yl (z0 _ _),hm k hk _ _]
   split<;>rfl)))))),?_,n1.trans (n2.trans (n3.trans n4))⟩
 split
 ·exact ⟨by omega,by omega⟩
 ·exact ⟨by omega,by omega⟩
theorem zpK (cs:List Nat):PySem.Txt.join ("" : Str) (cs.map fun c=>(⟨#[c]⟩:Str))=S cs:=by
 show PySem.Builtin.Str.glued ("" : Str) (cs.map fun c=>(⟨#[c]⟩:Str))=_
 rw [PySem.StrLaws.glued_eq_join]
 have e0:("" : Str)=S []:=by decide +kernel
 rw [e0]
 induction cs with
 | nil=>rfl
 | cons c r ih =>
  cases r with
  | nil=>rfl
  | cons d r' =>
   show S [c]++S []++Str.join (S []) ((d::r').map fun c=>(⟨#[c]⟩:Str))=_
   rw [ih,jE,jE]
   simp
def yQ (j:Nat):Nat:=(abc.cps.toList[j]?).getD 0
theorem zd1 (j:Nat) (hj:j<26) (st:Sto):zJ (.str abc) (.int j) st=.ok (.str ⟨#[yQ j]⟩) st/\yQ j∈abc.cps.toList:=by
 have hz:abc.cps.toList.length=26:=by decide +kernel
 have lt:j<abc.cps.toList.length:=by omega
 have hl:abc.length<=1000000:=by decide +kernel
 have e:abc.cps.toList[j]?=some (yQ j):=by unfold yQ;rw [List.getElem?_eq_getElem lt];rfl
 refine ⟨?_,List.mem_of_getElem? e⟩
 rw [zfP,zl4,if_pos hl,atI_get e]
 rfl
theorem zpL {n i:Nat}{x:PV}(h:(nums 0 n)[i]?=some x):i<n/\x=.int (i:Int):=by
 unfold nums at h
 rw [List.getElem?_map] at h
 cases e:(List.range n)[i]? with
 | none=>rw [e] at h;cases h
 | some j =>
  rw [e] at h
  obtain ⟨h1,h2⟩:=List.getElem?_eq_some_iff.mp e
  rw [List.getElem_range] at h2
  rw [List.length_range] at h1
  cases h
  exact ⟨h1,by subst h2;simp⟩
theorem zd2 (n:Nat):(nums 0 n).length=n:=by simp [nums]
theorem zpM (m:Nat) (st:Sto) (h:m<=1000):wP [.int (m:Int)] st=.ok (.im (nums 0 m)) st:=by
 have hr:cR (m:Int)=true:=by simp [cR];omega
 rw [zme,if_pos hr];simp
theorem zco {fe:zc->Mo PV}{fs:zc->Mo (List PV)}{env:zc}{st s0:Sto}(n:Nat) (hn:n<=1000) (hf:fs env st=.ok [.int (n:Int)] s0) (I:Nat->List PV->Sto->Prop) (step:∀i ys st,i<n->I i ys st->∃y st1,fe (some (.int (i:Int))::env) st=.ok y st1/\I (i+1) (ys++[y]) st1) (h0:I 0 [] s0) :
  ∃ys' st',(yt (iRng1 fs) fe) env st=.ok (.ref st'.length) (st'++[.lst ys'])/\I n ys' st':=by
 obtain ⟨ys,s1,C,h⟩:=za9 (fe:=fe) (env:=env) (nums 0 n) I (fun i x ys st hx h=>by
  obtain ⟨hi,rfl⟩:=zpL hx
  exact step i ys st hi h) n 0 [] s0 (by rw [zd2];omega) h0
 rw [zd2] at h
 refine ⟨ys,s1,?_,h⟩
 rw [zag,zfQ,hf,zw,zpM n _ hn,zw,zbP,if_pos (by rw [zd2];simp [lim];omega)]
 exact C
theorem zho:∀cs:List Nat,strsOf (cs.map fun c=>PV.str ⟨#[c]⟩)=some (cs.map fun c=>(⟨#[c]⟩:Str))
 | []=>rfl
 | c::cs=>by simp [strsOf,zho cs]
theorem zhp:∀cs:List Nat,((cs.map fun c=>(⟨#[c]⟩:Str)).map (·.length)).sum=cs.length
 | []=>rfl
 | c::cs=>by have:=zhp cs;simp only [List.map_cons,List.sum_cons,List.length_cons,this];show 1+_=_;omega
theorem zhq {cs:List Nat}(h1:1<=cs.length) (h8:cs.length<=8) (hc:∀c∈cs,c∈abc.cps.toList):isW (S cs)=true:=by
 unfold isW
 rw [yP]
 simp only [Bool.and_eq_true,decide_eq_true_eq,List.all_eq_true]
 exact ⟨⟨h1,h8⟩,fun c h=>hc c (by simpa [S] using h)⟩
theorem le0:("" : Str).length=0:=by decide +kernel
theorem zpO {z:Str}{fa:zc->Mo PV}{e:zc}{st s1:Sto}{r:Nat}{xs:List PV}{zs:List Str}(h:fa e st=.ok (.ref r) s1) (hr:s1[r]?=some (.lst xs)) (hz:strsOf xs=some zs) (hl:(zs.map (·.length)).sum+zs.length*z.length<=1000000):jR (mC (.str z)) fa e st=.ok (.str (PySem.Txt.join z zs)) s1:=by
 show (fa e st).bind _=_
 rw [h,zw]
 show z9 s1 r _=_
 rw [yl hr,hz]
 exact if_pos hl
theorem zd3 {d:Nat}{st:Sto}(hd:Dc d st):∃(z:Str) (s1:Sto),zap [.ref d] st=.ok (.str z) s1/\isW z=true/\Nx d st s1:=by
 obtain ⟨w,s1,e1,hw,n1⟩:=y7 hd 8 (by decide)
 obtain ⟨c,s2,e2,hc,n2⟩:=y7 n1.dc 1000000007 (by decide)
 have sz1:(1:Int)+(w:Int)=((1+w:Nat):Int):=by omega
 obtain ⟨ys,s3,C,cs,hy,hl,ha,hs⟩:=zco (fe:=(zh zJ (zd 2) (zh yj (zh zR (zh wb (zd 4) (zh zR (mC (.int 1)) (zh ym (zh ym (zd 0) (zd 0)) (zd 0)))) (zh ym (zd 0) (zd 3))) (mC (.int 26))))) (fs:=(zf (zd 2) zj)) (env:=[some (.ref d),some (.str abc),some (.int (1+(w:Int))),some (.int c)]) (st:=s2) (1+w) (by omega) (zy (by rw [<-sz1];exact ze rfl))
  (fun i ys s=>∃cs:List Nat,ys=cs.map (fun c=>PV.str ⟨#[c]⟩)/\cs.length=i/\(∀c∈cs,c∈abc.cps.toList)/\s=s2) (fun i ys s hi ⟨cs,h1,h2,h3,h4⟩=>by
   subst h4
   obtain ⟨k,hk,ek⟩:=modNat (ju (c:Int) (1+(i:Int)*i*i)+(i:Int)*(1+(w:Int))) 26 (by decide)
   have ek:yB (ju (c:Int) (1+(i:Int)*i*i)+(i:Int)*(1+(w:Int))) 26=(k:Int):=ek
   have hi8:(i:Int)<=8:=by omega
   have p1:(i:Int)*i<=8*8:=Int.mul_le_mul hi8 hi8 (by omega) (by omega)
   have p0:0<=(i:Int)*i:=Int.mul_nonneg (by omega) (by omega)
   have p2:(i:Int)*i*i<=8*8*8:=Int.mul_le_mul p1 hi8 (by omega) (by omega)
   have p3:0<=(i:Int)*i*i:=Int.mul_nonneg p0 (by omega)
   have L:=zd1 k hk s
   exact ⟨.str ⟨#[yQ k]⟩,s,zl (ze rfl) (zl (zl (zl (ze rfl) (zl rfl (zl (zl (ze rfl) (ze rfl) (jB _ _ (by simp [cMul];omega))) (ze rfl) (jB _ _ (by simp [cMul];omega))) (jQ _ _)) (zde _ _ (by omega) (by omega))) (zl (ze rfl) (ze rfl) (jB _ _ (by simp [cMul];omega))) (jQ _ _)) rfl ((jA _ _ (by decide)).trans (by rw [ek]))) L.1,cs++[yQ k],by rw [h1,List.map_append];rfl,by simp [h2],fun x hx=>by
    rcases List.mem_append.mp hx with h|h
    ·exact h3 x h
    ·rw [List.mem_singleton.mp h];exact L.2,rfl⟩) ⟨[],rfl,rfl,(fun _ h=>nomatch h),rfl⟩
 subst hs
 refine ⟨S cs,s3++[.lst ys],zP rfl (zo (zQ rfl) (zo (zQ (zl rfl (zt (zG (ze rfl) rfl) e1) (jQ _ _))) (zo (zQ (zt (zG (ze rfl) rfl) e2)) (zO ((zpO C (z0 _ _) (by rw [hy];exact zho cs) (by rw [zhp,le0];simp;omega)).trans (by rw [zpK])))))),zhq (by omega) (by omega) ha,(n1.trans n2).trans (Nx.of n2.dc (zZ _ _))⟩
def bd:Nat->Nat
 | 0=>1
 | k+1=>1+3*bd k
theorem zpP:∀b,1<=bd b
 | 0=>by simp [bd]
 | k+1=>by simp only [bd];omega
def Made (d:Nat) (R:List Nat) (st:Sto) (b m:Nat) (s1:Sto) (v:PV):Prop:=∃t,TR (vw R s1) t v/\gd t/\dp t<=b/\sz t<=m/\Nx d st s1
theorem zax {m:Nat}:∀{ts:List Tr},(∀t∈ts,sz t<=m)->szs ts<=ts.length*m
 | [],_=>by simp [szs]
 | t::ts,h=>by
  have:=h t (List.mem_cons_self ..)
  have:=zax (ts:=ts) fun u hu=>h u (List.mem_cons_of_mem _ hu)
  simp only [szs,List.length_cons,Nat.add_mul];omega
theorem zpQ {fo fi fv:zc->Mo PV}{e:zc}{s s1:Sto}{r:Nat}{z:Str}{x:PV}{ks:List Str}{xs:List PV}(hv:fv e s=.ok x s1) (ho:fo e s1=.ok (.ref r) s1) (hi:fi e s1=.ok (.str z) s1) (hr:s1[r]?=some (.dic ks xs)) (hl:ks.length<=1000) :
  y0 fo fi fv e s=.ok (.nx e) (s1.set r (.dic (yO z x ks xs).1 (yO z x ks xs).2)):=by
 unfold y0
 rw [hv,zw,ho,zw,hi,zw]
 show (yp s1 r _).bind _=_
 rw [zal hr,if_pos (by simp [lim];omega),zw]
theorem zhr {a:Sto}{z:Str}{x:PV}{t:Tr}(tt:TR a t x):∀{ks:List Str}{ts:List Tr}{xs:List PV},TRs a ts xs->∃ts',TRs a ts' (repl z x ks xs)/\ts'.length=ts.length/\∀u∈ts',u∈ts\/u=t
 | [],ts,xs,h=>⟨ts,by unfold repl;exact h,rfl,fun u hu=>.inl hu⟩
 | k::ks,[],xs,h=>by cases h;exact ⟨[],by unfold repl;rfl,rfl,fun u hu=>.inl hu⟩
 | k::ks,t0::ts,xs,h=>by
  obtain ⟨y,r,rfl,h1,h2⟩:=h
  obtain ⟨ts',g1,g2,g3⟩:=zhr tt (ks:=ks) h2
  unfold repl
  by_cases e:k=z
  ·rw [if_pos e]
   exact ⟨t::ts',⟨x,_,rfl,tt,g1⟩,by simp [g2],fun u hu=>by
    rcases List.mem_cons.mp hu with q|q
    ·exact .inr q
    ·exact (g3 u q).imp (fun h=>List.mem_cons_of_mem _ h) id⟩
  ·rw [if_neg e]
   exact ⟨t0::ts',⟨y,_,rfl,h1,g1⟩,by simp [g2],fun u hu=>by
    rcases List.mem_cons.mp hu with q|q
    ·exact .inl (by rw [q];exact List.mem_cons_self ..)
    ·exact (g3 u q).imp (fun h=>List.mem_cons_of_mem _ h) id⟩
theorem zpR {a:Sto}{ks:List Str}{xs:List PV}{ts:List Tr}{z:Str}{x:PV}{t:Tr}(tr:TRs a ts xs) (nd:ks.Nodup) (len:ks.length=ts.length) (tt:TR a t x):∃ts',TRs a ts' (yO z x ks xs).2/\(yO z x ks xs).1.Nodup/\(yO z x ks xs).1.length=ts'.length/\ts'.length<=ts.length+1/\(∀u∈ts',u∈ts\/u=t)/\∀k∈(yO z x ks xs).1,k∈ks\/k=z:=by
 unfold yO
 by_cases h:ks.contains z=true
 ·rw [if_pos h]
  obtain ⟨ts',g1,g2,g3⟩:=zhr (z:=z) tt (ks:=ks) tr
  exact ⟨ts',g1,nd,by simp only;omega,by omega,g3,fun k hk=>.inl hk⟩
 ·rw [if_neg h]
  have hz:z∉ks:=by simpa using h
  refine ⟨ts++[t],tr.append ⟨x,[],rfl,tt,rfl⟩,?_,by simp [len],by simp,fun u hu=>?_,fun k hk=>?_⟩
  ·simp only
   rw [List.nodup_append]
   exact ⟨nd,by simp,fun a ha b hb=>by rw [List.mem_singleton.mp hb];exact fun e=>hz (e▸ha)⟩
  ·rcases List.mem_append.mp hu with q|q
   ·exact .inl q
   ·exact .inr (List.mem_singleton.mp q)
  ·rcases List.mem_append.mp hk with q|q
   ·exact .inl q
   ·exact .inr (List.mem_singleton.mp q)
structure Rec (d r:Nat) (R:List Nat) (a:Sto) (P:Tr->Prop) (i:Nat) (s:Sto):Prop where
 nx:Nx d a s
 ex:∃ks ys ts,s[r]?=some (.dic ks ys)/\TRs (vw (r::R) s) ts ys/\ks.Nodup/\ks.length=ts.length/\ts.length<=i/\(∀t∈ts,P t)/\∀k∈ks,isW k=true
theorem Rec.put {d r:Nat}{R:List Nat}{a s s1:Sto}{P:Tr->Prop}{i:Nat}(h:Rec d r R a P i s) (hi:i<=1000) (hr:a.length<=r) (hdr:d<a.length) (n1:Nx d s s1) {t:Tr}{x:PV}{z:Str}(tt:TR (vw (r::R) s1) t x) (pt:P t) (hz:isW z=true) {fo fi fv:zc->Mo PV}{e:zc}(hv:fv e s=.ok x s1) (ho:fo e s1=.ok (.ref r) s1) (hi':fi e s1=.ok (.str z) s1) :
  ∃s2,y0 fo fi fv e s=.ok (.nx e) s2/\Rec d r R a P (i+1) s2:=by
 obtain ⟨ks,ys,ts,h1,h2,h3,h4,h5,h6,h7⟩:=h.ex
 have h1':=n1.ob r _ (by omega) h1
 have h2':=TRs.mono (n1.vw h.nx.dc) _ h2
 obtain ⟨ts',g1,g2,g3,g4,g5,g6⟩:=zpR (z:=z) h2' h3 h4 tt
 refine ⟨_,zpQ hv ho hi' h1' (by omega),⟨⟨fun n so hn hs=>?_,?_⟩,_,_,ts',List.getElem?_set_self (yd h1'),TRs.mono (zdY _) _ g1,g2,g3,by omega,fun u hu=>?_,fun k hk=>?_⟩⟩
 ·have:=yd hs
  rw [List.getElem?_set_ne (by omega)]
  exact (h.nx.trans n1).ob n so hn hs
 ·obtain ⟨l,e⟩:=n1.dc
  exact ⟨l,by rw [List.getElem?_set_ne (by omega)];exact e⟩
 ·rcases g5 u hu with q|q
  ·exact h6 u q
  ·rw [q];exact pt
 ·rcases g6 k hk with q|q
  ·exact h7 k q
  ·rw [q];exact hz
theorem Rec.tree {d r:Nat}{R:List Nat}{a s:Sto}{P:Tr->Prop}{i:Nat}(h:Rec d r R a P i s) (hr:r∉R):∃ks ts,TR (vw R s) (.rec_ ks ts) (.ref r)/\ks.Nodup/\ks.length=ts.length/\ts.length<=i/\(∀t∈ts,P t)/\∀k∈ks,isW k=true:=by
 obtain ⟨ks,ys,ts,h1,h2,h3,h4,h5,h6,h7⟩:=h.ex
 exact ⟨ks,ts,⟨r,ys,rfl,jV.mpr ⟨hr,h1⟩,h3,by rw [h4];exact h2.len,TRs.mono zdZ _ h2,fun k hk=>by have:=y6 (h7 k hk);omega⟩,h3,h4,h5,h6,h7⟩
theorem zay {fs:zc->Mo (List PV)}{gt:PV->zc->Option zc}{body:zc->Mo Fl}{e:zc}{st s0:Sto}(I:Nat->zc->Sto->Prop) (n:Nat) (hn:n<=1000) (hf:fs e st=.ok [.int (n:Int)] s0) (step:∀i e st,i<n->I i e st->∃e1 e2 st2,gt (.int (i:Int)) e=some e1/\body e1 st=.ok (.nx e2) st2/\I (i+1) e2 st2) (h0:I 0 e s0) :
  ∃e' s',jy (iRng1 fs) gt body e st=.ok (.nx e') s'/\I n e' s':=by
 obtain ⟨e',s',F,h⟩:=zg0 (g:=gt) (body:=body) I n step n 0 e s0 (by omega) h0
 refine ⟨e',s',?_,h⟩
 rw [zfx,zfQ,hf,zw,zpr n _ hn,zw,zl1]
 exact F
theorem zhs {d:Nat}:∀(n b:Nat) (st:Sto) (R:List Nat),b<n->Dc d st->(∀r∈R,r<st.length)->∃v s1,yU n [.ref d,.int (b:Int)] st=.ok v s1/\Made d R st b (bd b) s1 v:=by
 intro n
 induction n with
 | zero=>intro b st R h;omega
 | succ n ih =>
  intro b st R hb hd hR
  obtain ⟨w,s1,e1,hw,n1⟩:=y7 hd 8 (by decide)
  show ∃v s1,zdC (yU n) _ _=_/\_
  have bp:=zpP b
  have A:∀{X:Res Fl},zgx (yU n) [some (.ref d),some (.int (b:Int)),some (.int w),none,none,none] s1=X->zb4 (yU n) [some (.ref d),some (.int (b:Int)),none,none,none,none] st=X:=fun h=>zo (zQ (zt (zG (ze rfl) rfl) e1)) h
  by_cases c1:w=3\/w=4
  ·obtain ⟨z,s2,e2,hz,n2⟩:=zd3 n1.dc
   refine ⟨.str z,s2,zP rfl (A (yi (ye ?_ (zO (zt (zy (ze rfl)) e2))))),.word z,⟨rfl,by have:=y6 hz;omega⟩,hz,by simp [dp],by simp only [sz];omega,n1.trans n2⟩
   rcases c1 with c|c
   ·exact zgg (zp (zl (ze rfl) rfl (eqT' true (by simp;omega) _)))
   ·exact jP (zp (zl (ze rfl) rfl (eqT' false (by simp;omega) _))) (zp (zl (ze rfl) rfl (eqT' true (by simp;omega) _)))
  have B:∀{X:Res Fl},zgw (yU n) [some (.ref d),some (.int (b:Int)),some (.int w),none,none,none] s1=X->zb4 (yU n) [some (.ref d),some (.int (b:Int)),none,none,none,none] st=X:=fun h=>A (zo (zF (jP (zp (zl (ze rfl) rfl (eqT' false (by simp;omega) _))) (zp (zl (ze rfl) rfl (eqT' false (by simp;omega) _))))) h)
  by_cases c2:0<b/\(w=5\/w=6)
  ·obtain ⟨m,s2,e2,hm,n2⟩:=y7 n1.dc 4 (by decide)
   obtain ⟨b',rfl⟩:∃b',b=b'+1:=⟨b-1,by omega⟩
   have ee:((b'+1:Nat):Int)-1=(b':Int):=by omega
   obtain ⟨ys,s3,C,ts,q1,q2,q3,q4⟩:=zco (fe:=(zm (yU n) (zf (zd 1) (zf (zh yX (zd 2) (mC (.int 1))) zj)))) (fs:=(zf (zm yF (zf (zd 0) (zf (mC (.int 4)) zj))) zj)) (env:=[some (.ref d),some (.int ((b'+1:Nat):Int)),some (.int w),none,none,none]) (st:=s1) m (by omega) (zy (zt (zG (ze rfl) rfl) e2))
    (fun i ys s=>∃ts,TRs (vw R s) ts ys/\ts.length=i/\(∀t∈ts,gd t/\dp t<=b'/\sz t<=bd b')/\Nx d s2 s) (fun i ys s hi ⟨ts,h1,h2,h3,h4⟩=>by
     obtain ⟨v,s4,e4,t,k1,k2,k3,k4,k5⟩:=ih b' s R (by omega) h4.dc (fun r hr=>(n1.trans (n2.trans h4)).lt (hR r hr))
     refine ⟨v,s4,zt (zG (ze rfl) (zl (ze rfl) rfl ((wq _ _).trans (by rw [ee])))) e4,ts++[t],(TRs.mono (k5.vw h4.dc) _ h1).append ⟨v,[],rfl,k1,rfl⟩,by simp [h2],fun u hu=>?_,h4.trans k5⟩
     rcases List.mem_append.mp hu with q|q
     ·exact h3 u q
     ·rw [List.mem_singleton.mp q];exact ⟨k2,k3,k4⟩) ⟨[],rfl,rfl,(fun _ h=>nomatch h),Nx.refl n2.dc⟩
   have o4:=zZ s3 [SO.lst ys]
   refine ⟨.tup ys,s3++[.lst ys],zP rfl (B (yi (ye (wU (zp (zl (ze rfl) rfl (gtT true (by simp<;>omega) _))) ?_) (zO (zt (zy C) (by rw [zaU,yl (z0 _ _)])))))),.row ts,⟨ys,rfl,TRs.mono (ja o4) _ q1⟩,yH.mpr fun t ht=>(q3 t ht).1,?_,?_,(n1.trans n2).trans (q4.trans (Nx.of q4.dc o4))⟩
   ·rcases c2.2 with c|c
    ·exact zgg (zp (zl (ze rfl) rfl (eqT' true (by simp;omega) _)))
    ·exact jP (zp (zl (ze rfl) rfl (eqT' false (by simp;omega) _))) (zp (zl (ze rfl) rfl (eqT' true (by simp;omega) _)))
   ·have:=jU (ts:=ts) fun t ht=>(q3 t ht).2.1
    simp only [dp];omega
   ·have:=zax (ts:=ts) fun t ht=>(q3 t ht).2.2
    have:ts.length*bd b'<=3*bd b':=Nat.mul_le_mul_right _ (by omega)
    simp only [sz,bd];omega
  have C:∀{X:Res Fl},zgv (yU n) [some (.ref d),some (.int (b:Int)),some (.int w),none,none,none] s1=X->zb4 (yU n) [some (.ref d),some (.int (b:Int)),none,none,none,none] st=X:=fun h=>B (zo (zF (by
   by_cases hb0:0<b
   ·exact wU (zp (zl (ze rfl) rfl (gtT true (by simp;omega) _))) (jP (zp (zl (ze rfl) rfl (eqT' false (by simp;omega) _))) (zp (zl (ze rfl) rfl (eqT' false (by simp;omega) _))))
   ·exact zaY (zp (zl (ze rfl) rfl (gtT false (by simp;omega) _))))) h)
  by_cases c3:0<b/\w=7
  ·have nA:Nx d s1 (s1++[.dic [] []]):=Nx.of n1.dc (zZ _ _)
   obtain ⟨m,s2,e2,hm,n2⟩:=y7 nA.dc 4 (by decide)
   obtain ⟨b',rfl⟩:∃b',b=b'+1:=⟨b-1,by omega⟩
   have ee:((b'+1:Nat):Int)-1=(b':Int):=by omega
   have hds:d<s1.length:=by obtain ⟨l,q⟩:=n1.dc;exact yd q
   have hr2:s2[s1.length]?=some (.dic [] []):=n2.ob _ _ (by omega) (z0 _ _)
   obtain ⟨e',s3,F,⟨z4,z5,he⟩,Rc⟩:=zay (gt:=gN 4) (body:=(zq (zH 5 (zm zap (zf (zd 0) zj))) (y0 (zd 3) (zd 5) (zm (yU n) (zf (zd 0) (zf (zh yX (zd 1) (mC (.int 1))) zj)))))) (fs:=(zf (zm yF (zf (zd 0) (zf (mC (.int 4)) zj))) zj)) (e:=[some (.ref d),some (.int ((b'+1:Nat):Int)),some (.int w),some (.ref s1.length),none,none]) (st:=s1++[.dic [] []])
    (fun i e s=>(∃z4 z5,e=[some (.ref d),some (.int ((b'+1:Nat):Int)),some (.int w),some (.ref s1.length),z4,z5])/\Rec d s1.length R s1 (fun t=>gd t/\dp t<=b'/\sz t<=bd b') i s) m (by omega) (zy (zt (zG (ze rfl) rfl) e2)) (fun i e s hi ⟨⟨z4,z5,he⟩,Rc⟩=>by
     subst he
     obtain ⟨z,s4,e4,hz,n4⟩:=zd3 Rc.nx.dc
     have hrr:s1.length<s.length:=by obtain ⟨ks,ys,ts,h1,_⟩:=Rc.ex;exact yd h1
     obtain ⟨v,s5,e5,t,k1,k2,k3,k4,k5⟩:=ih b' s4 (s1.length::R) (by omega) n4.dc (fun r hr=>by
      rcases List.mem_cons.mp hr with q|q
      ·rw [q];exact n4.lt hrr
      ·exact (n1.trans (Rc.nx.trans n4)).lt (hR r q))
     have Rc4:Rec d s1.length R s1 (fun t=>gd t/\dp t<=b'/\sz t<=bd b') i s4:=by
      obtain ⟨ks,ys,ts,h1,h2,h3⟩:=Rc.ex
      exact ⟨Rc.nx.trans n4,ks,ys,ts,n4.ob _ _ (by omega) h1,TRs.mono (n4.vw Rc.nx.dc) _ h2,h3⟩
     obtain ⟨s6,e6,Rc6⟩:=Rc4.put (by omega) (Nat.le_refl _) hds k5 k1 ⟨k2,k3,k4⟩ hz (fo:=zd 3) (fi:=zd 5) (fv:=(zm (yU n) (zf (zd 0) (zf (zh yX (zd 1) (mC (.int 1))) zj)))) (e:=[some (.ref d),some (.int ((b'+1:Nat):Int)),some (.int w),some (.ref s1.length),some (.int (i:Int)),some (.str z)]) (zt (zG (ze rfl) (zl (ze rfl) rfl ((wq _ _).trans (by rw [ee])))) e5) (ze rfl) (ze rfl)
     exact ⟨_,_,s6,rfl,zo (zQ (zt (zy (ze rfl)) e4)) e6,⟨_,_,rfl⟩,Rc6⟩) ⟨⟨none,none,rfl⟩,nA.trans n2,[],[],[],hr2,rfl,.nil,rfl,Nat.le_refl _,(fun _ h=>nomatch h),(fun _ h=>nomatch h)⟩
   subst he
   have hrR:s1.length∉R:=fun h=>by
    have:=hR _ h
    have:=n1.lt this
    omega
   obtain ⟨ks,ts,q1,q2,q3,q4,q5,q6⟩:=Rc.tree hrR
   refine ⟨.ref s1.length,s3,zP rfl (C (yi (ye (wU (zp (zl (ze rfl) rfl (gtT true (by simp<;>omega) _))) (zp (zl (ze rfl) rfl (eqT' true (by simp;omega) _)))) (zo (zQ rfl) (zo F (zO (ze rfl))))))),.rec_ ks ts,q1,⟨q2,q3,q6,yH.mpr fun t ht=>(q5 t ht).1⟩,?_,?_,n1.trans Rc.nx⟩
   ·have:=jU (ts:=ts) fun t ht=>(q5 t ht).2.1
    simp only [dp];omega
   ·have:=zax (ts:=ts) fun t ht=>(q5 t ht).2.2
    have:ts.length*bd b'<=3*bd b':=Nat.mul_le_mul_right _ (by omega)
    simp only [sz,bd];omega
  obtain ⟨i,s2,e2,hi,n2⟩:=zhn n1.dc
  refine ⟨.int i,s2,zP rfl (C (zo (zF (by
   by_cases hb0:0<b
   ·exact wU (zp (zl (ze rfl) rfl (gtT true (by simp;omega) _))) (zp (zl (ze rfl) rfl (eqT' false (by simp;omega) _)))
   ·exact zaY (zp (zl (ze rfl) rfl (gtT false (by simp;omega) _))))) (zO (zt (zy (ze rfl)) e2)))),.num i,rfl,hi,by simp [dp],by simp only [sz];omega,n1.trans n2⟩
theorem zpS (ns:List Int) (st:Sto):∃d s1,zdA [.frl (ns.map PV.int)] st=.ok (.ref d) s1/\Dc d s1:=by
 have hcut:cutP (ns.map PV.int) none (some 180)=(ns.take 180).map PV.int:=by
  unfold cutP
  simp [HT.sIx]
 let a:=st++[SO.lst ((ns.take 180).map PV.int)]
 obtain ⟨ys,s1,C,⟨cs,hy,hc⟩,hs⟩:=zdR (fe:=(zh yj (zd 0) (mC (.int 2305843009213693951)))) (env:=[some (.frl (ns.map PV.int)),none,none,none,none,none]) (n:=st.length) ((ns.take 180).map PV.int) (fun i ys s=>(∃cs:List Int,ys=cs.map PV.int/\cs.length=i)/\s=a) (fun i ys s h=>by rw [h.2];exact z0 _ _) (fun i x ys s hx ⟨⟨cs,h1,h2⟩,h3⟩=>by
  rw [List.getElem?_map] at hx
  cases e:(ns.take 180)[i]? with
  | none=>rw [e] at hx;cases hx
  | some c =>
   rw [e] at hx
   cases hx
   exact ⟨.int (yB c 2305843009213693951),s,zl (ze rfl) rfl (jA _ _ (by decide)),⟨cs++[yB c 2305843009213693951],by rw [h1,List.map_append];rfl,by simp [h2]⟩,h3⟩) ((ns.take 180).map PV.int).length 0 (lim+1) [] a (by omega) (by simp [lim];omega) ⟨⟨[],rfl,rfl⟩,rfl⟩
 subst hs
 have C2:(yt (yM (wK (zd 0) pNone (pSome (mC (.int 180))))) (zh yj (zd 0) (mC (.int 2305843009213693951)))) [some (.frl (ns.map PV.int)),none,none,none,none,none] st=.ok (.ref a.length) (a++[.lst ys]):=by
  rw [zag,zfw,zdc (ze rfl) zm0 (zaZ rfl) (zlS ..),hcut]
  simp only [zw,seqOf]
  rw [yl (z0 _ _)]
  exact C
 have hl:cs.length<=180:=by rw [hc];simp;omega
 let b:=a++[SO.lst ys]
 have hb:(b++[SO.lst []])[a.length]?=some (.lst (cs.map PV.int)):=by rw [<-hy];exact zZ _ _ _ _ (z0 _ _)
 obtain ⟨e',s',F,⟨z3,z4,z5,he⟩,h1,l,h2,h3⟩:=zay (gt:=gN 3) (body:=(zq (zH 4 (mC (.int 1)))
  (zq (zK (mB (zh jw (zm yc (zf (zd 1) zj)) (mC (.int 0))))
  (zH 4 (zh zJ (zd 1) (zh yj (zd 3) (zm yc (zf (zd 1) zj)))))
  zL)
  (zq (zH 5 (zh ym (zh yj (zd 4) (mC (.int 2147483629))) (zh zR (zh ym (mC (.int 2)) (zd 3)) (mC (.int 1)))))
  (yY (jJ wR (zd 2) (zh yj (zh zR (zh zR (zd 5) (zh wb (zd 4) (mC (.int 65537)))) (zh ym (zh ym (mC (.int 7919)) (zd 3)) (zd 3))) (mC (.int 2147483647))))))))) (fs:=(zf (mC (.int 180)) zj)) (e:=[some (.frl (ns.map PV.int)),some (.ref a.length),some (.ref b.length),none,none,none]) (st:=b++[.lst []])
  (fun i e s=>(∃z3 z4 z5,e=[some (.frl (ns.map PV.int)),some (.ref a.length),some (.ref b.length),z3,z4,z5])/\s[a.length]?=some (.lst (cs.map PV.int))/\∃l:List Int,s[b.length]?=some (.lst (l.map PV.int))/\l.length=i) 180 (by decide) rfl (fun i e s hi ⟨⟨z3,z4,z5,he⟩,h1,l,h2,h3⟩=>by
   subst he
   have key:∃c:Int,(zK (mB (zh jw (zm yc (zf (zd 1) zj)) (mC (.int 0)))) (zH 4 (zh zJ (zd 1) (zh yj (zd 3) (zm yc (zf (zd 1) zj))))) zL) [some (.frl (ns.map PV.int)),some (.ref a.length),some (.ref b.length),some (.int (i:Int)),some (.int 1),z5] s=.ok (.nx [some (.frl (ns.map PV.int)),some (.ref a.length),some (.ref b.length),some (.int (i:Int)),some (.int c),z5]) s:=by
    have L:=zc9 h1
    rw [List.length_map] at L
    by_cases h0:0<cs.length
    ·obtain ⟨k,hk,ek⟩:=modNat (i:Int) cs.length h0
     have g:atI (cs.map PV.int) (k:Int)=some (.int (cs[k]'hk)):=atI_get (by rw [List.getElem?_map,List.getElem?_eq_getElem hk];rfl)
     exact ⟨cs[k]'hk,ye (zp (zl (zt (zy (ze rfl)) L) rfl (gtT true (by simp;omega) _))) (zQ (zl (ze rfl) (zl (ze rfl) (zt (zy (ze rfl)) L) ((jA _ _ (by omega)).trans (by rw [ek]))) (by rw [zaT,yl h1,g];rfl)))⟩
    ·exact ⟨1,zF (zp (zl (zt (zy (ze rfl)) L) rfl (gtT false (by rw [decide_eq_false_iff_not];omega) _)))⟩
   obtain ⟨c,K⟩:=key
   refine ⟨[some (.frl (ns.map PV.int)),some (.ref a.length),some (.ref b.length),some (.int (i:Int)),z4,z5],_,_,rfl,zo (zQ rfl) (zo K (zo (zQ (zl (zl (ze rfl) rfl (jA _ _ (by decide))) (zl (zl rfl (ze rfl) (jB _ _ (by simp [cMul]))) rfl (jQ _ _)) (jB _ _ (by simp only [cMul,Bool.or_eq_true,Bool.and_eq_true,decide_eq_true_eq];exact .inr ⟨by omega,by omega⟩)))) (wS (zdd (ze rfl) h2 (zl (zl (zl (ze rfl) (zl (ze rfl) rfl (zde _ _ (by decide) (by decide))) (jQ _ _)) (zl (zl rfl (ze rfl) (jB _ _ (by simp [cMul]))) (ze rfl) (jB _ _ (by simp only [cMul,Bool.or_eq_true,Bool.and_eq_true,decide_eq_true_eq];exact .inr ⟨by omega,by omega⟩))) (jQ _ _)) rfl (jA _ _ (by decide))) (by rw [zfR,yl h2,if_pos (by simp [lim];omega)]))))),⟨_,_,_,rfl⟩,?_,l++[yB (yB c 2147483629*(2*(i:Int)+1)+ju c 65537+7919*(i:Int)*(i:Int)) 2147483647],?_,by simp [h3]⟩
   ·rw [List.getElem?_set_ne (by simp [b])]
    exact h1
   ·rw [List.getElem?_set_self (yd h2),List.map_append]
    rfl) ⟨⟨none,none,none,rfl⟩,hb,[],z0 _ _,rfl⟩
 subst he
 exact ⟨b.length,s',zP rfl (zo (zQ C2) (zo (zQ (zam y3 (by simp))) (zo F (zO (ze rfl))))),l,h2⟩
theorem zpT {e:zc}{s:Sto}{z:Str}{v:PV}(h6:e[6]?=some (some (.str z))) (h4:e[4]?=some (some v)):zaX [((zd 6),(zd 4))] e s=.ok (.ref s.length) (s++[.dic [z] [v]]):=by
 have e0:(s++[SO.dic [] []])[s.length]?=some (.dic [] []):=z0 _ _
 have e1:isEmp (s++[SO.dic [] []])[s.length]?=true:=by rw [e0];rfl
 have e2:(s++[SO.dic [] []]).set s.length (.dic [z] [v])=s++[.dic [z] [v]]:=by simp
 unfold zaX
 have K:zbQ [((zd 6),(zd 4))] e (s++[SO.dic [] []])=.ok ([.str z],[v]) (s++[SO.dic [] []]):=by
  show (zd 6 e _).bind _=_
  rw [ze h6,zw]
  simp only
  rw [ze h4,zw]
  rfl
 rw [K,zw]
 show (if isEmp (s++[SO.dic [] []])[s.length]?=true then _ else _)=_
 rw [if_pos e1]
 show Res.ok _ ((s++[SO.dic [] []]).set s.length (.dic [z] [v]))=_
 rw [e2]
theorem zpU {d:Nat}{st:Sto}(hd:Dc d st):∃v s1,zb5 [.ref d] st=.ok v s1/\Made d [] st 59 60 s1 v:=by
 obtain ⟨w,s1,e1,hw,n1⟩:=y7 hd 5 (by decide)
 obtain ⟨c,s2,e2,hc,n2⟩:=y7 n1.dc 1000003 (by decide)
 have A:∀{X:Res Fl},zgB [some (.ref d),some (.int w),some (.int c),some (.str abc),none,none,none,none] s2=X->za7 [some (.ref d),none,none,none,none,none,none,none] st=X:=fun h=>zo (zQ (zt (zG (ze rfl) rfl) e1)) (zo (zQ (zt (zG (ze rfl) rfl) e2)) (zo (zQ rfl) h))
 by_cases c0:w=0
 ·obtain ⟨ys,s3,C,ts,q1,q2,q3,hs⟩:=zco (fe:=(zh yX (zh yj (zh ym (zd 3) (zh zR (zd 0) (mC (.int 1)))) (mC (.int 1999))) (mC (.int 999)))) (fs:=(zf (mC (.int 59)) zj)) (env:=[some (.ref d),some (.int w),some (.int c),some (.str abc),none,none,none,none]) (st:=s2) 59 (by decide) rfl (fun i ys s=>∃ts,TRs (vw [] s) ts ys/\ts.length=i/\(∀t∈ts,gd t/\dp t<=0/\sz t<=1)/\s=s2) (fun i ys s hi ⟨ts,h1,h2,h3,h4⟩=>by
   obtain ⟨k,hk,ek⟩:=modNat ((c:Int)*((i:Int)+1)) 1999 (by decide)
   have ek:yB ((c:Int)*((i:Int)+1)) 1999=(k:Int):=ek
   refine ⟨.int ((k:Int)-999),s,zl (zl (zl (ze rfl) (zl (ze rfl) rfl (jQ _ _)) (jB _ _ (by simp only [cMul,Bool.or_eq_true,Bool.and_eq_true,decide_eq_true_eq];exact .inr ⟨by omega,by omega⟩))) rfl ((jA _ _ (by decide)).trans (by rw [ek]))) rfl (wq _ _),ts++[.num ((k:Int)-999)],h1.append (us:=[.num ((k:Int)-999)]) ⟨_,[],rfl,rfl,rfl⟩,by simp [h2],fun u hu=>?_,h4⟩
   rcases List.mem_append.mp hu with q|q
   ·exact h3 u q
   ·rw [List.mem_singleton.mp q];exact ⟨⟨by omega,by omega⟩,by simp [dp],by simp [sz]⟩) ⟨[],rfl,rfl,(fun _ h=>nomatch h),rfl⟩
  subst hs
  have:=zax (ts:=ts) fun t ht=>(q3 t ht).2.2
  have:=jU (ts:=ts) fun t ht=>(q3 t ht).2.1
  refine ⟨.tup ys,s3++[.lst ys],zP rfl (A (yi (ye (zp (zl (ze rfl) rfl (eqT' true (by simp;omega) _))) (zO (zt (zy C) (by rw [zaU,yl (z0 _ _)])))))),.row ts,⟨ys,rfl,TRs.mono (ja (zZ _ _)) _ q1⟩,yH.mpr fun t ht=>(q3 t ht).1,by simp only [dp];omega,by simp only [sz];omega,(n1.trans n2).trans (Nx.of n2.dc (zZ _ _))⟩
 have B:∀{X:Res Fl},zgA [some (.ref d),some (.int w),some (.int c),some (.str abc),none,none,none,none] s2=X->za7 [some (.ref d),none,none,none,none,none,none,none] st=X:=fun h=>A (zo (zF (zp (zl (ze rfl) rfl (eqT' false (by simp;omega) _)))) h)
 by_cases c1:w=1
 ·obtain ⟨m,hm,em⟩:=modNat (c:Int) 60 (by decide)
  have em:yB (c:Int) 60=(m:Int):=em
  obtain ⟨ys,s3,C,ts,q1,q2,q3,hs⟩:=zco (fe:=(wa zj)) (fs:=(zf (zh yj (zd 2) (mC (.int 60))) zj)) (env:=[some (.ref d),some (.int w),some (.int c),some (.str abc),none,none,none,none]) (st:=s2) m (by omega) (zy (zl (ze rfl) rfl ((jA _ _ (by decide)).trans (by rw [em])))) (fun i ys s=>∃ts,TRs (vw [] s) ts ys/\ts.length=i/\(∀t∈ts,gd t/\dp t<=1/\sz t<=1)/\s=s2) (fun i ys s hi ⟨ts,h1,h2,h3,h4⟩=>by
   refine ⟨.tup [],s,zda y3 (by simp),ts++[.row []],h1.append (us:=[.row []]) ⟨_,[],rfl,⟨[],rfl,rfl⟩,rfl⟩,by simp [h2],fun u hu=>?_,h4⟩
   rcases List.mem_append.mp hu with q|q
   ·exact h3 u q
   ·rw [List.mem_singleton.mp q];exact ⟨True.intro,by simp [dp,dps],by simp [sz,szs]⟩) ⟨[],rfl,rfl,(fun _ h=>nomatch h),rfl⟩
  subst hs
  have:=zax (ts:=ts) fun t ht=>(q3 t ht).2.2
  have:=jU (ts:=ts) fun t ht=>(q3 t ht).2.1
  refine ⟨.tup ys,s3++[.lst ys],zP rfl (B (yi (ye (zp (zl (ze rfl) rfl (eqT' true (by simp;omega) _))) (zO (zt (zy C) (by rw [zaU,yl (z0 _ _)])))))),.row ts,⟨ys,rfl,TRs.mono (ja (zZ _ _)) _ q1⟩,yH.mpr fun t ht=>(q3 t ht).1,by simp only [dp];omega,by simp only [sz];omega,(n1.trans n2).trans (Nx.of n2.dc (zZ _ _))⟩
 obtain ⟨i0,s3,e3,hi0,n3⟩:=zhn n2.dc
 have D:∀{X:Res Fl},zgz [some (.ref d),some (.int w),some (.int c),some (.str abc),some (.int i0),none,none,none] s3=X->za7 [some (.ref d),none,none,none,none,none,none,none] st=X:=fun h=>B (zo (zF (zp (zl (ze rfl) rfl (eqT' false (by simp;omega) _)))) (zo (zQ (zt (zy (ze rfl)) e3)) h))
 have n123:=n1.trans (n2.trans n3)
 by_cases c2:w=2
 ·obtain ⟨e',s',F,z5,v,t,he,q1,q2,q3,q4,hs⟩:=zay (gt:=gN 5) (body:=(zH 4 (wa (zf (zd 4) zj)))) (fs:=(zf (mC (.int 59)) zj)) (e:=[some (.ref d),some (.int w),some (.int c),some (.str abc),some (.int i0),none,none,none]) (st:=s3) (fun i e s=>∃z5 v t,e=[some (.ref d),some (.int w),some (.int c),some (.str abc),some v,z5,none,none]/\TR (vw [] s) t v/\gd t/\dp t<=i/\sz t<=i+1/\s=s3) 59 (by decide) rfl (fun i e s hi ⟨z5,v,t,he,q1,q2,q3,q4,hs⟩=>by
   subst he
   exact ⟨_,_,s,rfl,zQ (zda (zy (ze rfl)) (by simp)),_,_,.row [t],rfl,⟨[v],rfl,v,[],rfl,q1,rfl⟩,⟨q2,True.intro⟩,by simp only [dp,dps];omega,by simp only [sz,szs];omega,hs⟩) ⟨none,.int i0,.num i0,rfl,rfl,hi0,by simp [dp],by simp [sz],rfl⟩
  subst he hs
  exact ⟨v,s',zP rfl (D (yi (ye (zp (zl (ze rfl) rfl (eqT' true (by simp;omega) _))) (zo F (zO (ze rfl)))))),t,q1,q2,q3,by omega,n123⟩
 have E:∀{X:Res Fl},zgy [some (.ref d),some (.int w),some (.int c),some (.str abc),some (.int i0),none,none,none] s3=X->za7 [some (.ref d),none,none,none,none,none,none,none] st=X:=fun h=>D (zo (zF (zp (zl (ze rfl) rfl (eqT' false (by simp;omega) _)))) h)
 by_cases c3:w=3
 ·obtain ⟨z,s4,e4,hz,n4⟩:=zd3 n3.dc
  obtain ⟨e',s',F,z5,v,t,he,q1,q2,q3,q4,hs⟩:=zay (gt:=gN 5) (body:=(zH 4 (zaX [((zd 6),(zd 4))]))) (fs:=(zf (mC (.int 59)) zj)) (e:=[some (.ref d),some (.int w),some (.int c),some (.str abc),some (.int i0),none,some (.str z),none]) (st:=s4) (fun i e s=>∃z5 v t,e=[some (.ref d),some (.int w),some (.int c),some (.str abc),some v,z5,some (.str z),none]/\TR (vw [] s) t v/\gd t/\dp t<=i/\sz t<=i+1/\Nx d s4 s) 59 (by decide) rfl (fun i e s hi ⟨z5,v,t,he,q1,q2,q3,q4,hs⟩=>by
   subst he
   exact ⟨_,_,s++[.dic [z] [v]],rfl,zQ (zpT rfl rfl),_,_,.rec_ [z] [t],rfl,⟨s.length,[v],rfl,jV.mpr ⟨by simp,z0 _ _⟩,by simp,rfl,⟨v,[],rfl,TR.mono (ja (zZ _ _)) _ q1,rfl⟩,fun k hk=>by rw [List.mem_singleton.mp hk];have:=y6 hz;omega⟩,⟨by simp,rfl,fun k hk=>by rw [List.mem_singleton.mp hk];exact hz,q2,True.intro⟩,by simp only [dp,dps];omega,by simp only [sz,szs];omega,hs.trans (Nx.of hs.dc (zZ _ _))⟩) ⟨none,.int i0,.num i0,rfl,rfl,hi0,by simp [dp],by simp [sz],Nx.refl n4.dc⟩
  subst he
  exact ⟨v,s',zP rfl (E (yi (ye (zp (zl (ze rfl) rfl (eqT' true (by simp;omega) _))) (zo (zQ (zt (zy (ze rfl)) e4)) (zo F (zO (ze rfl))))))),t,q1,q2,q3,by omega,n123.trans (n4.trans hs)⟩
 have nA:Nx d s3 (s3++[.dic [] []]):=Nx.of n3.dc (zZ _ _)
 have hds:d<s3.length:=by obtain ⟨l,q⟩:=n3.dc;exact yd q
 obtain ⟨e',s',F,⟨z5,z6,he⟩,Rc⟩:=zay (gt:=gN 5) (body:=(zq (zH 6 (zh zR (zh zJ (zd 3) (zh yj (zh zR (zd 2) (zh ym (mC (.int 7)) (zd 5))) (mC (.int 26)))) (zh zJ (zd 3) (zh wb (zd 5) (mC (.int 26))))))
  (y0 (zd 7) (zd 6) (zh yj (zh ym (zd 2) (zd 5)) (mC (.int 1999)))))) (fs:=(zf (mC (.int 59)) zj)) (e:=[some (.ref d),some (.int w),some (.int c),some (.str abc),some (.int i0),none,none,some (.ref s3.length)]) (st:=s3++[.dic [] []])
  (fun i e s=>(∃z5 z6,e=[some (.ref d),some (.int w),some (.int c),some (.str abc),some (.int i0),z5,z6,some (.ref s3.length)])/\Rec d s3.length [] s3 (fun t=>gd t/\dp t<=0/\sz t<=1) i s) 59 (by decide) rfl (fun i e s hi ⟨⟨z5,z6,he⟩,Rc⟩=>by
   subst he
   obtain ⟨k1,hk1,ek1⟩:=modNat ((c:Int)+7*(i:Int)) 26 (by decide)
   have ek1:yB ((c:Int)+7*(i:Int)) 26=(k1:Int):=ek1
   have ek2:ju (i:Int) 26=((i/26:Nat):Int):=by rw [zpi _ _ (by decide)];omega
   obtain ⟨k3,hk3,ek3⟩:=modNat ((c:Int)*(i:Int)) 1999 (by decide)
   have ek3:yB ((c:Int)*(i:Int)) 1999=(k3:Int):=ek3
   obtain ⟨l1,m1⟩:=zd1 k1 hk1 s
   obtain ⟨l2,m2⟩:=zd1 (i/26) (by omega) s
   have hz:isW (S [yQ k1,yQ (i/26)])=true:=zhq (by simp) (by simp) (fun x hx=>by
    rcases List.mem_cons.mp hx with q|q
    ·rw [q];exact m1
    ·rw [List.mem_singleton.mp q];exact m2)
   obtain ⟨s6,e6,Rc6⟩:=Rc.put (t:=.num (k3:Int)) (x:=.int (k3:Int)) (z:=S [yQ k1,yQ (i/26)]) (by omega) (Nat.le_refl _) hds (Nx.refl Rc.nx.dc) rfl ⟨⟨by omega,by omega⟩,by simp [dp],by simp [sz]⟩ hz (fo:=zd 7) (fi:=zd 6) (fv:=(zh yj (zh ym (zd 2) (zd 5)) (mC (.int 1999)))) (e:=[some (.ref d),some (.int w),some (.int c),some (.str abc),some (.int i0),some (.int (i:Int)),some (.str (S [yQ k1,yQ (i/26)])),some (.ref s3.length)]) (zl (zl (ze rfl) (ze rfl) (jB _ _ (by simp only [cMul,Bool.or_eq_true,Bool.and_eq_true,decide_eq_true_eq];exact .inr ⟨by omega,by omega⟩))) rfl ((jA _ _ (by decide)).trans (by rw [ek3]))) (ze rfl) (ze rfl)
   exact ⟨_,_,s6,rfl,zo (zQ (zl (zl (ze rfl) (zl (zl (ze rfl) (zl rfl (ze rfl) (jB _ _ (by simp [cMul]))) (jQ _ _)) rfl ((jA _ _ (by decide)).trans (by rw [ek1]))) l1) (zl (ze rfl) (zl (ze rfl) rfl ((zde _ _ (by decide) (by decide)).trans (by rw [ek2]))) l2) ((ad _ _ (by show 1+1<=1000000;decide) s).trans (by rw [show (⟨#[yQ k1]⟩:Str)=S [yQ k1] from rfl,show (⟨#[yQ (i/26)]⟩:Str)=S [yQ (i/26)] from rfl,jE];rfl)))) e6,⟨_,_,rfl⟩,Rc6⟩) ⟨⟨none,none,rfl⟩,nA,[],[],[],z0 _ _,rfl,.nil,rfl,Nat.le_refl _,(fun _ h=>nomatch h),(fun _ h=>nomatch h)⟩
 subst he
 obtain ⟨ks,ts,q1,q2,q3,q4,q5,q6⟩:=Rc.tree (by simp)
 have:=zax (ts:=ts) fun t ht=>(q5 t ht).2.2
 have:=jU (ts:=ts) fun t ht=>(q5 t ht).2.1
 exact ⟨.ref s3.length,s',zP rfl (E (zo (zF (zp (zl (ze rfl) rfl (eqT' false (by simp;omega) _)))) (zo (zQ rfl) (zo F (zO (ze rfl)))))),.rec_ ks ts,q1,⟨q2,q3,q6,yH.mpr fun t ht=>(q5 t ht).1⟩,by simp only [dp];omega,by simp only [sz];omega,n123.trans Rc.nx⟩
def sgAt (l:List Nat) (i:Nat):Str:=⟨((l.drop i).take 1).toArray⟩
theorem zpV {l:List Nat}{i:Nat}(h:l[i]?=none):sgAt l i=⟨#[]⟩:=by
 unfold sgAt
 rw [List.drop_eq_nil_of_le (List.getElem?_eq_none_iff.mp h)]
 rfl
theorem zpW {z:Str}{i:Nat}(h:i<=z.length):PySem.Txt.slice z (some (i:Int)) (some ((i:Int)+1))=sgAt z.cps.toList i:=by
 have hl:z.cps.toList.length=z.length:=by simp [Str.length]
 by_cases hi:i<z.length
 ·have e:=beq_iff_eq.mp (PyProof.Rows.slice_closesL (x:=z) (i:=(i:Int)) (j:=(i:Int)+1) (by omega) (by omega) (by omega))
  rw [e]
  have e1:((i:Int)).toNat=i:=by omega
  have e2:((i:Int)+1-(i:Int)).toNat=1:=by omega
  rw [e1,e2]
  rfl
 ·have e:i=z.length:=by omega
  have hn:z.cps.toList[i]?=none:=List.getElem?_eq_none_iff.mpr (by omega)
  rw [zpV hn]
  subst e
  have hix:PySem.Builtin.Str.strSliceIndices (some (z.length:Int)) (some ((z.length:Int)+1)) 1 z.length=[]:=by
   unfold PySem.Builtin.Str.strSliceIndices PySem.sliceRange
   have a1:¬((z.length:Int)<0):=by omega
   have a2:¬((z.length:Int)+1<0):=by omega
   have a3:min ((z.length:Int)+1) (z.length:Int)=(z.length:Int):=by omega
   have a4:min (z.length:Int) (z.length:Int)=(z.length:Int):=by omega
   have a5:max 0 (z.length:Int)=(z.length:Int):=by omega
   simp only [show (1:Int)>0 by decide,if_true,if_neg a1,if_neg a2,a3,a4,a5]
   rw [if_neg (Int.lt_irrefl _)]
   rfl
  unfold PySem.Txt.slice
  rw [hix]
  by_cases h0:z.length=0
  ·have:z=⟨#[]⟩:=by
    cases z with
    | mk a =>
     have:a.size=0:=h0
     have:a=#[]:=Array.eq_empty_of_size_eq_zero this
     rw [this]
   rw [this]
   rfl
  ·rw [if_neg (by
    intro c
    simp only [Bool.and_eq_true,beq_iff_eq,List.length_nil] at c
    omega)]
   rfl
theorem zpX {z:Str}{i k:Nat}(h1:i<=k) (h2:k<=z.length):PySem.Txt.slice z (some (i:Int)) (some (k:Int))=⟨((z.cps.toList.drop i).take (k-i)).toArray⟩:=by
 have e:=beq_iff_eq.mp (PyProof.Rows.slice_closesL (x:=z) (i:=(i:Int)) (j:=(k:Int)) (by omega) (by omega) (by omega))
 rw [e]
 have e1:((i:Int)).toNat=i:=by omega
 have e2:((k:Int)-(i:Int)).toNat=k-i:=by omega
 rw [e1,e2]
abbrev rd (L:List Nat) (p b:Nat):SO:=.ins "ValueReader" ["text", "place", "begun"] [.str (S L),.int (p:Int),.int (b:Int)]
section
variable {o p b:Nat}{L:List Nat}{s s1:Sto}{e:zc}
theorem insV:insOf "ValueReader" = true:=by simp [insOf]
theorem wY (h:s[o]?=some (rd L p b)):fldAt "text" insOf excOf (.ref o) s=.ok (.str (S L)) s:=by
 show yh s o _=_
 unfold yh
 rw [h]
 simp only [insV,if_true]
 rfl
theorem jW (h:s[o]?=some (rd L p b)):fldAt "place" insOf excOf (.ref o) s=.ok (.int (p:Int)) s:=by
 show yh s o _=_
 unfold yh
 rw [h]
 simp only [insV,if_true]
 rfl
theorem zpY (h:s[o]?=some (rd L p b)):fldAt "begun" insOf excOf (.ref o) s=.ok (.int (b:Int)) s:=by
 show yh s o _=_
 unfold yh
 rw [h]
 simp only [insV,if_true]
 rfl
theorem zht {f:Str} {xs:List PV} {i:Int} {X:SO} (ho:e[0]?=some (some (.ref o))) (h:s[o]?=some (.ins "ValueReader" ["text", "place", "begun"] xs)) (hl:((["text", "place", "begun"]:List Str).zip xs).lookup f=some (.int i)) (hX:SO.ins "ValueReader" (putK f (.int (i+1)) ["text", "place", "begun"] xs).1 (putK f (.int (i+1)) ["text", "place", "begun"] xs).2=X):jM f insOf (zd 0) (mC (.int 1)) e s=.ok (.nx e) (s.set o X):=by
 unfold jM
 rw [ze ho,zw]
 show yh s o _=_
 unfold yh
 rw [h]
 simp only [insV,if_true,hl]
 show yh s o _=_
 unfold yh
 rw [h]
 simp only
 rw [if_pos ⟨trivial,by decide⟩,hX]
theorem zd4 (ho:e[0]?=some (some (.ref o))) (h:s[o]?=some (rd L p b)):jM "place" insOf (zd 0) (mC (.int 1)) e s=.ok (.nx e) (s.set o (rd L (p+1) b)):=zht (i:=(p:Int)) ho h rfl rfl
theorem zpZ (ho:e[0]?=some (some (.ref o))) (h:s[o]?=some (rd L p b)):jM "begun" insOf (zd 0) (mC (.int 1)) e s=.ok (.nx e) (s.set o (rd L p (b+1))):=zht (i:=(b:Int)) ho h rfl rfl
theorem yx {name:Str} {tab:Str->Option (List PV->Mo PV)} {fo:zc->Mo PV} {fs:zc->Mo (List PV)} {m:List PV->Mo PV} {ys:List PV} {X:Res PV} (ho:fo e s=.ok (.ref o) s) (h:s[o]?=some (rd L p b)) (hn:name∉(["text", "place", "begun"]:List Str)) (ht:tab "ValueReader" = some m) (hf:fs e s=.ok ys s1) (hm:m (.ref o::ys) s1=X):zX name tab fo fs e s=X:=by
 unfold zX
 rw [ho,zw]
 show yh s o _=_
 unfold yh
 rw [h]
 simp only
 rw [if_neg hn,ht]
 simp only
 rw [hf,zw,hm]
theorem zd5 {m n:Nat}{g:zc->Mo Fl}{xs:List PV}{st r:Sto}{e:zc}(hl:xs.length=m) (h:g (xs.map some++List.replicate (n-m) none) st=.ok (.nx e) r):zU m n g xs st=.ok .non r:=by
 unfold zU
 rw [if_pos hl,h,zw];rfl
theorem wB {l r:List Nat}{i:Nat}(h:L.drop p=l++r) (hp:p<=L.length):p+l.length<=L.length:=by
 have:=congrArg List.length h
 simp at this;omega
theorem j3 {l r:List Nat}(h:L.drop p=l++r):L.drop (p+l.length)=r:=by
 rw [<-List.drop_drop,h,List.drop_left]
theorem zp0 (hp:p<=L.length) (hl:L.length<=100000):oSl (.str (S L)) (some (p:Int)) (some ((p:Int)+1)) s=.ok (.str (S ((L.drop p).take 1))) s:=by
 show (if (S L).length<=lim then _ else _)=_
 rw [if_pos (by rw [yP];simp [lim];omega),zpW (by rw [yP];exact hp)]
 simp [sgAt]
theorem zd6 (h:s[o]?=some (rd L p b)) (hp:p<=L.length) (hl:L.length<=100000):m_ValueReader_sign_here [.ref o] s=.ok (.str (S ((L.drop p).take 1))) s :=
 zP rfl (zO (zdc (yv (ze rfl) (wY h)) (zaZ (yv (ze rfl) (jW h))) (zaZ (zl (yv (ze rfl) (jW h)) rfl (jQ _ _))) (zp0 hp hl)))
theorem zp1 {a c:List Nat}(h:S a=S c):a=c:=by have:=congrArg (fun z:Str=>z.cps.toList) h;simpa [S] using this
theorem nes {x y:Str}(c:Bool) (h:decide (x=y)=c) (st:Sto):j0 (.str x) (.str y) st=.ok (.bl (!c)) st:=by rw [zm4,h]
theorem wC {c:Nat}{r:List Nat}(h:s[o]?=some (rd L p b)) (hp:p<=L.length) (hl:L.length<=100000) (hd:L.drop p=c::r):m_ValueReader_passes [.ref o,.str (S [c])] s=.ok (.bl true) (s.set o (rd L (p+1) b)) :=
 zP rfl (zo (zF (zp (zl (yx (ze rfl) h (by decide) (if_pos rfl) y3 (zd6 h hp hl)) (ze rfl) (nes true (by rw [hd];simp) s)))) (zo (zd4 rfl h) (zO rfl)))
theorem j4 {c:Nat}(h:s[o]?=some (rd L p b)) (hp:p<=L.length) (hl:L.length<=100000) (hd:(L.drop p).take 1≠[c]):m_ValueReader_passes [.ref o,.str (S [c])] s=.ok (.bl false) s :=
 zP rfl (yi (ye (zp (zl (yx (ze rfl) h (by decide) (if_pos rfl) y3 (zd6 h hp hl)) (ze rfl) (nes false (by rw [decide_eq_false_iff_not];exact fun e=>hd (zp1 e)) s))) (zO rfl)))
theorem zd7 {c:Nat}{r:List Nat}(h:s[o]?=some (rd L p b)) (hp:p<=L.length) (hl:L.length<=100000) (hd:L.drop p=c::r):m_ValueReader_pass_sign [.ref o,.str (S [c])] s=.ok .non (s.set o (rd L (p+1) b)) :=
 zd5 rfl (zo (zF (zp (zl (yx (ze rfl) h (by decide) (if_pos rfl) y3 (zd6 h hp hl)) (ze rfl) (nes true (by rw [hd];simp) s)))) (zd4 rfl h))
end
structure Go (o:Nat) (L:List Nat) (s s':Sto) (p b:Nat):Prop where
 at_:s'[o]?=some (rd L p b)
 ob:Ob o s s'
section
variable {o p b:Nat}{L:List Nat}{s s1:Sto}{e:zc}
theorem Go.set {p' b':Nat}(h:s[o]?=some (rd L p b)):Go o L s (s.set o (rd L p' b')) p' b':=⟨List.getElem?_set_self (yd h),zgZ o s _⟩
theorem Go.refl (h:s[o]?=some (rd L p b)):Go o L s s p b:=⟨h,fun _ _ _ e=>e⟩
theorem Go.trans {s2:Sto}{p1 b1 p2 b2:Nat}(h:Go o L s s1 p1 b1) (h':Go o L s1 s2 p2 b2):Go o L s s2 p2 b2:=⟨h'.at_,h.ob.trans h'.ob⟩
theorem Go.old {s2:Sto}(h:s[o]?=some (rd L p b)) (o':Old s s2):Go o L s s2 p b:=⟨o' _ _ h,zgY o'⟩
theorem Go.lt {p1 b1:Nat}(h:Go o L s s1 p1 b1) {n:Nat}(hn:n<s.length):n<s1.length:=by
 by_cases e:n=o
 ·rw [e];exact yd h.at_
 ·exact yd (h.ob n _ e (List.getElem?_eq_getElem hn))
theorem Go.vw {p1 b1:Nat}{R:List Nat}(h:Go o L s s1 p1 b1) (hs:s[o]?=some (rd L p b)):Dk (FK21.vw R s) (FK21.vw R s1):=wX fun n ks xs hn e=>⟨hn,h.ob n _ (fun q=>by rw [q,hs] at e;cases e) e⟩
theorem ix_str {c:Nat}(hl:L.length<=100000) (h:L[p]?=some c):zJ (.str (S L)) (.int (p:Int)) s=.ok (.str ⟨#[c]⟩) s:=by
 rw [zfP,if_pos (by rw [yP];simp [lim];omega)]
 have:(S L).cps.toList=L:=by simp [S]
 rw [this,atI_get h]
 rfl
theorem len_str (hl:L.length<=100000):yc [.str (S L)] s=.ok (.int (L.length:Int)) s:=by
 show (if (S L).length<=lim then _ else _)=_
 rw [if_pos (by rw [yP];simp [lim];omega),yP]
abbrev tR:zc->Mo Bool:=(jG (mB (zh wJ (yg (fldAt "place" insOf excOf) (zd 0)) (zm yc (zf (yg (fldAt "text" insOf excOf) (zd 0)) zj)))) (mB (zh (yK false) (zh zJ (yg (fldAt "text" insOf excOf) (zd 0)) (yg (fldAt "place" insOf excOf) (zd 0))) (zd 1))))
theorem j5 {c:Nat}{r:List Nat}(h:L.drop p=c::r):L[p]?=some c/\p<L.length/\L.drop (p+1)=r:=by
 have hlt:p<L.length:=by
  rcases Nat.lt_or_ge p L.length with q|q
  ·exact q
  ·rw [List.drop_of_length_le q] at h;cases h
 rw [List.drop_eq_getElem_cons hlt] at h
 injection h with h1 h2
 exact ⟨by rw [List.getElem?_eq_getElem hlt,h1],hlt,h2⟩
theorem in_str (c:Nat) (z:Str):yK false (.str ⟨#[c]⟩) (.str z) s=.ok (.bl (decide (c∈z.cps.toList))) s:=by
 show Res.ok (PV.bl (false.xor (decide (c∈z.cps.toList)))) s=_
 simp
theorem zhu {sg:Str}{x:Option PV}{r:List Nat}(hl:L.length<=100000) (hr:r=[]\/∃c r',r=c::r'/\c∉sg.cps.toList):∀(w:List Nat) (p fuel:Nat) (s:Sto),s[o]?=some (rd L p b)->p<=L.length->L.drop p=w++r->(∀c∈w,c∈sg.cps.toList)->w.length<fuel ->
  ∃s',whileF tR (jM "place" insOf (zd 0) (mC (.int 1))) fuel [some (.ref o),some (.str sg),x] s=.ok (.nx [some (.ref o),some (.str sg),x]) s'/\Go o L s s' (p+w.length) b
 | [],p,fuel,s,h,hp,hd,_,hf=>by
  obtain ⟨f,rfl⟩:∃f,fuel=f+1:=⟨fuel-1,by simp at hf;omega⟩
  refine ⟨s,?_,Go.refl h⟩
  rw [zaa]
  have T:tR [some (.ref o),some (.str sg),x] s=.ok false s:=by
   rcases hr with q|⟨c,r',q,hc⟩
   ·have:p=L.length:=by
     rw [q] at hd
     have:=congrArg List.length hd
     simp at this;omega
    exact zaY (zp (zl (yv (ze rfl) (jW h)) (zt (zy (yv (ze rfl) (wY h))) (len_str hl)) (ltT false (by simp;omega) _)))
   ·rw [q] at hd
    obtain ⟨g1,g2,_⟩:=j5 hd
    exact wU (zp (zl (yv (ze rfl) (jW h)) (zt (zy (yv (ze rfl) (wY h))) (len_str hl)) (ltT true (by simp;omega) _))) (zp (zl (zl (yv (ze rfl) (wY h)) (yv (ze rfl) (jW h)) (ix_str hl g1)) (ze rfl) ((in_str c sg).trans (by rw [decide_eq_false hc]))))
  rw [T,zw]
  rfl
 | c::w,p,fuel,s,h,hp,hd,ha,hf=>by
  obtain ⟨f,rfl⟩:∃f,fuel=f+1:=⟨fuel-1,by simp at hf;omega⟩
  obtain ⟨g1,g2,g3⟩:=j5 hd
  have T:tR [some (.ref o),some (.str sg),x] s=.ok true s:=wU (zp (zl (yv (ze rfl) (jW h)) (zt (zy (yv (ze rfl) (wY h))) (len_str hl)) (ltT true (by simp;omega) _))) (zp (zl (zl (yv (ze rfl) (wY h)) (yv (ze rfl) (jW h)) (ix_str hl g1)) (ze rfl) ((in_str c sg).trans (by rw [decide_eq_true (ha c (List.mem_cons_self ..))]))))
  have G:Go o L s (s.set o (rd L (p+1) b)) (p+1) b:=Go.set h
  obtain ⟨s',e',G'⟩:=zhu hl hr w (p+1) f (s.set o (rd L (p+1) b)) G.at_ (by omega) g3 (fun d hd=>ha d (List.mem_cons_of_mem _ hd)) (by simp at hf;omega)
  refine ⟨s',?_,by rw [List.length_cons,show p+(w.length+1)=p+1+w.length by omega];exact G.trans G'⟩
  rw [zaa,T,zw,if_pos rfl,zd4 rfl h,zw]
  exact e'
theorem zd8 {sg:Str}{w r:List Nat}(h:s[o]?=some (rd L p b)) (hp:p<=L.length) (hl:L.length<=100000) (hd:L.drop p=w++r) (ha:∀c∈w,c∈sg.cps.toList) (hr:r=[]\/∃c r',r=c::r'/\c∉sg.cps.toList):∃s',m_ValueReader_run_of [.ref o,.str sg] s=.ok (.str (S w)) s'/\Go o L s s' (p+w.length) b:=by
 have hw:=wB (i:=0) hd hp
 obtain ⟨s',e',G⟩:=zhu (x:=some (.int (p:Int))) hl hr w p lim s h hp hd ha (by simp [lim];omega)
 refine ⟨s',zP rfl (zo (zQ (yv (ze rfl) (jW h))) (zo e' (zO (zdc (yv (ze rfl) (wY G.at_)) (zaZ (ze rfl)) (zaZ (yv (ze rfl) (jW G.at_))) ?_)))),G⟩
 show (if (S L).length<=lim then _ else _)=_
 rw [if_pos (by rw [yP];simp [lim];omega),zpX (by omega) (by rw [yP];omega)]
 have:(S L).cps.toList=L:=by simp [S]
 rw [this,hd,show p+w.length-p=w.length by omega,List.take_left]
theorem zd9 {fa fb fc:zc->Mo PV}{i j k:Int}(h1:fa e s=.ok (.int i) s) (h2:fb e s=.ok (.int j) s) (h3:fc e s=.ok (.int k) s) (hij:i<=j) (c:Bool) (hc:decide (j<=k)=c):wH we we fa fb fc e s=.ok (.bl c) s:=by
 unfold wH
 rw [h1,zw,h2,zw,zgh,zw,decide_eq_true hij,zc0,zw,if_pos rfl,h3,zw,zgh,hc]
theorem zp2 {z:Str}(h:isW z=true):∃s1,zdK [.str z] s=.ok (.bl true) s1/\Old s s1:=by
 have hz:=y6 h
 have hc:∀c∈z.cps.toList,c∈abc.cps.toList:=by
  simp only [isW,Bool.and_eq_true,List.all_eq_true,decide_eq_true_eq] at h
  exact h.2
 have hn:(signs z).length=z.length:=by simp [signs,Str.length]
 obtain ⟨ys,s1,C,hy,hs⟩:=za9 (fe:=(zh (yK false) (zd 0) (mC (.str "abcdefghijklmnopqrstuvwxyz")))) (env:=[some (.str z)]) (signs z) (fun i ys s'=>ys=(List.replicate i true).map PV.bl/\s'=s) (fun i x ys s' hx ⟨h1,h2⟩=>by
  unfold signs at hx
  rw [List.getElem?_map] at hx
  cases e:z.cps.toList[i]? with
  | none=>rw [e] at hx;cases hx
  | some c =>
   rw [e] at hx
   cases hx
   refine ⟨.bl true,s',zl (ze rfl) rfl ((in_str c _).trans (by rw [decide_eq_true (hc c (List.mem_of_getElem? e))])),?_,h2⟩
   rw [h1,List.replicate_succ',List.map_append];rfl) (signs z).length 0 [] s (by omega) ⟨rfl,rfl⟩
 subst hs
 refine ⟨s1++[.lst ys],?_,zZ _ _⟩
 have A:=zc8 (st:=s1++[.lst ys]) (n:=s1.length) (bs:=List.replicate (signs z).length true) (by rw [<-hy];exact z0 _ _)
 rw [allT] at A
 have is:yf isT [.str z,.ty "str"] s1=.ok (.bl true) s1:=rfl
 have ln:yc [.str z] s1=.ok (.int (z.length:Int)) s1:=by
  show (if z.length<=lim then _ else _)=_
  rw [if_pos (by simp [lim];omega)]
 refine zP rfl (zo (zF (jP (jh (b:=true) (zp (zt (zG (ze rfl) rfl) is))) (jh (b:=true) (zp (zd9 rfl (zt (zy (ze rfl)) ln) rfl (by omega) true (by simp;omega)))))) (zO (zt (zy ?_) A)))
 rw [zag]
 show compS _ _ (.im (signs z)) s1=_
 rw [zbP,if_pos (by rw [hn];simp [lim];omega)]
 exact C
def Stop (r:List Nat):Prop:=r=[]\/∃c r',r=c::r'/\(c=44\/c=93\/c=125\/c=58)
theorem Stop.abc {r:List Nat} (h:Stop r):r=[]\/∃c r',r=c::r'/\c∉("abcdefghijklmnopqrstuvwxyz" : Str).cps.toList:=h.imp id fun ⟨c,r',e,hc⟩=>⟨c,r',e,by
 rcases hc with q|q|q|q<;>(subst q;decide +kernel)⟩
theorem Stop.fig {r:List Nat} (h:Stop r):r=[]\/∃c r',r=c::r'/\c∉("0123456789" : Str).cps.toList:=h.imp id fun ⟨c,r',e,hc⟩=>⟨c,r',e,by
 rcases hc with q|q|q|q<;>(subst q;decide +kernel)⟩
theorem zhv {z:Str}{r:List Nat}(h:s[o]?=some (rd L p b)) (hp:p<=L.length) (hl:L.length<=100000) (hd:L.drop p=z.cps.toList++r) (hz:isW z=true) (hr:Stop r):∃s',m_ValueReader_read_word [.ref o] s=.ok (.str z) s'/\Go o L s s' (p+z.cps.toList.length) b:=by
 have hc:∀c∈z.cps.toList,c∈abc.cps.toList:=by
  simp only [isW,Bool.and_eq_true,List.all_eq_true,decide_eq_true_eq] at hz
  exact hz.2
 obtain ⟨s1,e1,G1⟩:=zd8 (sg := "abcdefghijklmnopqrstuvwxyz") h hp hl hd hc hr.abc
 rw [zav] at e1
 obtain ⟨s2,e2,o2⟩:=zp2 (s:=s1) hz
 exact ⟨s2,zP rfl (zo (zQ (yx (ze rfl) h (by decide) (if_pos rfl) (zy rfl) e1)) (zo (zF (jh (b:=true) (zp (zt (zy (ze rfl)) e2)))) (zO (ze rfl)))),G1.trans (Go.old G1.at_ o2)⟩
theorem zhw {m c:Nat} (h:c∈dg m):c∈("0123456789" : Str).cps.toList:=by
 have:=zba m c h
 have e:("0123456789" : Str).cps.toList=[48,49,50,51,52,53,54,55,56,57]:=by decide +kernel
 rw [e]
 simp;omega
theorem zhx {m:Nat}(h:m<10 ^ 18):zan [.str (S (dg m))] s=.ok (.int (m:Int)) s:=by
 have:=zcj h
 unfold zan
 simp only [zpD h]
 rw [if_pos (by rw [yP];omega)]
theorem c45:("-" : Str)=S [45]:=by decide +kernel
theorem c48:("0" : Str)=⟨#[48]⟩:=by decide +kernel
theorem zp3 {i:Int}{r:List Nat}(h:s[o]?=some (rd L p b)) (hp:p<=L.length) (hl:L.length<=100000) (hd:L.drop p=sgn i++r) (g:gd (.num i)) (hr:Stop r):∃s',m_ValueReader_read_number [.ref o] s=.ok (.int i) s'/\Go o L s s' (p+(sgn i).length) b:=by
 have gi : -1000000000000000000<i/\i<1000000000000000000:=g
 have hm:i.natAbs<10 ^ 18:=by omega
 have l1:=zci i.natAbs
 have l2:=zcj hm
 have hlen:∀s:Sto,yc [.str (S (dg i.natAbs))] s=.ok (.int ((dg i.natAbs).length:Int)) s:=fun s=>len_str (by omega)
 have hix:∀(s:Sto) c t,dg i.natAbs=c::t->zJ (.str (S (dg i.natAbs))) (.int 0) s=.ok (.str ⟨#[c]⟩) s:=fun s c t e=>ix_str (p:=0) (by omega) (by rw [e];rfl)
 by_cases hi:i<0
 ·have es:sgn i=45::dg i.natAbs:=by unfold sgn;rw [if_pos hi]
  rw [es] at hd ⊢
  have P1:=wC h hp hl hd
  have G1:Go o L s (s.set o (rd L (p+1) b)) (p+1) b:=Go.set h
  obtain ⟨d1,d2,d3⟩:=j5 hd
  obtain ⟨s2,e2,G2⟩:=zd8 (sg := "0123456789") G1.at_ (by omega) hl d3 (fun c hc=>zhw hc) hr.fig
  obtain ⟨c,t,ec,hc⟩:=zg8 (m:=i.natAbs) (by omega)
  have ne:(⟨#[c]⟩:Str) ≠ "0" := fun q=>hc (by rw [c48] at q;cases q;rfl)
  refine ⟨s2,zP rfl (zo (zQ (yx (ze rfl) h (by decide) (if_pos rfl) (zy rfl) ((congrArg (fun z=>m_ValueReader_passes [.ref o,.str z] s) c45).trans P1))) (zo (zQ (yx (ze rfl) G1.at_ (by decide) (if_pos rfl) (zy rfl) e2)) (zo (zF (jh (b:=true) (zp (zd9 rfl (zt (zy (ze rfl)) (hlen _)) rfl (by omega) true (by simp;omega))))) (zo (zF (zaY (zp (zl (zl (ze rfl) rfl (hix _ c t ec)) rfl (eqs _ _ false (by simpa using ne) _))))) (zO ?_))))),by rw [List.length_cons,show p+((dg i.natAbs).length+1)=p+1+(dg i.natAbs).length by omega];exact G1.trans G2⟩
  rw [zft,zp (b:=true) (ze rfl),zw,if_pos rfl,yv (zt (zy (ze rfl)) (zhx hm)) (zlQ _)]
  rw [show -((i.natAbs:Nat):Int)=i by omega]
 ·have es:sgn i=dg i.natAbs:=by unfold sgn;rw [if_neg hi]
  rw [es] at hd ⊢
  cases ed:dg i.natAbs with
  | nil=>rw [ed] at l1;simp at l1
  | cons c t =>
   have hc:=zba i.natAbs c (by rw [ed];exact List.mem_cons_self ..)
   have P1:=j4 (c:=45) h hp hl (by rw [hd,ed];simp;omega)
   obtain ⟨s2,e2,G2⟩:=zd8 (sg := "0123456789") h hp hl hd (fun c hc=>zhw hc) hr.fig
   rw [<-ed]
   have t3:(jG (mB (zh yq (zh zJ (zd 2) (mC (.int 0))) (mC (.str "0")))) (yR (mB (zd 1)) (mB (zh jw (zm yc (zf (zd 2) zj)) (mC (.int 1)))))) [some (.ref o),some (.bl false),some (.str (S (dg i.natAbs)))] s2=.ok false s2:=by
    by_cases h0:i.natAbs=0
    ·have ll:(dg i.natAbs).length=1:=by rw [h0,zg7];rfl
     have e0:dg i.natAbs=48::[]:=by rw [h0,zg7]
     exact wU (zp (zl (zl (ze rfl) rfl (hix _ 48 [] e0)) rfl (eqs _ _ true (by rw [c48];simp) _))) (jP (zp (ze rfl)) (zp (zl (zt (zy (ze rfl)) (hlen _)) rfl (gtT false (by rw [decide_eq_false_iff_not];omega) _))))
    ·obtain ⟨c',t',ec,hc'⟩:=zg8 (m:=i.natAbs) (by omega)
     have ne:(⟨#[c']⟩:Str) ≠ "0" := fun q=>hc' (by rw [c48] at q;cases q;rfl)
     exact zaY (zp (zl (zl (ze rfl) rfl (hix _ c' t' ec)) rfl (eqs _ _ false (by simpa using ne) _)))
   refine ⟨s2,zP rfl (zo (zQ (yx (ze rfl) h (by decide) (if_pos rfl) (zy rfl) ((congrArg (fun z=>m_ValueReader_passes [.ref o,.str z] s) c45).trans P1))) (zo (zQ (yx (ze rfl) h (by decide) (if_pos rfl) (zy rfl) e2)) (zo (zF (jh (b:=true) (zp (zd9 rfl (zt (zy (ze rfl)) (hlen _)) rfl (by omega) true (by simp;omega))))) (zo (zF t3) (zO ?_))))),G2⟩
   rw [zft,zp (b:=false) (ze rfl),zw,if_neg (by simp),zt (zy (ze rfl)) (zhx hm)]
   rw [show ((i.natAbs:Nat):Int)=i by omega]
end
theorem zp4 {t:Tr}(g:gd t):∃c l,tx t=c::l/\c≠93/\c≠125/\c≠44:=by
 cases t with
 | num i =>
  simp only [tx]
  unfold sgn
  split
  ·exact ⟨45,_,rfl,by decide,by decide,by decide⟩
  ·have l1:=zci i.natAbs
   cases ed:dg i.natAbs with
   | nil=>rw [ed] at l1;simp at l1
   | cons c t =>
    have hc:=zba i.natAbs c (by rw [ed];exact List.mem_cons_self ..)
    exact ⟨c,t,rfl,by omega,by omega,by omega⟩
 | word z=>exact ⟨39,_,rfl,by decide,by decide,by decide⟩
 | row ts=>exact ⟨91,_,rfl,by decide,by decide,by decide⟩
 | rec_ ks ts=>exact ⟨123,_,rfl,by decide,by decide,by decide⟩
theorem zp5 (i:Int):∃c l,sgn i=c::l/\c≠39/\c≠91/\c≠123:=by
 unfold sgn
 split
 ·exact ⟨45,_,rfl,by decide,by decide,by decide⟩
 ·have l1:=zci i.natAbs
  cases ed:dg i.natAbs with
  | nil=>rw [ed] at l1;simp at l1
  | cons c t =>
   have hc:=zba i.natAbs c (by rw [ed];exact List.mem_cons_self ..)
   exact ⟨c,t,rfl,by omega,by omega,by omega⟩
def jm (a b:Str):Prop:=a.cps.toList<b.cps.toList
theorem zp6 {ks:List Str}(nd:ks.Nodup):(sortT ks).Pairwise jm:=by
 have h1:(sortT ks).Pairwise (fun a b=>leS a b=true):=List.pairwise_mergeSort za1 zbS ks
 have h2:(sortT ks).Nodup:=(yu ks).nodup_iff.mpr nd
 refine List.Pairwise.imp₂ (fun a b h h'=>?_) h1 h2
 unfold jm
 refine List.not_le.mp fun q=>h' ?_
 exact zdf h (by unfold leS;rw [decide_eq_true_eq];exact q)
theorem zp7 {ks:List Str}{z:Str}(h:(ks++[z]).Pairwise jm):(ks++[z])[argBest (gtAt (ks++[z])) ((ks++[z]).length-1)]?=some z:=by
 have key:∀k,k<(ks++[z]).length->argBest (gtAt (ks++[z])) k=k:=by
  intro k
  induction k with
  | zero=>intro _;rfl
  | succ k ih =>
   intro hk
   unfold argBest
   rw [ih (by omega)]
   refine if_pos ?_
   unfold gtAt
   rw [decide_eq_true_eq,List.getElem?_eq_getElem hk,List.getElem?_eq_getElem (by omega)]
   exact List.pairwise_iff_getElem.mp h k (k+1) (by omega) hk (by omega)
 rw [key _ (by simp)]
 simp
theorem zp8 {s:Sto}{n:Nat}{ks:List Str}{xs:List PV}{z:Str}(hn:s[n]?=some (.dic (ks++[z]) xs)) (h:(ks++[z]).Pairwise jm):za2 [.ref n] s=.ok (.str z) s:=by
 show yp s n _=_
 rw [zal hn,zp7 h]
theorem leF {a b:Str}(h:jm b a) (s:Sto):zdk (.str a) (.str b) s=.ok (.bl false) s:=by
 show Res.ok (PV.bl (!decide (b.cps.toList<a.cps.toList))) s=_
 rw [decide_eq_true (show b.cps.toList<a.cps.toList from h)]
 rfl
theorem zp9 {z:Str} (h:isW z=true):jm "" z:=by
 have:=y6 h
 have e:("" : Str).cps.toList=[]:=by decide +kernel
 unfold jm
 rw [e]
 cases ez:z.cps.toList with
 | nil =>
  have:z.length=0:=by
   have e:z.cps.toList.length=z.length:=by cases z;simp [Str.length]
   rw [<-e,ez];rfl
  omega
 | cons a l=>exact List.nil_lt_cons a l
def Rp (mr:List PV->Mo PV) (t:Tr):Prop:=∀(s:Sto) (L:List Nat) (p b o:Nat) (R:List Nat) (r:List Nat),s[o]?=some (rd L p b)->p<=L.length->L.length<=100000->L.drop p=tx (cn t)++r->Stop r->b+sz t<=60->(∀x∈R,x<s.length) ->
 ∃v s1,mr [.ref o] s=.ok v s1/\Go o L s s1 (p+(tx (cn t)).length) (b+sz t)/\TR (vw R s1) (cn t) v
theorem c39:("'" : Str)=S [39]:=by decide +kernel
theorem c91:("[" : Str)=S [91]:=by decide +kernel
theorem c93:("]" : Str)=S [93]:=by decide +kernel
theorem zhz:("{" : Str)=S [123]:=by decide +kernel
theorem zed:("}" : Str)=S [125]:=by decide +kernel
theorem c44:("," : Str)=S [44]:=by decide +kernel
theorem c58:(":" : Str)=S [58]:=by decide +kernel
section
variable {o:Nat}{L:List Nat}{mr:List PV->Mo PV}
theorem ask {c:Nat} {z:Str} {e:zc} {s s1:Sto} {p b:Nat} {x:PV} (ez:z=S [c]) (h:s[o]?=some (rd L p b)) (h0:e[0]?=some (some (.ref o))) (hm:m_ValueReader_passes [.ref o,.str (S [c])] s=.ok x s1):(zX "passes" ji (zd 0) (zf (mC (.str z)) zj)) e s=.ok x s1 :=
 yx (ze h0) h (by decide) (if_pos rfl) (zy rfl) ((congrArg (fun z=>m_ValueReader_passes [.ref o,.str z] s) ez).trans hm)
theorem must {c:Nat} {z:Str} {e:zc} {s s1:Sto} {p b:Nat} {x:PV} (ez:z=S [c]) (h:s[o]?=some (rd L p b)) (h0:e[0]?=some (some (.ref o))) (hm:m_ValueReader_pass_sign [.ref o,.str (S [c])] s=.ok x s1):(zX "pass_sign" zar (zd 0) (zf (mC (.str z)) zj)) e s=.ok x s1 :=
 yx (ze h0) h (by decide) (if_pos rfl) (zy rfl) ((congrArg (fun z=>m_ValueReader_pass_sign [.ref o,.str z] s) ez).trans hm)
theorem part {e:zc} {s s1:Sto} {p b:Nat} {x:PV} (h:s[o]?=some (rd L p b)) (h0:e[0]?=some (some (.ref o))) (hm:mr [.ref o] s=.ok x s1):(zX "read_part" (yT "ValueReader" mr) (zd 0) zj) e s=.ok x s1 :=
 yx (ze h0) h (by decide) zao y3 hm
theorem zcr (ls:List (List Nat)) {c:Nat}(hc:c=93\/c=125) (r:List Nat):Stop (jt ls++c::r):=by
 cases ls with
 | nil=>exact .inr ⟨c,r,rfl,by omega⟩
 | cons l ls=>exact .inr ⟨44,_,rfl,by omega⟩
theorem wD {c d:Nat}{l:List Nat}(h:c≠d):(c::l).take 1≠[d]:=by simp [h]
abbrev tC:zc->Mo Bool:=(mB (zX "passes" ji (zd 0) (zf (mC (.str ",")) zj)))
theorem zhA {a:Sto}{l:Nat}{R:List Nat}{r:List Nat}(hL:L.length<=100000) (ho:o<a.length) (hal:a.length<=l) (hR:∀x∈R,x<a.length):∀(us ts0:List Tr) (fuel p b:Nat) (s:Sto) (ys:List PV),(∀t∈us,Rp mr t)->Go o L a s p b->p<=L.length->s[l]?=some (.lst ys)->TRs (vw R s) (ts0.map cn) ys->L.drop p=jt (us.map fun t=>tx (cn t))++93::r->b+szs us<=60->us.length<fuel->ts0.length+us.length<=1000 ->
  ∃s' ys',whileF tC (yY (jJ wR (zd 1) (zX "read_part" (yT "ValueReader" mr) (zd 0) zj))) fuel [some (.ref o),some (.ref l)] s=.ok (.nx [some (.ref o),some (.ref l)]) s'/\Go o L a s' (p+(jt (us.map fun t=>tx (cn t))).length) (b+szs us)/\s'[l]?=some (.lst ys')/\TRs (vw R s') ((ts0++us).map cn) ys'
 | [],ts0,fuel,p,b,s,ys,hm,G,hp,hl,tr,hd,hb,hf,hz=>by
  obtain ⟨f,rfl⟩:∃f,fuel=f+1:=⟨fuel-1,by simp at hf;omega⟩
  refine ⟨s,ys,?_,by simpa [jt,szs] using G,hl,by simpa using tr⟩
  have T:tC [some (.ref o),some (.ref l)] s=.ok false s:=zp (ask c44 G.at_ rfl (j4 G.at_ hp hL (by rw [hd];exact wD (by decide))))
  rw [zaa,T,zw]
  rfl
 | t::us,ts0,fuel,p,b,s,ys,hm,G,hp,hl,tr,hd,hb,hf,hz=>by
  obtain ⟨f,rfl⟩:∃f,fuel=f+1:=⟨fuel-1,by simp at hf;omega⟩
  simp only [szs] at hb
  have hd':L.drop p=44::(tx (cn t)++(jt (us.map fun t=>tx (cn t))++93::r)):=by rw [hd];simp [jt]
  obtain ⟨g1,g2,g3⟩:=j5 hd'
  have T:tC [some (.ref o),some (.ref l)] s=.ok true (s.set o (rd L (p+1) b)):=zp (ask c44 G.at_ rfl (wC G.at_ hp hL hd'))
  have G1:Go o L s (s.set o (rd L (p+1) b)) (p+1) b:=Go.set G.at_
  obtain ⟨v,s2,e2,G2,tv⟩:=hm t (List.mem_cons_self ..) _ L (p+1) b o R _ G1.at_ (by omega) hL g3 (zcr _ (.inl rfl) r) (by omega) (fun x hx=>G1.lt (G.lt (hR x hx)))
  have lo:l≠o:=by omega
  have hl1:=G1.ob l _ lo hl
  have hl2:=G2.ob l _ lo hl1
  have ylen:=tr.len
  have B:yY (jJ wR (zd 1) (zX "read_part" (yT "ValueReader" mr) (zd 0) zj)) [some (.ref o),some (.ref l)] (s.set o (rd L (p+1) b))=.ok (.nx [some (.ref o),some (.ref l)]) (s2.set l (.lst (ys++[v]))):=wS (zdd (ze rfl) hl1 (part G1.at_ rfl e2) (by rw [zfR,yl hl2,if_pos (by simp at ylen;simp [lim] at hz ⊢;omega)]))
  have D3:Dk (vw R s2) (vw R (s2.set l (.lst (ys++[v])))):=wX fun n ks xs hn e=>⟨hn,by rw [List.getElem?_set_ne (fun q=>by rw [<-q,hl2] at e;cases e)];exact e⟩
  have G3:Go o L a (s2.set l (.lst (ys++[v]))) (p+1+(tx (cn t)).length) (b+sz t):=⟨by rw [List.getElem?_set_ne lo];exact G2.at_,fun n so hn e=>by
   rw [List.getElem?_set_ne (by have:=yd e;omega)]
   exact G2.ob n so hn (G1.ob n so hn (G.ob n so hn e))⟩
  obtain ⟨s',ys',e',G',hl',tr'⟩:=zhA (r:=r) hL ho hal hR us (ts0++[t]) f (p+1+(tx (cn t)).length) (b+sz t) _ (ys++[v]) (fun u hu=>hm u (List.mem_cons_of_mem _ hu)) G3 (wB (i:=0) g3 (by omega)) (List.getElem?_set_self (yd hl2)) (by
   rw [List.map_append]
   exact (TRs.mono D3 _ (TRs.mono (G2.vw G1.at_) _ (TRs.mono (G1.vw G.at_) _ tr))).append ⟨v,[],rfl,TR.mono D3 _ tv,rfl⟩) (j3 g3) (by omega) (by simp at hf;omega) (by simp at hz ⊢;omega)
  refine ⟨s',ys',?_,?_,hl',by simpa using tr'⟩
  ·rw [zaa,T,zw,if_pos rfl,B,zw]
   exact e'
  ·have q1:p+(jt ((t::us).map fun t=>tx (cn t))).length=p+1+(tx (cn t)).length+(jt (us.map fun t=>tx (cn t))).length:=by simp [jt];omega
   have q2:b+szs (t::us)=b+sz t+szs us:=by simp only [szs];omega
   rw [q1,q2]
   exact G'
theorem zqb {s:Sto}{p b:Nat}{R r:List Nat}{ts:List Tr}(h:s[o]?=some (rd L p b)) (hp:p<=L.length) (hL:L.length<=100000) (hg:∀t∈ts,gd t) (hm:∀t∈ts,Rp mr t) (hR:∀x∈R,x<s.length) (hd:L.drop p=jn (ts.map fun t=>tx (cn t))++93::r) (hb:b+szs ts<=60) :
  ∃ys s1,m_ValueReader_read_row mr [.ref o] s=.ok (.tup ys) s1/\Go o L s s1 (p+(jn (ts.map fun t=>tx (cn t))).length+1) (b+szs ts)/\TRs (vw R s1) (ts.map cn) ys:=by
 cases ts with
 | nil =>
  have hd':L.drop p=93::r:=hd
  exact ⟨[],_,zP rfl (yi (ye (zp (ask c93 h rfl (wC h hp hL hd'))) (zO (zda y3 (by simp))))),Go.set h,rfl⟩
 | cons t us =>
  have gt:=zcg yu (hg t (List.mem_cons_self ..))
  simp only [szs] at hb
  have hd':L.drop p=tx (cn t)++(jt (us.map fun t=>tx (cn t))++93::r):=by rw [hd];simp [jn]
  obtain ⟨c,l,ec,n1,_,_⟩:=zp4 gt
  have F:=j4 (c:=93) h hp hL (by rw [hd',ec];exact wD n1)
  obtain ⟨v,s2,e2,G2,tv⟩:=hm t (List.mem_cons_self ..) s L p b o R _ h hp hL hd' (zcr _ (.inl rfl) r) (by omega) hR
  have so:o<s.length:=yd h
  have s2l:s.length<=s2.length:=by
   rcases Nat.eq_zero_or_pos s.length with q|q
   ·omega
   ·have:=G2.lt (n:=s.length-1) (by omega);omega
  have un:=wA us
  obtain ⟨s',ys',e',G',hl',tr'⟩:=zhA (mr:=mr) (a:=s) (l:=s2.length) (R:=R) (r:=r) hL so s2l hR us [t] lim (p+(tx (cn t)).length) (b+sz t) (s2++[.lst [v]]) [v] (fun u hu=>hm u (List.mem_cons_of_mem _ hu)) (G2.trans (Go.old G2.at_ (zZ _ _))) (wB (i:=0) hd' hp) (z0 _ _) ⟨v,[],rfl,TR.mono (ja (zZ _ _)) _ tv,rfl⟩ (j3 hd') (by omega) (by simp [lim];omega) (by simp;omega)
  have hp2:p+(tx (cn t)).length+(jt (us.map fun t=>tx (cn t))).length<=L.length:=by
   have:=wB (i:=0) (l:=tx (cn t)++jt (us.map fun t=>tx (cn t))) (r:=93::r) (by rw [hd'];simp) hp
   simp at this ⊢;omega
  have hd2:L.drop (p+(tx (cn t)).length+(jt (us.map fun t=>tx (cn t))).length)=93::r:=j3 (j3 hd')
  have P:=zd7 G'.at_ hp2 hL hd2
  have lo:s2.length≠o:=by omega
  have hl3:(s'.set o (rd L (p+(tx (cn t)).length+(jt (us.map fun t=>tx (cn t))).length+1) (b+sz t+szs us)))[s2.length]?=some (.lst ys'):=by rw [List.getElem?_set_ne (Ne.symm lo)];exact hl'
  have G3:=Go.set (p':=p+(tx (cn t)).length+(jt (us.map fun t=>tx (cn t))).length+1) (b':=b+sz t+szs us) G'.at_
  refine ⟨ys',_,zP rfl (zo (zF (zp (ask c93 h rfl F))) (zo (zQ (zam (zy (part h rfl e2)) (by simp))) (zo e' (zo (wS (must c93 G'.at_ rfl P)) (zO (zt (zy (ze rfl)) (by rw [zaU,yl hl3]))))))),?_,TRs.mono (G3.vw G'.at_) _ (by simpa using tr')⟩
  have q1:p+(jn ((t::us).map fun t=>tx (cn t))).length+1=p+(tx (cn t)).length+(jt (us.map fun t=>tx (cn t))).length+1:=by simp [jn];omega
  have q2:b+szs (t::us)=b+sz t+szs us:=by simp only [szs];omega
  rw [q1,q2]
  exact G'.trans G3
end
section
variable {o:Nat}{L:List Nat}{mr:List PV->Mo PV}
theorem zhB {a s:Sto}{p b q:Nat}{R r:List Nat}{k last:Str}{t:Tr}{kd:List Str}{us:List Tr}{ys:List PV}(hL:L.length<=100000) (ho:o<a.length) (haq:a.length<=q) (hR:∀x∈R,x<a.length) (G:Go o L a s p b) (hp:p<=L.length) (hq:s[q]?=some (.dic kd ys)) (tr:TRs (vw (q::R) s) us ys)
  (hk:isW k=true) (hm:Rp mr t) (hd:L.drop p=ent k (tx (cn t))++r) (hr:Stop r) (hb:b+sz t<=60) (hlast:jm last k) (hn:k∉kd) (hl:kd.length<=1000) :
  ∃s' v,m_ValueReader_read_entry mr [.ref o,.ref q,.str last] s=.ok .non s'/\Go o L a s' (p+(ent k (tx (cn t))).length) (b+sz t)/\s'[q]?=some (.dic (kd++[k]) (ys++[v]))/\TRs (vw (q::R) s') (us++[cn t]) (ys++[v]):=by
 have hd1:L.drop p=k.cps.toList++(58::(tx (cn t)++r)):=by rw [hd];simp [ent]
 obtain ⟨s1,e1,G1⟩:=zhv G.at_ hp hL hd1 hk (.inr ⟨58,_,rfl,by omega⟩)
 have hp1:=wB (i:=0) hd1 hp
 have hd2:=j3 hd1
 obtain ⟨g1,g2,g3⟩:=j5 hd2
 have P:=zd7 G1.at_ hp1 hL hd2
 have G2:Go o L s1 _ (p+k.cps.toList.length+1) b:=Go.set G1.at_
 have oq:q≠o:=by omega
 have hq2:=G2.ob q _ oq (G1.ob q _ oq hq)
 obtain ⟨v,s3,e3,G3,tv⟩:=hm _ L _ b o (q::R) r G2.at_ (by omega) hL g3 hr hb (fun x hx=>by
  rcases List.mem_cons.mp hx with e|e
  ·rw [e];exact yd hq2
  ·exact G2.lt (G1.lt (G.lt (hR x e))))
 have hq3:=G3.ob q _ oq hq2
 have W:=zhj (fo:=zd 1) (fi:=zd 3) (e:=[some (.ref o),some (.ref q),some (.str last),some (.str k)]) (part (mr:=mr) G2.at_ rfl e3) (ze rfl) (ze rfl) hq3 hn hl
 refine ⟨_,v,zd5 rfl (zo (zQ (yx (ze rfl) G.at_ (by decide) (if_pos rfl) y3 e1)) (zo (zF (zp (zl (ze rfl) (ze rfl) (leF hlast s1)))) (zo (wS (must c58 G1.at_ rfl P)) W))),⟨?_,fun n so hn' e=>?_⟩,List.getElem?_set_self (yd hq3),TRs.mono (zdY _) _ ((TRs.mono (G3.vw G2.at_) _ (TRs.mono (G2.vw G1.at_) _ (TRs.mono (G1.vw G.at_) _ tr))).append ⟨v,[],rfl,tv,rfl⟩)⟩
 ·rw [List.getElem?_set_ne oq,G3.at_]
  have:p+(ent k (tx (cn t))).length=p+k.cps.toList.length+1+(tx (cn t)).length:=by simp [ent];omega
  rw [this]
 ·rw [List.getElem?_set_ne (by have:=yd e;omega)]
  exact G3.ob n so hn' (G2.ob n so hn' (G1.ob n so hn' (G.ob n so hn' e)))
abbrev bE (mr:List PV->Mo PV):zc->Mo Fl:=(yY (zX "read_entry" (yT "ValueReader" (m_ValueReader_read_entry mr)) (zd 0) (zf (zd 1) (zf (zm za2 (zf (zd 1) zj)) zj))))
theorem zhC {a:Sto}{q:Nat}{R r:List Nat}{f:Str->Tr}(hL:L.length<=100000) (ho:o<a.length) (haq:a.length<=q) (hR:∀x∈R,x<a.length):∀(kr kd:List Str) (k0:Str) (fuel p b:Nat) (s:Sto) (ys:List PV),(∀k∈kr,isW k=true/\Rp mr (f k))->Go o L a s p b->p<=L.length->s[q]?=some (.dic (kd++[k0]) ys)->TRs (vw (q::R) s) ((kd++[k0]).map fun k=>cn (f k)) ys->(kd++[k0]++kr).Pairwise jm->(kd++[k0]++kr).Nodup->L.drop p=jt (kr.map fun k=>ent k (tx (cn (f k))))++125::r->b+szs (kr.map f)<=60->kr.length<fuel->kd.length+kr.length<=900 ->
  ∃s' ys',whileF tC (bE mr) fuel [some (.ref o),some (.ref q)] s=.ok (.nx [some (.ref o),some (.ref q)]) s'/\Go o L a s' (p+(jt (kr.map fun k=>ent k (tx (cn (f k))))).length) (b+szs (kr.map f))/\s'[q]?=some (.dic (kd++[k0]++kr) ys')/\TRs (vw (q::R) s') ((kd++[k0]++kr).map fun k=>cn (f k)) ys'
 | [],kd,k0,fuel,p,b,s,ys,hm,G,hp,hq,tr,pw,nd,hd,hb,hf,hz=>by
  obtain ⟨f,rfl⟩:∃f,fuel=f+1:=⟨fuel-1,by simp at hf;omega⟩
  refine ⟨s,ys,?_,by simpa [jt,szs] using G,by simpa using hq,by simpa using tr⟩
  have T:tC [some (.ref o),some (.ref q)] s=.ok false s:=zp (ask c44 G.at_ rfl (j4 G.at_ hp hL (by rw [hd];exact wD (by decide))))
  rw [zaa,T,zw]
  rfl
 | k::kr,kd,k0,fuel,p,b,s,ys,hm,G,hp,hq,tr,pw,nd,hd,hb,hf,hz=>by
  obtain ⟨fl,rfl⟩:∃f,fuel=f+1:=⟨fuel-1,by simp at hf;omega⟩
  simp only [List.map_cons,szs] at hb
  have hd':L.drop p=44::(ent k (tx (cn (f k)))++(jt (kr.map fun k=>ent k (tx (cn (f k))))++125::r)):=by rw [hd];simp [jt]
  obtain ⟨g1,g2,g3⟩:=j5 hd'
  have T:tC [some (.ref o),some (.ref q)] s=.ok true (s.set o (rd L (p+1) b)):=zp (ask c44 G.at_ rfl (wC G.at_ hp hL hd'))
  have G1:Go o L s (s.set o (rd L (p+1) b)) (p+1) b:=Go.set G.at_
  have oq:q≠o:=by omega
  have hq1:=G1.ob q _ oq hq
  obtain ⟨hk,hmk⟩:=hm k (List.mem_cons_self ..)
  have pw1:(kd++[k0]).Pairwise jm:=(List.pairwise_append.mp pw).1
  have lt0:jm k0 k:=(List.pairwise_append.mp pw).2.2 k0 (by simp) k (List.mem_cons_self ..)
  have nk:k∉kd++[k0]:=fun h=>(List.nodup_append.mp nd).2.2 k h k (List.mem_cons_self ..) rfl
  obtain ⟨s2,v,e2,G2,hq2,tr2⟩:=zhB (mr:=mr) (a:=a) (last:=k0) hL ho haq hR (G.trans G1) (by omega) hq1 (TRs.mono (G1.vw G.at_) _ tr) hk hmk g3 (zcr _ (.inr rfl) r) (by omega) lt0 nk (by simp at hz ⊢;omega)
  have B:bE mr [some (.ref o),some (.ref q)] (s.set o (rd L (p+1) b))=.ok (.nx [some (.ref o),some (.ref q)]) s2:=wS (yx (ze rfl) G1.at_ (by decide) zao (zG (ze rfl) (zt (zy (ze rfl)) (zp8 hq1 pw1))) e2)
  obtain ⟨s',ys',e',G',hq',tr'⟩:=zhC (r:=r) hL ho haq hR kr (kd++[k0]) k fl (p+1+(ent k (tx (cn (f k)))).length) (b+sz (f k)) s2 (ys++[v]) (fun u hu=>hm u (List.mem_cons_of_mem _ hu)) G2 (wB (i:=0) g3 (by omega)) hq2 (by rw [List.map_append];exact tr2) (by simpa using pw) (by simpa using nd) (j3 g3) (by omega) (by simp at hf;omega) (by simp at hz ⊢;omega)
  refine ⟨s',ys',?_,?_,by simpa using hq',by simpa using tr'⟩
  ·rw [zaa,T,zw,if_pos rfl,B,zw]
   exact e'
  ·have q1:p+(jt ((k::kr).map fun k=>ent k (tx (cn (f k))))).length=p+1+(ent k (tx (cn (f k)))).length+(jt (kr.map fun k=>ent k (tx (cn (f k))))).length:=by simp [jt];omega
   have q2:b+szs ((k::kr).map f)=b+sz (f k)+szs (kr.map f):=by simp only [List.map_cons,szs];omega
   rw [q1,q2]
   exact G'
theorem zqc {s:Sto}{p b:Nat}{R r:List Nat}{ks:List Str}{f:Str->Tr}(h:s[o]?=some (rd L p b)) (hp:p<=L.length) (hL:L.length<=100000) (hm:∀k∈ks,isW k=true/\Rp mr (f k)) (hR:∀x∈R,x<s.length) (pw:ks.Pairwise jm) (nd:ks.Nodup) (hd:L.drop p=jn (ks.map fun k=>ent k (tx (cn (f k))))++125::r) (hb:b+szs (ks.map f)<=60) :
  ∃v s1,m_ValueReader_read_record mr [.ref o] s=.ok v s1/\Go o L s s1 (p+(jn (ks.map fun k=>ent k (tx (cn (f k))))).length+1) (b+szs (ks.map f))/\TR (vw R s1) (.rec_ ks (ks.map fun k=>cn (f k))) v:=by
 have so:o<s.length:=yd h
 cases ks with
 | nil =>
  have hd':L.drop p=125::r:=hd
  have G1:Go o L s (s.set o (rd L (p+1) b)) (p+1) b:=Go.set h
  have ls:s.length∉R:=fun q=>by have:=hR _ q;omega
  refine ⟨.ref (s.set o (rd L (p+1) b)).length,_,zP rfl (yi (ye (zp (ask zed h rfl (wC h hp hL hd'))) (zO rfl))),G1.trans (Go.old G1.at_ (zZ _ _)),?_⟩
  exact ⟨_,[],rfl,jV.mpr ⟨by rw [List.length_set];exact ls,z0 _ _⟩,.nil,rfl,rfl,fun _ h=>nomatch h⟩
 | cons k kr =>
  simp only [List.map_cons,szs] at hb
  obtain ⟨hk,hmk⟩:=hm k (List.mem_cons_self ..)
  have hd':L.drop p=ent k (tx (cn (f k)))++(jt (kr.map fun k=>ent k (tx (cn (f k))))++125::r):=by rw [hd];simp [jn]
  have hk1:∃c l,k.cps.toList=c::l/\c≠125:=by
   have hc:∀c∈k.cps.toList,c∈abc.cps.toList:=by
    simp only [isW,Bool.and_eq_true,List.all_eq_true,decide_eq_true_eq] at hk
    exact hk.2
   cases ek:k.cps.toList with
   | nil =>
    have:=y6 hk
    have e:k.cps.toList.length=k.length:=by cases k;simp [Str.length]
    rw [ek] at e;simp at e;omega
   | cons c l=>exact ⟨c,l,rfl,fun q=>by
     have:=hc c (by rw [ek];exact List.mem_cons_self ..)
     rw [q] at this
     exact absurd this (by decide +kernel)⟩
  obtain ⟨c,l,ec,n1⟩:=hk1
  have F:=j4 (c:=125) h hp hL (by rw [hd'];simp only [ent,ec,List.cons_append];exact wD n1)
  have G0:Go o L s (s++[.dic [] []]) p b:=Go.old h (zZ _ _)
  obtain ⟨s1,v,e1,G1,hq1,tr1⟩:=zhB (mr:=mr) (a:=s) (q:=s.length) (R:=R) (last := "") (us:=[]) (ys:=[]) hL so (Nat.le_refl _) hR G0 hp (z0 _ _) rfl hk hmk hd' (zcr _ (.inr rfl) r) (by omega) (zp9 hk) (by simp) (by simp)
  have kn:=wA (kr.map f)
  rw [List.length_map] at kn
  obtain ⟨s',ys',e',G',hq',tr'⟩:=zhC (mr:=mr) (a:=s) (q:=s.length) (R:=R) (r:=r) (f:=f) hL so (Nat.le_refl _) hR kr [] k lim (p+(ent k (tx (cn (f k)))).length) (b+sz (f k)) s1 [v] (fun u hu=>hm u (List.mem_cons_of_mem _ hu)) G1 (wB (i:=0) hd' hp) hq1 tr1 (by simpa using pw) (by simpa using nd) (j3 hd') (by omega) (by simp [lim];omega) (by simp;omega)
  have hp2:p+(ent k (tx (cn (f k)))).length+(jt (kr.map fun k=>ent k (tx (cn (f k))))).length<=L.length:=by
   have:=wB (i:=0) (l:=ent k (tx (cn (f k)))++jt (kr.map fun k=>ent k (tx (cn (f k))))) (r:=125::r) (by rw [hd'];simp) hp
   simp at this ⊢;omega
  have hd2:L.drop (p+(ent k (tx (cn (f k)))).length+(jt (kr.map fun k=>ent k (tx (cn (f k))))).length)=125::r:=j3 (j3 hd')
  have P:=zd7 G'.at_ hp2 hL hd2
  have G3:=Go.set (p':=p+(ent k (tx (cn (f k)))).length+(jt (kr.map fun k=>ent k (tx (cn (f k))))).length+1) (b':=b+sz (f k)+szs (kr.map f)) G'.at_
  have hqo:s.length≠o:=by omega
  have ls:s.length∉R:=fun q=>by have:=hR _ q;omega
  refine ⟨.ref s.length,_,zP rfl (zo (zF (zp (ask zed h rfl F))) (zo (zQ rfl) (zo (wS (yx (ze rfl) G0.at_ (by decide) zao (zG (ze rfl) rfl) e1)) (zo e' (zo (wS (must zed G'.at_ rfl P)) (zO (ze rfl))))))),?_,?_⟩
  ·have q1:p+(jn ((k::kr).map fun k=>ent k (tx (cn (f k))))).length+1=p+(ent k (tx (cn (f k)))).length+(jt (kr.map fun k=>ent k (tx (cn (f k))))).length+1:=by simp [jn];omega
   have q2:b+szs ((k::kr).map f)=b+sz (f k)+szs (kr.map f):=by simp only [List.map_cons,szs];omega
   rw [q1,q2]
   exact G'.trans G3
  ·have tl:=tr'.len
   exact ⟨s.length,ys',rfl,jV.mpr ⟨ls,by rw [List.getElem?_set_ne (Ne.symm hqo)];simpa using hq'⟩,nd,by simpa using tl,TRs.mono zdZ _ (TRs.mono (G3.vw G'.at_) _ (by simpa using tr')),fun z hz=>by have:=y6 (hm z hz).1;omega⟩
end
theorem zqd:∀(n:Nat) (t:Tr),dp t<n->gd t->Rp (wz n) t:=by
 intro n
 induction n with
 | zero=>intro t h;omega
 | succ n ih =>
  intro t hdp g s L p b o R r h hp hL hd hr hb hR
  show ∃v s1,m_ValueReader_read_part (wz n) [.ref o] s=_/\_
  have sp:=zdP t
  have G1:Go o L s (s.set o (rd L p (b+1))) p (b+1):=Go.set h
  have R1:∀x∈R,x<(s.set o (rd L p (b+1))).length:=fun x hx=>G1.lt (hR x hx)
  have A:∀{X:Res Fl},zgT (wz n) [some (.ref o)] (s.set o (rd L p (b+1)))=X->zgU (wz n) [some (.ref o)] s=X:=fun hx=>zo (zpZ rfl h) (zo (zF (zp (zl (yv (ze rfl) (zpY G1.at_)) rfl (gtT false (by rw [decide_eq_false_iff_not];omega) _)))) hx)
  cases t with
  | num i =>
   obtain ⟨c,l,ec,n1,n2,n3⟩:=zp5 i
   have hd':L.drop p=sgn i++r:=hd
   have F:∀d,c≠d->m_ValueReader_passes [.ref o,.str (S [d])] (s.set o (rd L p (b+1)))=.ok (.bl false) (s.set o (rd L p (b+1))):=fun d hdd=>j4 G1.at_ hp hL (by rw [hd',ec];exact wD hdd)
   obtain ⟨s2,e2,G2⟩:=zp3 G1.at_ hp hL hd' g hr
   exact ⟨.int i,s2,zP rfl (A (zo (zF (zp (ask c39 G1.at_ rfl (F 39 n1)))) (zo (zF (zp (ask c91 G1.at_ rfl (F 91 n2)))) (zo (zF (zp (ask zhz G1.at_ rfl (F 123 n3)))) (zO (yx (ze rfl) G1.at_ (by decide) (if_pos rfl) y3 e2)))))),G1.trans G2,rfl⟩
  | word z =>
   have hd':L.drop p=39::(z.cps.toList++r):=hd
   obtain ⟨g1,g2,g3⟩:=j5 hd'
   have P:=wC G1.at_ hp hL hd'
   have G2:=Go.set (p':=p+1) (b':=b+1) G1.at_
   obtain ⟨s2,e2,G3⟩:=zhv G2.at_ (by omega) hL g3 g hr
   refine ⟨.str z,s2,zP rfl (A (yi (ye (zp (ask c39 G1.at_ rfl P)) (zO (yx (ze rfl) G2.at_ (by decide) (if_pos rfl) y3 e2))))),?_,rfl,by have:=y6 (z:=z) g;omega⟩
   have q1:p+(tx (cn (.word z))).length=p+1+z.cps.toList.length:=by simp [cn,od,tx];omega
   rw [q1]
   exact G1.trans (G2.trans G3)
  | row ts =>
   have hd':L.drop p=91::(jn (ts.map fun t=>tx (cn t))++93::r):=by rw [hd];simp [cn,od,jk,zck,List.map_map,Function.comp_def]
   obtain ⟨g1,g2,g3⟩:=j5 hd'
   simp only [dp] at hdp
   simp only [sz] at hb
   have P:=wC G1.at_ hp hL hd'
   have F:=j4 (c:=39) G1.at_ hp hL (by rw [hd'];exact wD (by decide))
   have G2:=Go.set (p':=p+1) (b':=b+1) G1.at_
   have g':=yH.mp g
   obtain ⟨ys,s2,e2,G3,tr⟩:=zqb (R:=R) G2.at_ (by omega) hL g' (fun t ht=>ih t (by have:=yV ht;omega) (g' t ht)) (fun x hx=>G2.lt (R1 x hx)) g3 (by omega)
   refine ⟨.tup ys,s2,zP rfl (A (zo (zF (zp (ask c39 G1.at_ rfl F))) (yi (ye (zp (ask c91 G1.at_ rfl P)) (zO (yx (ze rfl) G2.at_ (by decide) zao y3 e2)))))),?_,?_⟩
   ·have q1:p+(tx (cn (.row ts))).length=p+1+(jn (ts.map fun t=>tx (cn t))).length+1:=by simp [cn,od,jk,zck,List.map_map,Function.comp_def];omega
    have q2:b+sz (.row ts)=b+1+szs ts:=by simp only [sz];omega
    rw [q1,q2]
    exact G1.trans (G2.trans G3)
   ·simp only [cn,od,jk]
    exact ⟨ys,rfl,tr⟩
  | rec_ ks ts =>
   simp only [dp] at hdp
   simp only [sz] at hb
   obtain ⟨nd,hl,hw,gg⟩:=g
   obtain ⟨f,rfl⟩:=zat nd hl
   have g':=yH.mp gg
   have hd':L.drop p=123::(jn ((sortT ks).map fun k=>ent k (tx (cn (f k))))++125::r):=by rw [hd,zcn];simp
   obtain ⟨g1,g2,g3⟩:=j5 hd'
   have P:=wC G1.at_ hp hL hd'
   have F1:=j4 (c:=39) G1.at_ hp hL (by rw [hd'];exact wD (by decide))
   have F2:=j4 (c:=91) G1.at_ hp hL (by rw [hd'];exact wD (by decide))
   have G2:=Go.set (p':=p+1) (b':=b+1) G1.at_
   have sz_:szs ((sortT ks).map f)=szs (ks.map f):=zdT ((yu ks).map f)
   obtain ⟨v,s2,e2,G3,tr⟩:=zqc (mr:=wz n) (R:=R) (r:=r) (f:=f) G2.at_ (by omega) hL (fun k hk=>⟨hw k (yu.sub ks k hk),ih (f k) (by have:=yV (List.mem_map_of_mem (f:=f) (yu.sub ks k hk));omega) (g' _ (List.mem_map_of_mem (yu.sub ks k hk)))⟩) (fun x hx=>G2.lt (R1 x hx)) (zp6 nd) ((yu ks).nodup_iff.mpr nd) g3 (by omega)
   refine ⟨v,s2,zP rfl (A (zo (zF (zp (ask c39 G1.at_ rfl F1))) (zo (zF (zp (ask c91 G1.at_ rfl F2))) (yi (ye (zp (ask zhz G1.at_ rfl P)) (zO (yx (ze rfl) G2.at_ (by decide) zao y3 e2))))))),?_,?_⟩
   ·have q1:p+(tx (cn (.rec_ ks (ks.map f)))).length=p+1+(jn ((sortT ks).map fun k=>ent k (tx (cn (f k))))).length+1:=by rw [zcn];simp;omega
    have q2:b+sz (.rec_ ks (ks.map f))=b+1+szs ((sortT ks).map f):=by rw [sz_];simp only [sz];omega
    rw [q1,q2]
    exact G1.trans (G2.trans G3)
   ·rw [cn,jD (yu.sub ks)]
    exact tr
theorem zee {f:Str} {fv:zc->Mo PV} {e:zc} {st:Sto} {ks:List Str} {xs:List PV} {x:PV} {X:SO} (hv:fv e (st++[SO.ins "ValueReader" ks xs])=.ok x (st++[SO.ins "ValueReader" ks xs])) (h0:e[0]?=some (some (.ref st.length))) (hl:ks.length<1000) (hX:SO.ins "ValueReader" (Mi.putK f x ks xs).1 (Mi.putK f x ks xs).2=X):Mi.sFld f insOf (zd 0) fv e (st++[SO.ins "ValueReader" ks xs])=.ok (.nx e) (st++[X]):=by
 unfold Mi.sFld
 rw [hv,zw,ze h0,zw]
 show (yh _ st.length _).bind _=_
 unfold yh
 rw [z0]
 simp only
 rw [if_pos ⟨insV,hl⟩,zw,hX]
 simp
theorem zqe (L:List Nat) (st:Sto):newI "ValueReader" zb9 [.str (S L)] st=.ok (.ref st.length) (st++[rd L 0 0]):=by
 have I:zb9 [.ref st.length,.str (S L)] (st++[.ins "ValueReader" [] []])=.ok .non (st++[rd L 0 0]) :=
  zd5 (e:=[some (.ref st.length),some (.str (S L))]) rfl (zo (zee (X:=.ins "ValueReader" ["text"] [.str (S L)]) (ze rfl) rfl (by decide) rfl) (zo (zee (X:=.ins "ValueReader" ["text", "place"] [.str (S L),.int 0]) rfl rfl (by decide) rfl) (zee (X:=rd L 0 0) rfl rfl (by decide) rfl)))
 unfold newI
 rw [I,zw]
 rfl
theorem zhD {t:Tr}(g:gd t) (hd:dp t<61) (hz:sz t<=60) (st:Sto):∃v s1,zas [.str (S (tx (cn t)))] st=.ok v s1/\TR s1 (cn t) v/\Old st s1:=by
 have hl:=zcm g
 have h0:(st++[rd (tx (cn t)) 0 0])[st.length]?=some (rd (tx (cn t)) 0 0):=z0 _ _
 obtain ⟨v,s1,e1,G,tv⟩:=zqd 61 t hd g (st++[rd (tx (cn t)) 0 0]) (tx (cn t)) 0 0 st.length [] [] h0 (Nat.zero_le _) (by omega) (by simp) (.inl rfl) (by omega) (fun _ h=>nomatch h)
 refine ⟨v,s1,zP rfl (zo (zF (jh (b:=true) (zp (zt (zG (ze rfl) rfl) (show yf isT [.str (S (tx (cn t))),.ty "str"] st=.ok (.bl true) st from rfl))))) (zo (zQ (zt (zy (ze rfl)) (zqe _ st))) (zo (zQ (yx (ze rfl) h0 (by decide) zao y3 e1)) (zo (zF (zp (zl (yv (ze rfl) (jW G.at_)) (zt (zy (ze rfl)) (len_str (by omega))) (ltT false (by rw [decide_eq_false_iff_not];omega) _)))) (zO (ze rfl)))))),TR.mono zaw _ tv,fun n so e=>G.ob n so (by have:=yd e;omega) (zZ _ _ n so e)⟩
theorem zbd {s:Sto}{n:Nat}{x y:PV}(h:s[n]?=some (.lst [x,y])):zJ (.ref n) (.int 0) s=.ok x s:=by
 rw [zaT,yl h];rfl
theorem zaz {s:Sto}{n:Nat}{x y:PV}(h:s[n]?=some (.lst [x,y])):zJ (.ref n) (.int 1) s=.ok y s:=by
 rw [zaT,yl h];rfl
theorem zqf (ns:List Int):∃st,zgX [.frl (ns.map .int)] []=.ok (.bl true) st:=by
 obtain ⟨d,s1,e1,hd⟩:=zpS ns []
 obtain ⟨w,s2,e2,hw,n2⟩:=y7 hd 4 (by decide)
 obtain ⟨v,s3,e3,t,tv,g,hdp,hsz,n3⟩:=zhs 5 3 s2 [] (by decide) n2.dc (fun _ h=>nomatch h)
 have large:∃v1 s4 t1,(zK (mB (zd 2)) (zH 3 (zm zb5 (zf (zd 1) zj))) zL) [some (.frl (ns.map .int)),some (.ref d),some (.bl (decide ((w:Int)=1))),some v,none,none,none,none] s3=.ok (.nx [some (.frl (ns.map .int)),some (.ref d),some (.bl (decide ((w:Int)=1))),some v1,none,none,none,none]) s4/\TR (vw [] s4) t1 v1/\gd t1/\dp t1<=59/\sz t1<=60/\Nx d s3 s4:=by
  by_cases hw1:(w:Int)=1
  ·obtain ⟨v1,s4,e4,t1,k1,k2,k3,k4,k5⟩:=zpU n3.dc
   exact ⟨v1,s4,t1,ye (zp (ze (by rw [decide_eq_true hw1];rfl))) (zQ (zt (zy (ze rfl)) e4)),k1,k2,k3,k4,k5⟩
  ·exact ⟨v,s3,t,zF (zp (ze (by rw [decide_eq_false hw1];rfl))),tv,g,by omega,by have:bd 3=40:=rfl;omega,Nx.refl n3.dc⟩
 obtain ⟨v1,s4,t1,e4,tv1,g1,hd1,hz1,n4⟩:=large
 obtain ⟨v2,s5,e5,t2,tv2,g2,hd2,hz2,n5⟩:=zhs 5 3 s4 [] (by decide) n4.dc (fun _ h=>nomatch h)
 have hz2:sz t2<=60:=by have:bd 3=40:=rfl;omega
 have tv1':=TR.mono (n5.vw n4.dc) _ tv1
 obtain ⟨s6,w1,e6,o6,tw1⟩:=zhk 61 t1 v1 s5 [] (by omega) hz1 g1 tv1' (fun _ h=>nomatch h)
 obtain ⟨s7,w2,e7,o7,tw2⟩:=zhk 61 t2 v2 s6 [] (by omega) hz2 g2 (TR.mono (ja o6) _ tv2) (fun _ h=>nomatch h)
 have T1:TR s7 t1 v1:=TR.mono zaw _ (TR.mono (ja (o6.trans o7)) _ tv1')
 have T2:TR s7 t2 v2:=TR.mono zaw _ (TR.mono (ja (o6.trans o7)) _ tv2)
 have W1:TR s7 (od rv t1) w1:=TR.mono zaw _ (TR.mono (ja o7) _ tw1)
 have W2:TR s7 (od rv t2) w2:=TR.mono zaw _ tw2
 have o8:Old s7 (s7++[.lst [w1,w2]]):=zZ _ _
 obtain ⟨s9,e9,o9⟩:=zhh 61 t1 (by omega) hz1 g1 _ v1 (TR.old o8 T1)
 obtain ⟨s10,e10,o10⟩:=zhh 61 t2 (by omega) hz2 g2 _ v2 (TR.old (o8.trans o9) T2)
 have oA:=o8.trans (o9.trans (o10.trans (zZ s10 [SO.lst [.str (S (tx (cn t1))),.str (S (tx (cn t2)))]])))
 have hk0:(s10++[SO.lst [.str (S (tx (cn t1))),.str (S (tx (cn t2)))]])[s7.length]?=some (.lst [w1,w2]):=(o9.trans (o10.trans (zZ _ _))) _ _ (z0 _ _)
 have hx0:=z0 s10 (SO.lst [.str (S (tx (cn t1))),.str (S (tx (cn t2)))])
 generalize hB:s10++[SO.lst [.str (S (tx (cn t1))),.str (S (tx (cn t2)))]]=B at oA hk0 hx0
 have gr1:=zcg yw g1
 have gr2:=zcg yw g2
 have d1:=zg4 yw g1
 have d2:=zg4 yw g2
 have z1:=zdV yw g1
 have z2:=zdV yw g2
 have T1:=TR.old oA T1
 have T2:=TR.old oA T2
 have W1:=TR.old oA W1
 have W2:=TR.old oA W2
 obtain ⟨e',sE,F,⟨u,tu,z7,he,hu,tuv⟩,oE⟩:=zay (gt:=gN 7) (body:=(zq (zK (yR (yA (mB (zm (yG 64) (zf (zm (jC 61) (zf (zd 3) zj)) (zf (zh zJ (zd 6) (mC (.int 0))) zj))))) (yA (mB (zm (yG 64) (zf (zm (jC 61) (zf (zd 4) zj)) (zf (zh zJ (zd 6) (mC (.int 1))) zj))))))
  (zE (mC (.bl false)))
  zL)
  (zq (zK (yR (yA (mB (zm (yG 64) (zf (zm zas (zf (zh zJ (zd 6) (mC (.int 1))) zj)) (zf (zh zJ (zd 5) (mC (.int 1))) zj))))) (yA (mB (zm (yG 64) (zf (zm zas (zf (zh zJ (zd 6) (mC (.int 0))) zj)) (zf (zh zJ (zd 5) (mC (.int 0))) zj))))))
  (zE (mC (.bl false)))
  zL)
  (zH 3 (zh zJ (zd 5) (mC (.int 0))))))) (fs:=(zf (mC (.int 2)) zj)) (e:=[some (.frl (ns.map .int)),some (.ref d),some (.bl (decide ((w:Int)=1))),some v1,some v2,some (.ref s7.length),some (.ref s10.length),none]) (st:=B)
  (fun i e s=>(∃u tu z7,e=[some (.frl (ns.map .int)),some (.ref d),some (.bl (decide ((w:Int)=1))),some u,some v2,some (.ref s7.length),some (.ref s10.length),z7]/\(tu=t1\/tu=od rv t1)/\TR s tu u)/\Old B s) 2 (by decide) rfl (fun i e s hi ⟨⟨u,tu,z7,he,hu,tuv⟩,os⟩=>by
   subst he
   have gu:gd tu/\dp tu<61/\sz tu<=60/\cn tu=cn t1:=by
    rcases hu with q|q
    ·rw [q];exact ⟨g1,by omega,hz1,rfl⟩
    ·rw [q];exact ⟨gr1,by omega,by omega,zg5 yw g1⟩
   obtain ⟨a1,f1,p1⟩:=zdX 61 tu gu.2.1 gu.2.2.1 gu.1 s u tuv
   rw [gu.2.2.2] at f1
   have O1:=os.trans p1
   obtain ⟨a2,f2,p2⟩:=zdX 61 t2 (by omega) hz2 g2 a1 v2 (TR.old O1 T2)
   have O2:=O1.trans p2
   obtain ⟨r2,a3,f3,q3,p3⟩:=zhD g2 (by omega) hz2 a2
   have O3:=O2.trans p3
   obtain ⟨a4,f4,p4⟩:=zce (zcf yu yw g2) (by omega) (by omega) q3 (TR.old O3 W2)
   have O4:=O3.trans p4
   obtain ⟨r1,a5,f5,q5,p5⟩:=zhD g1 (by omega) hz1 a4
   have O5:=O4.trans p5
   obtain ⟨a6,f6,p6⟩:=zce (zcf yu yw g1) (by omega) (by omega) q5 (TR.old O5 W1)
   have O6:=O5.trans p6
   refine ⟨[some (.frl (ns.map .int)),some (.ref d),some (.bl (decide ((w:Int)=1))),some u,some v2,some (.ref s7.length),some (.ref s10.length),some (.int (i:Int))],_,a6,rfl,zo (zF (jP (jh (b:=true) (zp (zt (zG (zt (zy (ze rfl)) f1) (zl (ze rfl) rfl (zbd (O1 _ _ hx0)))) (zcd 63 _ _)))) (jh (b:=true) (zp (zt (zG (zt (zy (ze rfl)) f2) (zl (ze rfl) rfl (zaz (O2 _ _ hx0)))) (zcd 63 _ _))))))
    (zo (zF (jP (jh (b:=true) (zp (zt (zG (zt (zy (zl (ze rfl) rfl (zaz (O2 _ _ hx0)))) f3) (zl (ze rfl) rfl (zaz (O3 _ _ hk0)))) f4))) (jh (b:=true) (zp (zt (zG (zt (zy (zl (ze rfl) rfl (zbd (O4 _ _ hx0)))) f5) (zl (ze rfl) rfl (zbd (O5 _ _ hk0)))) f6))))) (zQ (zl (ze rfl) rfl (zbd (O6 _ _ hk0))))),⟨w1,od rv t1,_,rfl,.inr rfl,TR.old O6 W1⟩,O6⟩) ⟨⟨v1,t1,none,rfl,.inl rfl,T1⟩,Old.refl _⟩
 subst he
 obtain ⟨a1,f1,p1⟩:=zdX 61 (od rv t2) (by omega) (by omega) gr2 sE w2 (TR.old oE W2)
 rw [zg5 yw g2] at f1
 have O1:=oE.trans p1
 obtain ⟨a2,f2,p2⟩:=zce (zdS yw g2) (by omega) (by omega) (TR.old O1 T2) (TR.old O1 W2)
 have O2:=O1.trans p2
 have smu:Sm tu (od rv t1):=by
  rcases hu with q|q
  ·rw [q];exact zdS yw g1
  ·rw [q];exact zcf yw yw g1
 obtain ⟨a3,f3,p3⟩:=zce smu (by omega) (by omega) (TR.old (p1.trans p2) tuv) (TR.old O2 W1)
 refine ⟨a3,zP rfl (zo (zQ (zt (zy (ze rfl)) e1)) (zo (zQ (zl (zt (zG (ze rfl) rfl) e2) rfl (zbR _ _))) (zo (zQ (zt (zG (ze rfl) rfl) e3)) (zo e4 (zo (zQ (zt (zG (ze rfl) rfl) e5)) (zo (zQ (zam (zG (zt (zy (ze rfl)) e6) (zt (zy (ze rfl)) e7)) (by simp))) (zo (zQ (zam (zG (zt (zy (ze rfl)) e9) (zt (zy (ze rfl)) e10)) (by simp))) (zo (by rw [hB];exact F) (zO (zdb (zt (zG (zt (zy (zl (ze rfl) rfl (zaz (oE _ _ hk0)))) f1) (zl (ze rfl) rfl (zaz (O1 _ _ hx0)))) (zcd 63 _ _)) (zdb (zt (zG (ze rfl) (zl (ze rfl) rfl (zaz (O1 _ _ hk0)))) f2) (zt (zG (ze rfl) (zl (ze rfl) rfl (zbd (O2 _ _ hk0)))) f3))))))))))))⟩
end FK21
open PySem PySem.W PyProof.Rows
set_option maxHeartbeats 0
namespace PySem.W.Fast
def tw6090367890817826016:=()
def tw3434444806382439648:=()
def tw11580330514469120320:=()
def tw3979812842892386656:=()
def tw18343924297542965632:=()
def tw7156950394831539616:=()
def tw1031957679374639520:=()
def tw7449875054043605440:=()
def tw12893780005389805120:=()
def tw15443810872348336225:=()
def tw2059070008920900737:=()
def tw7450078728642109825:=()
def tw16886350617538965506:=()
def tw3163217807179857922:=()
def tw3755915419497628706:=()
def tw4155370403949194338:=()
def tw17609847453510679042:=()
def tw17413081379752738530:=()
def tw9449106256036401986:=()
def tw8281039398285180770:=()
def tw8835452333821780259:=()
def tw5432874834905171395:=()
def tw16093186439581592035:=()
def tw9274933556345298723:=()
def tw11640217937080530819:=()
def tw890660297901460548:=()
def tw16460977569284743556:=()
def tw12278179424242486916:=()
def tw9037024423309567684:=()
def tw2473860055375291140:=()
def tw2964491474191921285:=()
def tw1711716937562295493:=()
def tw5029665332173436357:=()
def tw7072719223745375717:=()
def tw7983007090494275301:=()
def tw13050159067113572293:=()
def tw17061141170447380518:=()
def tw1896567366858444966:=()
def tw2223482398833415558:=()
def tw1698015056150015366:=()
def tw6862730295532410278:=()
def tw1589775094827678118:=()
def tw10755459767760302534:=()
def tw6476914457254133222:=()
def tw13520642288541536966:=()
def tw17355523458351426278:=()
def tw2486203689027660871:=()
def tw14218720794276908135:=()
def tw12244908846169985351:=()
def tw4911958121468721671:=()
def tw17523357860535001959:=()
def tw18396002191304646664:=()
def tw2810259913452938344:=()
def tw13166208584252299432:=()
def tw8495702330051731656:=()
def tw17745157685613742280:=()
def tw13997651772945361224:=()
def tw5419097350403292488:=()
def tw2497158778231768424:=()
def tw2625461754278809032:=()
def tw15858704347928230504:=()
def tw13435102599857380008:=()
def tw2791057311062819624:=()
def tw16885267941978153768:=()
def tw796050816773925864:=()
def tw12874141840109704233:=()
def tw4573085165934192841:=()
def tw11337939571669174537:=()
def tw12492198019759442377:=()
def tw11245886629863368169:=()
def tw6275630068390996585:=()
def tw1053313995919358601:=()
def tw4007469846208657097:=()
def tw10511018123266534345:=()
def tw4100007938799771754:=()
def tw11912099469482512586:=()
def tw4478654787941486154:=()
def tw14085569025281659562:=()
def tw3280069390304979946:=()
def tw9485320362202397867:=()
def tw4039190097506466283:=()
def tw2276436883638389323:=()
def tw14479423038600503115:=()
def tw2685113377615147372:=()
def tw14648320065911457388:=()
def tw8363115841319806668:=()
def tw12206921882397058988:=()
def tw2370766593442583821:=()
def tw15207807936149387565:=()
def tw7229622334968471949:=()
def tw4063573881387404685:=()
def tw7326280575537574285:=()
def tw16461020862680864173:=()
def tw14747563710385062381:=()
def tw10359059405588292173:=()
def tw15745447435639870349:=()
def tw4367557229581232622:=()
def tw664244091082734062:=()
def tw7736739695222416078:=()
def tw3505861326113034351:=()
def tw3098963735914918031:=()
def tw12644464911596689743:=()
def tw12804198508965487023:=()
def tw6490091699469319951:=()
def tw10542286040425421647:=()
def tw9491931449441620879:=()
def tw9072106039034801168:=()
def tw1174662520086510992:=()
def tw1647475980172131728:=()
def tw6987496393814749648:=()
def tw12393423190094860080:=()
def tw5090833687433808752:=()
def tw8524310512081336240:=()
def tw2332265283783468081:=()
def tw15582677064141933649:=()
def tw11212509683747803217:=()
def tw18236455360591461585:=()
def tw12345417779103459665:=()
def tw4682253471321590193:=()
def tw2729418844554048977:=()
def tw3706857856364341905:=()
def tw4062197796661472914:=()
def tw10741700249727251090:=()
def tw303780793035643634:=()
def tw6482193909863024755:=()
def tw16127422392203786355:=()
def tw18122738669389878579:=()
def tw9858351641597600115:=()
def tw9833806813208670003:=()
def tw1046776669731703635:=()
def tw1482537961589120947:=()
def tw14297555905818320851:=()
def tw6866134895078950899:=()
def tw11608585035038285204:=()
def tw17097221767594397236:=()
def tw5595023905871058548:=()
def tw8126179348126028532:=()
def tw3168826794931204117:=()
def tw14844483314538570869:=()
def tw11586190912332078325:=()
def tw7359215475661287829:=()
def tw4155099513290616341:=()
def tw16844131366654406389:=()
def tw11845590207754610613:=()
def tw15498735793009607702:=()
def tw8323788935242343510:=()
def tw13729187797224944822:=()
def tw16335004234242623702:=()
def tw1188462880945110454:=()
def tw9822631622851560918:=()
def tw491917063019019766:=()
def tw17774530577512671830:=()
def tw17755900715435532950:=()
def tw18266746422620228566:=()
def tw6872063562458217751:=()
def tw3744700516938124599:=()
def tw9164709727982079479:=()
def tw16846627375198012055:=()
def tw2310013915579584439:=()
def tw14966273054233675735:=()
def tw10766494856093624600:=()
def tw1260851757661849912:=()
def tw4220084461746356600:=()
def tw7782281806036060728:=()
def tw13157757656163652761:=()
def tw16608098765697861785:=()
def tw2648503310515553593:=()
def tw12502115837268226649:=()
def tw2366771041768892121:=()
def tw15833410221013807929:=()
def tw10336640447109019449:=()
def tw13464014425104947129:=()
def tw3439567745537036346:=()
def tw12048911583005658490:=()
def tw815151707465999834:=()
def tw10240357735205696986:=()
def tw13666684493385676378:=()
def tw7210567731604423290:=()
def tw15440303728742991482:=()
def tw5374830236731897498:=()
def tw8141332160352876218:=()
def tw2451913211297765146:=()
def tw1993860560073276443:=()
def tw8858116691924049019:=()
def tw1540761926435623131:=()
def tw18241824539721584923:=()
def tw15254765562333803867:=()
def tw10838779689171019163:=()
def tw16690752584973055483:=()
def tw3894448669117795867:=()
def tw12665394836699327099:=()
def tw283470514161529467:=()
def tw3098147654240066235:=()
def tw14626913935583864731:=()
def tw11789503555512922011:=()
def tw15688247228519531451:=()
def tw5616628329872801852:=()
def tw10239629368724356220:=()
def tw10610672038923842876:=()
def tw3306597359199590812:=()
def tw12258269884315889052:=()
def tw5430008744066681436:=()
def tw14522752057006698076:=()
def tw18064529117680106076:=()
def tw6132727442864311932:=()
def tw17124305161995863261:=()
def tw1698996889396696349:=()
def tw14557500333765429597:=()
def tw18048046326338755005:=()
def tw5153202991106814653:=()
def tw17583373998401766237:=()
def tw68523917658410973:=()
def tw9039671421636205790:=()
def tw2560073534162569822:=()
def tw9347195769723488926:=()
def tw13502058043044913086:=()
def tw4196626138541659102:=()
def tw3191905234253208607:=()
def tw16918139668057049343:=()
def tw11004091521110442527:=()
def tw4199058660335682175:=()
def tw12769660984311136895:=()
def tw10765222448683262847:=()
def tw4144224021800696526:=()
def tw17273499653845256628:=()
end PySem.W.Fast
open_top hdT for PySem.Challenge.rw_foreknown_k21_values_both_ways
theorem PySem.Challenge.cw_foreknown_k21_values_both_ways_holds : PySem.Challenge.rw_foreknown_k21_values_both_ways.Holds :=
 hdT (by
 k_fill
 refine Mi.walkM (l:=PySem.Challenge.rw_foreknown_k21_values_both_ways) (k:=189) (x := "_law_script") rfl rfl ⟨rfl,by decide,by decide⟩ (fun w h Y=>PySem.W.kIn_of Y) ?F
 case F =>
  intro w mg fa h KX G hmg
  have f__law_deck:Mi.FnF (L2.KOf KX) mg "_law_deck" FK21.zbU ["_law_script"]:=by
   dsimp only [L2.KOf]
   refine' Mi.yZ KX G ?a ?l ?c ?k ?b
   case a|l|c|k=>k_is
   (case b=>exact fun _ _ _ _ _ _ us hl=>match us,hl with|[_],_=>rfl)
  have f__law_next:Mi.FnF (L2.KOf KX) mg "_law_next" FK21.zdl ["_law_deck_here", "_law_many"]:=by
   dsimp only [L2.KOf]
   refine' Mi.yZ KX G ?a ?l ?c ?k ?b
   case a|l|c|k=>k_is
   (case b=>exact fun _ _ _ _ _ _ us hl=>match us,hl with|[_,_],_=>rfl)
  have f__law_word:Mi.FnF (L2.KOf KX) mg "_law_word" FK21.zbV ["_law_deck_here"]:=by
   dsimp only [L2.KOf]
   refine' Mi.yZ KX G ?a ?l ?c ?k ?b
   case a|l|c|k=>k_is
   (case b=>exact fun _ _ _ _ _ _ us hl=>match us,hl with|[_],_=>rfl)
  have f__law_number:Mi.FnF (L2.KOf KX) mg "_law_number" FK21.zdm ["_law_deck_here"]:=by
   dsimp only [L2.KOf]
   refine' Mi.yZ KX G ?a ?l ?c ?k ?b
   case a|l|c|k=>k_is
   (case b=>exact fun _ _ _ _ _ _ us hl=>match us,hl with|[_],_=>rfl)
  have f__law_value:Mi.FnF (L2.KOf KX) mg "_law_value" FK21.zbW ["_law_deck_here", "_law_deep"]:=by
   dsimp only [L2.KOf]
   refine' Mi.yZ KX G ?a ?l ?c ?k ?b
   case a|l|c|k=>k_is
   (case b=>exact fun _ _ _ _ _ _ us hl=>match us,hl with|[_,_],_=>rfl)
  have f__law_large:Mi.FnF (L2.KOf KX) mg "_law_large" FK21.za3 ["_law_deck_here"]:=by
   dsimp only [L2.KOf]
   refine' Mi.yZ KX G ?a ?l ?c ?k ?b
   case a|l|c|k=>k_is
   (case b=>exact fun _ _ _ _ _ _ us hl=>match us,hl with|[_],_=>rfl)
  have f__law_turned:Mi.FnF (L2.KOf KX) mg "_law_turned" FK21.zbX ["_law_value_here"]:=by
   dsimp only [L2.KOf]
   refine' Mi.yZ KX G ?a ?l ?c ?k ?b
   case a|l|c|k=>k_is
   (case b=>exact fun _ _ _ _ _ _ us hl=>match us,hl with|[_],_=>rfl)
  have f__law_text:Mi.FnF (L2.KOf KX) mg "_law_text" FK21.za4 ["_law_value_here"]:=by
   dsimp only [L2.KOf]
   refine' Mi.yZ KX G ?a ?l ?c ?k ?b
   case a|l|c|k=>k_is
   (case b=>exact fun _ _ _ _ _ _ us hl=>match us,hl with|[_],_=>rfl)
  have f__law_alike:Mi.FnF (L2.KOf KX) mg "_law_alike" FK21.za5 ["_law_found", "_law_due"]:=by
   dsimp only [L2.KOf]
   refine' Mi.yZ KX G ?a ?l ?c ?k ?b
   case a|l|c|k=>k_is
   (case b=>exact fun _ _ _ _ _ _ us hl=>match us,hl with|[_,_],_=>rfl)
  have f_kind_of:Mi.FnF (L2.KOf KX) mg "kind_of" FK21.zdn ["value"]:=by
   dsimp only [L2.KOf]
   refine' Mi.yZ KX G ?a ?l ?c ?k ?b
   case a|l|c|k=>k_is
   (case b=>exact fun _ _ _ _ _ _ us hl=>match us,hl with|[_],_=>rfl)
  have f_show_value:Mi.FnF (L2.KOf KX) mg "show_value" FK21.za6 ["value"]:=by
   dsimp only [L2.KOf]
   refine' Mi.yZ KX G ?a ?l ?c ?k ?b
   case a|l|c|k=>k_is
   (case b=>exact fun _ _ _ _ _ _ us hl=>match us,hl with|[_],_=>rfl)
  have n_ValueReader:Mi.NwF (L2.KOf KX) mg "ValueReader" "ValueReader.__init__" FK21.zdo ["self", "text"]:=by
   dsimp only [L2.KOf]
   refine' Mi.zl5 KX G ?aC ?mk ?kc ?a ?i ?l ?c ?k ?b
   case aC|mk|kc|a|i|l|c|k=>k_is
   (case b=>exact fun _ _ _ _ _ _ us hl=>match us,hl with|[_,_],_=>rfl)
  have m_ValueReader_sign_here:Mi.MtF (L2.KOf KX) mg "ValueReader" "sign_here" "ValueReader.sign_here" FK21.zdp ["self"]:=by
   dsimp only [L2.KOf]
   refine' Mi.jL KX G ?aC ?pg ?hd ?po ?sa ?a ?i ?l ?c ?k ?b
   case aC|pg|hd|po|sa|a|i|l|c|k=>k_is
   (case b=>exact fun _ _ _ _ _ _ us hl=>match us,hl with|[_],_=>rfl)
  have m_ValueReader_passes:Mi.MtF (L2.KOf KX) mg "ValueReader" "passes" "ValueReader.passes" FK21.zdq ["self", "sign"]:=by
   dsimp only [L2.KOf]
   refine' Mi.jL KX G ?aC ?pg ?hd ?po ?sa ?a ?i ?l ?c ?k ?b
   case aC|pg|hd|po|sa|a|i|l|c|k=>k_is
   (case b=>exact fun _ _ _ _ _ _ us hl=>match us,hl with|[_,_],_=>rfl)
  have m_ValueReader_run_of:Mi.MtF (L2.KOf KX) mg "ValueReader" "run_of" "ValueReader.run_of" FK21.zdr ["self", "signs"]:=by
   dsimp only [L2.KOf]
   refine' Mi.jL KX G ?aC ?pg ?hd ?po ?sa ?a ?i ?l ?c ?k ?b
   case aC|pg|hd|po|sa|a|i|l|c|k=>k_is
   (case b=>exact fun _ _ _ _ _ _ us hl=>match us,hl with|[_,_],_=>rfl)
  have f_is_word:Mi.FnF (L2.KOf KX) mg "is_word" FK21.zbY ["thing"]:=by
   dsimp only [L2.KOf]
   refine' Mi.yZ KX G ?a ?l ?c ?k ?b
   case a|l|c|k=>k_is
   (case b=>exact fun _ _ _ _ _ _ us hl=>match us,hl with|[_],_=>rfl)
  have m_ValueReader_read_word:Mi.MtF (L2.KOf KX) mg "ValueReader" "read_word" "ValueReader.read_word" FK21.zds ["self"]:=by
   dsimp only [L2.KOf]
   refine' Mi.jL KX G ?aC ?pg ?hd ?po ?sa ?a ?i ?l ?c ?k ?b
   case aC|pg|hd|po|sa|a|i|l|c|k=>k_is
   (case b=>exact fun _ _ _ _ _ _ us hl=>match us,hl with|[_],_=>rfl)
  have m_ValueReader_pass_sign:Mi.MtF (L2.KOf KX) mg "ValueReader" "pass_sign" "ValueReader.pass_sign" FK21.zdt ["self", "sign"]:=by
   dsimp only [L2.KOf]
   refine' Mi.jL KX G ?aC ?pg ?hd ?po ?sa ?a ?i ?l ?c ?k ?b
   case aC|pg|hd|po|sa|a|i|l|c|k=>k_is
   (case b=>exact fun _ _ _ _ _ _ us hl=>match us,hl with|[_,_],_=>rfl)
  have m_ValueReader_read_row:Mi.MtF (L2.KOf KX) mg "ValueReader" "read_row" "ValueReader.read_row" FK21.zdu ["self"]:=by
   dsimp only [L2.KOf]
   refine' Mi.jL KX G ?aC ?pg ?hd ?po ?sa ?a ?i ?l ?c ?k ?b
   case aC|pg|hd|po|sa|a|i|l|c|k=>k_is
   (case b=>exact fun _ _ _ _ _ _ us hl=>match us,hl with|[_],_=>rfl)
  have m_ValueReader_read_entry:Mi.MtF (L2.KOf KX) mg "ValueReader" "read_entry" "ValueReader.read_entry" FK21.zdv ["self", "record", "last"]:=by
   dsimp only [L2.KOf]
   refine' Mi.jL KX G ?aC ?pg ?hd ?po ?sa ?a ?i ?l ?c ?k ?b
   case aC|pg|hd|po|sa|a|i|l|c|k=>k_is
   (case b=>exact fun _ _ _ _ _ _ us hl=>match us,hl with|[_,_,_],_=>rfl)
  have m_ValueReader_read_record:Mi.MtF (L2.KOf KX) mg "ValueReader" "read_record" "ValueReader.read_record" FK21.zdw ["self"]:=by
   dsimp only [L2.KOf]
   refine' Mi.jL KX G ?aC ?pg ?hd ?po ?sa ?a ?i ?l ?c ?k ?b
   case aC|pg|hd|po|sa|a|i|l|c|k=>k_is
   (case b=>exact fun _ _ _ _ _ _ us hl=>match us,hl with|[_],_=>rfl)
  have m_ValueReader_read_number:Mi.MtF (L2.KOf KX) mg "ValueReader" "read_number" "ValueReader.read_number" FK21.zdx ["self"]:=by
   dsimp only [L2.KOf]
   refine' Mi.jL KX G ?aC ?pg ?hd ?po ?sa ?a ?i ?l ?c ?k ?b
   case aC|pg|hd|po|sa|a|i|l|c|k=>k_is
   (case b=>exact fun _ _ _ _ _ _ us hl=>match us,hl with|[_],_=>rfl)
  have m_ValueReader_read_part:Mi.MtF (L2.KOf KX) mg "ValueReader" "read_part" "ValueReader.read_part" FK21.zdy ["self"]:=by
   dsimp only [L2.KOf]
   refine' Mi.jL KX G ?aC ?pg ?hd ?po ?sa ?a ?i ?l ?c ?k ?b
   case aC|pg|hd|po|sa|a|i|l|c|k=>k_is
   (case b=>exact fun _ _ _ _ _ _ us hl=>match us,hl with|[_],_=>rfl)
  have f_read_value:Mi.FnF (L2.KOf KX) mg "read_value" FK21.zdz ["text"]:=by
   dsimp only [L2.KOf]
   refine' Mi.yZ KX G ?a ?l ?c ?k ?b
   case a|l|c|k=>k_is
   (case b=>exact fun _ _ _ _ _ _ us hl=>match us,hl with|[_],_=>rfl)
  have f_law:Mi.FnF (L2.KOf KX) mg "law" FK21.zbZ ["_law_script"]:=by
   dsimp only [L2.KOf]
   refine' Mi.yZ KX G ?a ?l ?c ?k ?b
   case a|l|c|k=>k_is
   (case b=>exact fun _ _ _ _ _ _ us hl=>match us,hl with|[_],_=>rfl)
  have b_all:mg "all" = none:=by
   refine' Mi.jf KX G ?a
   (case a=>k_is)
  have b_bool:mg "bool" = none:=by
   refine' Mi.jf KX G ?a
   (case a=>k_is)
  have b_dict:mg "dict" = none:=by
   refine' Mi.jf KX G ?a
   (case a=>k_is)
  have b_int:mg "int" = none:=by
   refine' Mi.jf KX G ?a
   (case a=>k_is)
  have b_isinstance:mg "isinstance" = none:=by
   refine' Mi.jf KX G ?a
   (case a=>k_is)
  have b_len:mg "len" = none:=by
   refine' Mi.jf KX G ?a
   (case a=>k_is)
  have b_max:mg "max" = none:=by
   refine' Mi.jf KX G ?a
   (case a=>k_is)
  have b_range:mg "range" = none:=by
   refine' Mi.jf KX G ?a
   (case a=>k_is)
  have b_sorted:mg "sorted" = none:=by
   refine' Mi.jf KX G ?a
   (case a=>k_is)
  have b_str:mg "str" = none:=by
   refine' Mi.jf KX G ?a
   (case a=>k_is)
  have b_tuple:mg "tuple" = none:=by
   refine' Mi.jf KX G ?a
   (case a=>k_is)
  have b_zip:mg "zip" = none:=by
   refine' Mi.jf KX G ?a
   (case a=>k_is)
  have c_FIGURES:∃t,mg "FIGURES" = some (.str "0123456789" t):=by
   refine' Mi.zfy KX G ?a
   (case a=>k_is)
  have c_LETTERS:∃t,mg "LETTERS" = some (.str "abcdefghijklmnopqrstuvwxyz" t):=by
   refine' Mi.zfy KX G ?a
   (case a=>k_is)
  have c_MOST_FIGURES:∃t,mg "MOST_FIGURES" = some (.int 18 t):=by
   refine' Mi.zc2 KX G ?a
   (case a=>k_is)
  have c_MOST_PARTS:∃t,mg "MOST_PARTS" = some (.int 60 t):=by
   refine' Mi.zc2 KX G ?a
   (case a=>k_is)
  have c_MOST_SIGNS:∃t,mg "MOST_SIGNS" = some (.int 8 t):=by
   refine' Mi.zc2 KX G ?a
   (case a=>k_is)
  have d_begun:Mi.FldF (L2.KOf KX) mg "begun" FK21.insOf FK21.excOf:=by
   refine ⟨fun c hc=>?_,fun c hc=>?_⟩
   ·simp [FK21.insOf,or_assoc] at hc
    rcases hc with rfl
    ·dsimp only [L2.KOf]
     refine' Mi.zc1 KX G ?aC ?pg ?hd ?po ?sa ?na
     case aC|pg|hd|po|sa|na=>k_is
   ·simp [FK21.excOf] at hc
  have d_place:Mi.FldF (L2.KOf KX) mg "place" FK21.insOf FK21.excOf:=by
   refine ⟨fun c hc=>?_,fun c hc=>?_⟩
   ·simp [FK21.insOf,or_assoc] at hc
    rcases hc with rfl
    ·dsimp only [L2.KOf]
     refine' Mi.zc1 KX G ?aC ?pg ?hd ?po ?sa ?na
     case aC|pg|hd|po|sa|na=>k_is
   ·simp [FK21.excOf] at hc
  have d_text:Mi.FldF (L2.KOf KX) mg "text" FK21.insOf FK21.excOf:=by
   refine ⟨fun c hc=>?_,fun c hc=>?_⟩
   ·simp [FK21.insOf,or_assoc] at hc
    rcases hc with rfl
    ·dsimp only [L2.KOf]
     refine' Mi.zc1 KX G ?aC ?pg ?hd ?po ?sa ?na
     case aC|pg|hd|po|sa|na=>k_is
   ·simp [FK21.excOf] at hc
  have is:Mi.IsF (L2.KOf KX) mg FK21.isT:=by
   exact Mi.zmh rfl rfl rfl
  have T:FK21.Txt w (L2.KOf KX) mg:=⟨f__law_deck,f__law_next,f__law_word,f__law_number,f__law_value,f__law_large,f__law_turned,f__law_text,f__law_alike,f_kind_of,f_show_value,n_ValueReader,m_ValueReader_sign_here,m_ValueReader_passes,m_ValueReader_run_of,f_is_word,m_ValueReader_read_word,m_ValueReader_pass_sign,m_ValueReader_read_row,m_ValueReader_read_entry,m_ValueReader_read_record,m_ValueReader_read_number,m_ValueReader_read_part,f_read_value,f_law,b_all,b_bool,b_dict,b_int,b_isinstance,b_len,b_max,b_range,b_sorted,b_str,b_tuple,b_zip,c_FIGURES,c_LETTERS,c_MOST_FIGURES,c_MOST_PARTS,c_MOST_SIGNS,d_begun,d_place,d_text,is⟩
  exact Mi.zl6 T.f_law hmg (fun _ _ _ _ _ _ _=>rfl) (fun f fd F base=>FK21.zpg T F) (fun ns _=>FK21.zqf ns))
