import PyProof.Rows.All
import Wide.All
import OpenK.AllK
import Wide.FinOn
import Lean
import PyProof.EqAt
import PyProof.EqKinds
import PyProof.TupleCall
import PySem.Challenge.RW_foreknown_k16_ops_by_words
set_option Elab.async false
set_option linter.all false
set_option maxRecDepth 100000
namespace L2
open PySem PySem.Spec PyProof.Rows
abbrev Key:=Sum Int Str
def keyIs:Key->Value->Bool
 | .inl k,v=>Value.isInt k v
 | .inr x,v=>Value.isStrOf x v
def keyH (w:World):Key->Int
 | .inl k=>hashInt k
 | .inr x=>hashStr w x
theorem ji:∀{k:Key}{v:Value},keyIs k v=true->(∃i t,k=Sum.inl i/\v=Value.int i t)\/(∃x t,k=Sum.inr x/\v=Value.str x t)
 | .inl i,v,h=>by
  obtain ⟨t,e⟩:=Value.isInt_shape (k:=i) (v:=v) h
  exact .inl ⟨i,t,rfl,e⟩
 | .inr x,v,h=>by
  obtain ⟨t,e⟩:=Value.isStrOf_shape (x:=x) (v:=v) h
  exact .inr ⟨x,t,rfl,e⟩
theorem zhu (i:Int) (t:Tok):keyIs (.inl i) (.int i t)=true:=by simp [keyIs,Value.isInt]
theorem zhv (x:Str) (t:Tok):keyIs (.inr x) (.str x t)=true:=by simp [keyIs,Value.isStrOf]
theorem zhw (a b:Int):decide ((Sum.inl a:Key)=Sum.inl b)=(a==b):=by
 by_cases e:a=b
 ·subst e;simp
 ·have h:¬(Sum.inl a:Key)=Sum.inl b:=fun q=>e (Sum.inl.inj q)
  rw [decide_eq_false h]
  exact (beq_eq_false_iff_ne.mpr e).symm
theorem zhx (a b:Str):decide ((Sum.inr a:Key)=Sum.inr b)=decide (a=b):=by
 by_cases e:a=b
 ·subst e;simp
 ·have h:¬(Sum.inr a:Key)=Sum.inr b:=fun q=>e (Sum.inr.inj q)
  rw [decide_eq_false h,decide_eq_false e]
theorem zhy (a:Int) (b:Str):decide ((Sum.inl a:Key)=Sum.inr b)=false:=decide_eq_false (fun q=>nomatch q)
theorem zhz (a:Str) (b:Int):decide ((Sum.inr a:Key)=Sum.inl b)=false:=decide_eq_false (fun q=>nomatch q)
def mixKind (prog:Program) (w:World):PySem.KeyKind prog w Key where
 is:=keyIs
 hash:=keyH w
 inj:=fun v a b ha hb=>by
  rcases ji ha with ⟨i,t,rfl,rfl⟩|⟨x,t,rfl,rfl⟩
  ·rcases ji hb with ⟨j,u,rfl,e⟩|⟨y,u,rfl,e⟩
   ·injection e with e1 _;rw [e1]
   ·exact nomatch e
  ·rcases ji hb with ⟨j,u,rfl,e⟩|⟨y,u,rfl,e⟩
   ·exact nomatch e
   ·injection e with e1 _;rw [e1]
 byValue:=fun k v h=>by
  rcases ji h with ⟨i,t,rfl,rfl⟩|⟨x,t,rfl,rfl⟩<;>rfl
 pyHash:=fun hv h=>by
  rcases ji hv with ⟨i,t,rfl,rfl⟩|⟨x,t,rfl,rfl⟩
  ·exact wpAny_pyHash_int h
  ·exact wpAny_pyHash_str h
 eqBool:=fun hu hv h=>by
  rcases ji hu with ⟨i,t,rfl,rfl⟩|⟨x,t,rfl,rfl⟩
  ·rcases ji hv with ⟨j,u,rfl,rfl⟩|⟨y,u,rfl,rfl⟩
   ·rw [zhw] at h;exact wpAny_eqBool_int h
   ·rw [zhy] at h;exact SeqAt.EqAt.int_str i t y u _ _ _ _ h
  ·rcases ji hv with ⟨j,u,rfl,rfl⟩|⟨y,u,rfl,rfl⟩
   ·rw [zhz] at h;exact SeqAt.EqAt.str_int x t j u _ _ _ _ h
   ·rw [zhx] at h;exact wpAny_eqBool_str h
 «strs» := fun k x t v h=>by
  rcases ji h with ⟨i,u,rfl,e⟩|⟨y,u,rfl,e⟩
  ·exact nomatch e
  ·injection e with e1 _
   subst e1
   cases v<;>rfl
theorem zhA (prog:Program) (w:World) (i:Int) (t:Tok):(mixKind prog w).is (.inl i) (.int i t)=true:=zhu i t
theorem zhB (prog:Program) (w:World) (x:Str) (t:Tok):(mixKind prog w).is (.inr x) (.str x t)=true:=zhv x t
inductive V where
 | non|bl (b:Bool)|int (i:Int)|str (x:Str)|byt (b:Array UInt8)|flt (b:UInt64)|ref (a:Addr)|ty (n:String)
 deriving DecidableEq
def RelV:V->Value->Prop
 | .non,u=>u=Value.none
 | .bl b,u=>u=Value.bool b
 | .int i,u=>∃t,u=Value.int i t
 | .str x,u=>∃t,u=Value.str x t
 | .byt b,u=>∃t,u=Value.bytes b t
 | .flt b,u=>∃t,u=Value.float b t
 | .ref a,u=>u=Value.ref a
 | .ty n,u=>u=Value.type n
abbrev Vals:List V->List Value->Prop:=Paired RelV
theorem Vals.length {xs:List V}{us:List Value}(r:Vals xs us):xs.length=us.length:=Paired.length r
theorem Vals.get:∀{xs:List V}{us:List Value}{i:Nat}{x:V},Vals xs us->xs[i]?=some x->∃u,us[i]?=some u/\RelV x u
 | _,_,_,_,.nil,e=>by simp at e
 | _,_,0,_,.cons r _,e=>by simp at e;subst e;exact ⟨_,rfl,r⟩
 | _,_,i+1,x,.cons _ t,e=>by
  obtain ⟨u,h1,h2⟩:=Vals.get (i:=i) (x:=x) t (by simpa using e)
  exact ⟨u,by simpa using h1,h2⟩
theorem Vals.append:∀{xs ys:List V}{us ws:List Value},Vals xs us->Vals ys ws->Vals (xs++ys) (us++ws)
 | _,_,_,_,.nil,s=>s
 | _,_,_,_,.cons r t,s=>.cons r (Vals.append t s)
theorem Vals.take:∀{xs:List V}{us:List Value}(n:Nat),Vals xs us->Vals (xs.take n) (us.take n)
 | _,_,0,_=>.nil
 | _,_,_+1,.nil=>.nil
 | _,_,n+1,.cons r t=>.cons r (Vals.take n t)
theorem Vals.drop:∀{xs:List V}{us:List Value}(n:Nat),Vals xs us->Vals (xs.drop n) (us.drop n)
 | _,_,0,r=>r
 | _,_,_+1,.nil=>.nil
 | _,_,n+1,.cons _ t=>Vals.drop n t
def RelO:Option V->Option Value->Prop
 | some v,some u=>RelV v u
 | none,none=>True
 | _,_=>False
def KV {κ:Type}:List (κ×V)->List (κ×Value)->Prop:=Paired fun (p:κ×V) (q:κ×Value)=>p.1=q.1/\RelV p.2 q.2
def kV:Key->V
 | .inl i=>.int i
 | .inr x=>.str x
inductive HO where
 | lst (xs:List V)
 | tup (xs:List V)
 | dK (kvs:List (Key×V))|dT (kvs:List (List Key×V))
 | set (S:Int->Bool) (n:Nat)
 | ins (C dx:Addr) (fs:List (Str×V))
 | own (x:Addr)
 | xd (fs:List (Str×V))
 | met (f x:Addr)
 | rng (lo hi:Int)
 | frz (o:Obj) (u:HO)
 | tbl (ps:Array Value)
 | ext (φ:Heap->Prop)
abbrev Hp:=Addr->Option HO
def upd (H:Hp) (a:Addr) (o:HO):Hp:=fun b=>if b=a then some o else H b
theorem zY {H:Hp}{a:Addr}{o:HO}:upd H a o a=some o:=by unfold upd;rw [if_pos rfl]
theorem zp {H:Hp}{a b:Addr}{o:HO}(h:b≠a):upd H a o b=H b:=by unfold upd;rw [if_neg h]
theorem zhC {H:Hp}{a:Addr}{o u:HO}:upd (upd H a o) a u=upd H a u:=by
 funext b;unfold upd;split<;>rfl
theorem zhD {H:Hp}{a b:Addr}{o u:HO}(h:H a=some o) (h':H b=some u) (d:o≠u):a≠b:=by
 intro e;subst e;rw [h] at h';exact d (Option.some.inj h')
theorem y8 {H:Hp}{a b:Addr}{o:HO}(h:H a=some o) (h':H b=none):a≠b:=by
 intro e;subst e;rw [h] at h';cases h'
section
variable (P:Program) (w:World)
def ObjOk (H:Hp) (h:Heap) (a:Addr):HO->Prop
 | .lst xs=>xs.length<=sizeLine/\∃(its:List Value) (n:Nat),Vals xs its/\h.get? a=some { cls:=.type "list", data:=.seq its.toArray n }
 | .tup xs=>xs.length<=sizeLine/\∃its:List Value,Vals xs its/\IsTup h a its.toArray
 | .dK kvs=>kvs.length<=sizeLine/\(a==sysModules)=false/\∃vs,KV kvs vs/\h.DictOf (mixKind P w) a vs
 | .dT kvs=>kvs.length<=sizeLine/\(a==sysModules)=false/\∃xs:List (List Key×Addr×Value),
   Paired (fun (p:List Key×V) (q:List Key×Addr×Value)=>p.1=q.1/\H q.2.1=some (.tup (p.1.map kV))/\RelV p.2 q.2.2) kvs xs /\
   ∃o es ep,h.get? a=some o/\o.ExactDict/\o.data=.dict es ep/\es.toList=xs.map (entryOfKey (tupleKind (mixKind P w)))/\(xs.map (·.1)).Nodup
 | .set S n=>h.SetOf (intKind P w) a S n
 | .ins C dx fs=>H dx=some (.own a)/\fs.length<=1000/\dx≠a/\h.get? a=some (PySem.W.instObj C dx) /\
   ∃mA,h.Ns1 dx mA/\(∀f,RelO (fs.lookup f) (mA f))/\PySem.Within mA (fs.map (·.1))
 | .own _=>∃o,h.get? a=some o
 | .xd fs=>∃mA,h.Ns1 a mA/\∀f,RelO (fs.lookup f) (mA f)
 | .rng lo hi=>∃t u v,h.get? a=some { cls:=.type "range", data:=.fields #[.int lo t,.int hi u,.int 1 v] }
 | .frz o u=>h.get? a=some o/\ObjOk H h a u
 | .tbl ps=>h.get? a=some { cls:=.none,data:=.fields ps }
 | .met f x=>h.get? a=some (PySem.W.methodObj (.ref f) (.ref x))
 | .ext φ=>φ h/\(∃o,h.get? a=some o)/\∀h1 h2:Heap,φ h1->(∀o,h1.get? a=some o->h2.get? a=some o)->φ h2
def HOk (H:Hp) (h:Heap):Prop:=∀a o,H a=some o->ObjOk P w H h a o
end
section
variable {P:Program}{w:World}{H H':Hp}{h h':Heap}{a:Addr}{o:HO}
theorem ObjOk.lt (x:ObjOk P w H h a o):a<h.objs.size:=by
 cases o with
 | lst xs=>obtain ⟨_,_,_,_,e⟩:=x;exact Heap.lt_size e
 | tup xs=>obtain ⟨_,_,_,p⟩:=x;exact p.lt
 | dK kvs=>obtain ⟨_,_,_,_,o,_,_,e,_⟩:=x;exact Heap.lt_size e
 | dT kvs=>obtain ⟨_,_,_,_,o,_,_,e,_⟩:=x;exact Heap.lt_size e
 | set S n=>obtain ⟨o,_,_,_,e,_⟩:=x;exact Heap.lt_size e
 | ins C dx fs=>obtain ⟨_,_,_,e,_⟩:=x;exact Heap.lt_size e
 | own y=>obtain ⟨_,e⟩:=x;exact Heap.lt_size e
 | xd fs=>obtain ⟨_,⟨_,_,_,e,_⟩,_⟩:=x;exact Heap.lt_size e
 | rng lo hi=>obtain ⟨_,_,_,e⟩:=x;exact Heap.lt_size e
 | frz ob u=>obtain ⟨e,_⟩:=x;exact Heap.lt_size e
 | tbl ps=>exact Heap.lt_size (show h.get? a=some _ from x)
 | met f y=>exact Heap.lt_size (show h.get? a=some _ from x)
 | ext φ=>obtain ⟨_,⟨_,e⟩,_⟩:=x;exact Heap.lt_size e
theorem Paired.mapP {α β:Type}{F G:α->β->Prop}:∀{aI:List α}{aH:List β},Paired F aI aH->(∀a b,F a b->G a b)->Paired G aI aH
 | _,_,.nil,_=>.nil
 | _,_,.cons r t,f=>.cons (f _ _ r) (Paired.mapP t f)
theorem ObjOk.stay (x:ObjOk P w H h a o) (k:∀b u,(b=a\/H b=some (.own a))->h.get? b=some u->h'.get? b=some u)
  (ho:∀b,H b=some (.own a)->H' b=some (.own a)) (ht:∀b xs,H b=some (.tup xs)->H' b=some (.tup xs)):ObjOk P w H' h' a o:=by
 induction o with
 | lst xs=>obtain ⟨z,its,n,r,e⟩:=x;exact ⟨z,its,n,r,k _ _ (.inl rfl) e⟩
 | tup xs=>obtain ⟨z,its,r,ob,e,c⟩:=x;exact ⟨z,its,r,ob,k _ _ (.inl rfl) e,c⟩
 | dK kvs=>obtain ⟨z,y,vs,r,ob,es,ep,e,c⟩:=x;exact ⟨z,y,vs,r,ob,es,ep,k _ _ (.inl rfl) e,c⟩
 | dT kvs =>
  obtain ⟨z,y,xs,r,ob,es,ep,e,c⟩:=x
  exact ⟨z,y,xs,Paired.mapP r fun p q z=>⟨z.1,ht _ _ z.2.1,z.2.2⟩,ob,es,ep,k _ _ (.inl rfl) e,c⟩
 | set S n=>obtain ⟨ob,es,ep,t,e,c⟩:=x;exact ⟨ob,es,ep,t,k _ _ (.inl rfl) e,c⟩
 | ins C dx fs =>
  obtain ⟨d,z,ne,e,mA,⟨od,es,ep,e2,c⟩,r⟩:=x
  exact ⟨ho _ d,z,ne,k _ _ (.inl rfl) e,mA,⟨od,es,ep,k _ _ (.inr d) e2,c⟩,r⟩
 | own y=>obtain ⟨ob,e⟩:=x;exact ⟨ob,k _ _ (.inl rfl) e⟩
 | xd fs=>obtain ⟨mA,⟨od,es,ep,e,c⟩,r⟩:=x;exact ⟨mA,⟨od,es,ep,k _ _ (.inl rfl) e,c⟩,r⟩
 | rng lo hi=>obtain ⟨t,u,v,e⟩:=x;exact ⟨t,u,v,k _ _ (.inl rfl) e⟩
 | frz ob u ih=>obtain ⟨e,q⟩:=x;exact ⟨k _ _ (.inl rfl) e,ih q⟩
 | tbl ps =>
  have e:h.get? a=some { cls:=.none,data:=.fields ps }:=x
  show h'.get? a=some { cls:=.none,data:=.fields ps }
  exact k a _ (.inl rfl) e
 | met f y =>
  have e:h.get? a=some (PySem.W.methodObj (.ref f) (.ref y)):=x
  show h'.get? a=some (PySem.W.methodObj (.ref f) (.ref y))
  exact k a _ (.inl rfl) e
 | ext φ=>obtain ⟨p,⟨o,e⟩,st⟩:=x;exact ⟨st _ _ p fun o q=>k _ _ (.inl rfl) q,⟨o,k _ _ (.inl rfl) e⟩,st⟩
theorem HOk.lt (x:HOk P w H h) (e:H a=some o):a<h.objs.size:=(x a o e).lt
theorem HOk.fresh (x:HOk P w H h) (e:h.objs.size<=a):H a=none:=by
 cases q:H a with
 | none=>rfl
 | some u=>exact absurd (Nat.lt_of_lt_of_le (x.lt q) e) (Nat.lt_irrefl _)
theorem HOk.kept (x:HOk P w H h) (k:∀b u,h.get? b=some u->h'.get? b=some u):HOk P w H h':=fun a o e =>
 (x a o e).stay (fun b u _ q=>k b u q) (fun _ q=>q) fun _ _ q=>q
theorem HOk.laid (x:HOk P w H h) (k:∀b u,h.get? b=some u->h'.get? b=some u) (hp:h.objs.size<=a) (new:ObjOk P w (upd H a o) h' a o):HOk P w (upd H a o) h':=fun b u e=>by
 have hn:=x.fresh hp
 by_cases hb:b=a
 ·subst hb;rw [zY] at e;cases e;exact new
 ·rw [zp hb] at e
  exact (x b u e).stay (fun c v _ q=>k c v q) (fun c q=>by rw [zp (y8 q hn)];exact q) fun c xs q=>by rw [zp (y8 q hn)];exact q
end
def Rd (H:Hp) (a:Addr) (u:HO):Prop:=H a=some u\/∃o,H a=some (.frz o u)
theorem Rd.ok {P:Program}{w:World}{H:Hp}{h:Heap}{a:Addr}{u:HO}(r:Rd H a u) (x:HOk P w H h):ObjOk P w H h a u:=by
 rcases r with r|⟨o,r⟩
 ·exact x a u r
 ·obtain ⟨_,q⟩:=x a _ r
  exact q
def Mut:Option HO->Prop
 | some (.lst _)=>True
 | some (.dK _)=>True
 | some (.dT _)=>True
 | some (.set _ _)=>True
 | some (.ins _ _ _)=>True
 | some (.ext _)=>True
 | _=>False
section
variable {P:Program}{w:World}{H:Hp}{h h':Heap}{x e:Addr}{o':HO}
theorem HOk.write (ok:HOk P w H h) (mu:Mut (H x)) (he:e=x\/H e=some (.own x)) (k:∀b u,b≠e->h.get? b=some u->h'.get? b=some u) (heo:∃u,h'.get? e=some u)
  (new:ObjOk P w (upd H x o') h' x o'):HOk P w (upd H x o') h':=fun b u q=>by
 have nown:∀c y,H c=some (.own y)->c≠x:=fun c y r z=>by subst z;rw [r] at mu;exact mu
 have ntup:∀c xs,H c=some (.tup xs)->c≠x:=fun c xs r z=>by subst z;rw [r] at mu;exact mu
 by_cases hb:b=x
 ·subst hb;rw [zY] at q;cases q;exact new
 ·rw [zp hb] at q
  by_cases hbe:b=e
  ·have q':H b=some (.own x):=by
    rcases he with z|z
    ·exact absurd (hbe.trans z) hb
    ·rw [hbe];exact z
   rw [q] at q';cases q'
   obtain ⟨v,hv⟩:=heo
   exact ⟨v,by rw [hbe];exact hv⟩
  ·refine (ok b u q).stay (fun c v hc r=>k c v ?_ r) (fun c r=>by rw [zp (nown c b r)];exact r) fun c xs r=>by rw [zp (ntup c xs r)];exact r
   rcases hc with rfl|hc
   ·exact hbe
   ·rintro rfl
    rcases he with z|z
    ·exact nown c b hc z
    ·rw [hc] at z;cases z;exact hb rfl
end
structure Un (fs ex:List Addr) (H H':Hp) (h h':Heap):Prop where
 keep:∀b o,h.get? b=some o->H b=none->b∉fs->b∉ex->h'.get? b=some o
 slot:∀b o,h.get? b=some o->H b=none->b∈fs->b∉ex->∃sl,h'.get? b=some { o with slots:=sl }
 free:∀b o,h.get? b=some o->H b=none->b∉ex->H' b=none
 there:∀b o,h.get? b=some o->b∉ex->∃o',h'.get? b=some o'
 tups:∀b xs,H b=some (.tup xs)->H' b=some (.tup xs)
 frzs:∀b o u,H b=some (.frz o u)->H' b=some (.frz o u)
 tbls:∀b ps,H b=some (.tbl ps)->∃more,H' b=some (.tbl (ps++more))
section
variable {fs fs' ex ex':List Addr}{H H1 H2:Hp}{h h1 h2 h':Heap}{a x e:Addr}{o:HO}
theorem Un.any (u:Un fs ex H H1 h h1) {b:Addr}{ob:Obj}(q:h.get? b=some ob) (n:H b=none) (hx:b∉ex):∃sl,h1.get? b=some { ob with slots:=sl }:=by
 by_cases hb:b∈fs
 ·exact u.slot b ob q n hb hx
 ·exact ⟨ob.slots,u.keep b ob q n hb hx⟩
theorem Un.kept (k:∀b u,h.get? b=some u->h'.get? b=some u):Un fs ex H H h h' :=
 ⟨fun b ob q _ _ _=>k b ob q,fun b ob q _ _ _=>⟨ob.slots,k b ob q⟩,fun _ _ _ n _=>n,fun b ob q _=>⟨ob,k b ob q⟩,fun _ _ q=>q,fun _ _ _ q=>q,fun _ ps q=>⟨#[],by rw [q];simp⟩⟩
theorem Un.refl:Un fs ex H H h h:=Un.kept fun _ _ q=>q
theorem Un.laid (k:∀b u,h.get? b=some u->h'.get? b=some u) (hp:h.objs.size<=a) (hn:H a=none):Un fs ex H (upd H a o) h h' where
 keep:=fun b u q _ _ _=>k b u q
 slot:=fun b u q _ _ _=>⟨u.slots,k b u q⟩
 free:=fun b u q n _=>by rw [zp (Nat.ne_of_lt (Nat.lt_of_lt_of_le (Heap.lt_size q) hp))];exact n
 there:=fun b u q _=>⟨u,k b u q⟩
 tups:=fun b xs q=>by rw [zp (y8 q hn)];exact q
 frzs:=fun b u xs q=>by rw [zp (y8 q hn)];exact q
 tbls:=fun b ps q=>⟨#[],by rw [zp (y8 q hn),q];simp⟩
theorem Un.write (mu:Mut (H x)) (he:e=x\/H e=some (.own x)) (k:∀b u,b≠e->h.get? b=some u->h'.get? b=some u) (heo:∃u,h'.get? e=some u):Un fs ex H (upd H x o) h h':=by
 have hx:∀b,H b=none->b≠x:=fun b n z=>by subst z;rw [n] at mu;exact mu
 have hb:∀b,H b=none->b≠e:=fun b n z=>by
  subst z
  rcases he with r|r
  ·exact hx b n r
  ·rw [n] at r;cases r
 have hm:∀b u,H b=some u->¬Mut (some u)->b≠x:=fun b u q nm z=>by subst z;rw [q] at mu;exact nm mu
 refine ⟨fun b u q n _ _=>k b u (hb b n) q,fun b u q n _ _=>⟨u.slots,k b u (hb b n) q⟩,fun b u q n _=>by rw [zp (hx b n)];exact n,fun b u q _=>?_,
  fun b xs q=>by rw [zp (hm b _ q fun z=>z)];exact q,fun b u xs q=>by rw [zp (hm b _ q fun z=>z)];exact q,fun b ps q=>⟨#[],by rw [zp (hm b _ q fun z=>z),q];simp⟩⟩
 by_cases hbe:b=e
 ·subst hbe;exact heo
 ·exact ⟨u,k b u hbe q⟩
theorem Un.mono (u:Un fs ex H H1 h h1) (hs:∀b∈fs,b∈fs') (hx:∀b∈ex,b∈ex'):Un fs' ex' H H1 h h1 :=
 ⟨fun b ob q n hb he=>u.keep b ob q n (fun z=>hb (hs b z)) fun z=>he (hx b z),fun _ _ q n _ he=>u.any q n fun z=>he (hx _ z),fun b ob q n he=>u.free b ob q n fun z=>he (hx b z),fun b ob q he=>u.there b ob q fun z=>he (hx b z),u.tups,u.frzs,u.tbls⟩
end
def trk (h:Heap) (H:Hp):List Addr:=(List.range h.objs.size).filter fun a=>(H a).isSome
def hidT (h:Heap) (H:Hp):Heap:=PySem.W.hideAll h (trk h H)
theorem zhE (h:Heap) (H:Hp):(hidT h H).objs.size=h.objs.size:=PySem.W.hideAll_size _ _
theorem zhF {h:Heap}{H:Hp}{b:Addr}{o:Obj}(e:h.get? b=some o) (n:H b=none):(hidT h H).get? b=some o :=
 PySem.W.hideAll_get _ e fun hm=>by
  have q:(H b).isSome=true:=(List.mem_filter.mp hm).2
  rw [n] at q;simp at q
theorem zhG {h:Heap}{H:Hp}{b:Addr}{o:Obj}(e:(hidT h H).get? b=some o):h.get? b=some o/\H b=none:=by
 have e':h.get? b=some o:=PySem.W.of_hideAll (trk h H) e
 refine ⟨e',?_⟩
 cases q:H b with
 | none=>rfl
 | some x =>
  have hm:b∈trk h H:=List.mem_filter.mpr ⟨List.mem_range.mpr (Heap.lt_size e'),by simp [q]⟩
  have z:(hidT h H).get? b=none:=PySem.W.hideAll_none (trk h H) hm
  rw [z] at e;cases e
def allNews (g h:Heap) (L:Addr):List (Addr×Obj):=(List.range h.objs.size).filterMap fun a=>if a=L\/(g.get? a).isSome=true then none else (h.get? a).map fun o=>(a,o)
def rest (g h:Heap) (L d:Addr):List (Addr×Obj):=(allNews g h L).filter fun p=>decide (p.1≠d)
structure Mod (K:PySem.W.Frag) (mg:Str->Option Value) (base:Heap):Prop where
 kin:K.In base
 glob:base.Ns mainGlobals mg
 blt:∃mb,base.Ns builtinsNs mb/\∀x:Str,x ≠ "__name__" -> mb x=bootBuiltins x
 nolimit:base.NoLimit
structure Cx where
 prog:Program
 w:World
 K:PySem.W.Frag
 mg:Str->Option Value
 base:Heap
 A:Around
 N:List Str
 s₀:Shared
 H₀:Hp
 env:Env
 outer:List Env
 stack:List Env
 ex:List Addr
 fn:Str->Bool
 calm:Bool
 pn:List (Addr×Obj)
 xe:Value->Shared->Prop
def frs (l:List Env):List Addr:=l.filterMap (·.frame)
abbrev Cx.fs (X:Cx):List Addr:=frs X.outer
def Vis (sc:Scope) (x:Str):Prop:=sc.names.lookup x=some .local\/sc.names.lookup x=some .cell\/sc.names.lookup x=some .free
def Loc (sc:Scope) (x:Str):Prop:=sc.names.lookup x=some .local\/sc.names.lookup x=some .cell
def Look (env:Env) (h:Heap) (m:Str->Option Value) (x:Str) (u:Value):Prop :=
 (env.kindOf x=some .local/\m x=some u)\/((env.kindOf x=some .cell\/env.kindOf x=some .free)/\∃c,env.cells.lookup x=some c/\h.IsCell c (some u))
structure Cx.Ok (X:Cx):Prop where
 mod:Mod X.K X.mg X.base
 kind:X.env.scope.kind=.function
 glob:X.env.globals=mainGlobals
 blt:X.env.builtins=builtinsNs
 above:X.s₀.heap.objs.size<=X.env.locals
 inj:∀x y c,X.env.cells.lookup x=some c->X.env.cells.lookup y=some c->x=y
 has:∀x,(X.env.kindOf x=some .cell\/X.env.kindOf x=some .free)->∃c,X.env.cells.lookup x=some c
 cab:∀x c,X.fn x=true->X.env.cells.lookup x=some c->X.s₀.heap.objs.size<=c
 hd:X.calm=true->X.A.handled=none
 frames:X.A.frames=some X.stack
 stk:X.stack=X.outer\/(X.stack=X.env::X.outer/\X.env.frame=some X.env.locals)
 exf:∀b∈X.ex,b≠X.env.locals/\∀x c,X.env.cells.lookup x=some c->c≠b
 bs:∀b o,X.base.get? b=some o->X.s₀.heap.get? b=some o/\X.H₀ b=none
 bsz:X.base.objs.size<=X.s₀.heap.objs.size
 noex:∀b o,X.base.get? b=some o->b∉X.ex
 exfs:∀b∈X.ex,b∉X.fs
 funs:X.s₀.heap.FunFrames X.base X.outer
 frf:∀b∈X.fs,X.H₀ b=none
structure Inv (X:Cx) (pins:List (Addr×Obj)) (U:List (Option V)) (H:Hp) (s:Shared):Prop where
 ok:X.Ok
 os:s.os=X.s₀.os
 bare:AllBare s.gens
 base:Un X.fs X.ex X.H₀ H X.s₀.heap s.heap
 loc:∃m,s.heap.Ns X.env.locals m/\∀(i:Nat) (x:Str) (v:V),X.N[i]?=some x->U[i]?=some (some v)->Vis X.env.scope x->∃u,RelV v u/\Look X.env s.heap m x u
 cell:∀x c,X.env.cells.lookup x=some c->∃v,s.heap.IsCell c v
 free:H X.env.locals=none
 freeC:∀x c,X.env.cells.lookup x=some c->H c=none
 pin:∀p∈X.pn++pins,s.heap.get? p.1=some p.2/\H p.1=none/\p.1≠X.env.locals/\p.1∉X.fs/\∀v,p.2.data ≠ .cell v
 hok:HOk X.prog X.w H s.heap
 len:U.length=X.N.length
section
variable {X:Cx}{pins:List (Addr×Obj)}{U:List (Option V)}{H H':Hp}{s:Shared}{h':Heap}
theorem Cx.Ok.nofr (ok:X.Ok) {b:Addr}{o:Obj}(e:X.base.get? b=some o):b∉X.fs:=fun hb=>by
 have:=(ok.funs.mem hb).1
 rw [e] at this;cases this
theorem Inv.bs (I:Inv X pins U H s):∀b o,X.base.get? b=some o->s.heap.get? b=some o/\H b=none:=fun b o e =>
 ⟨I.base.keep b o (I.ok.bs b o e).1 (I.ok.bs b o e).2 (I.ok.nofr e) (I.ok.noex b o e),I.base.free b o (I.ok.bs b o e).1 (I.ok.bs b o e).2 (I.ok.noex b o e)⟩
theorem Inv.bk (I:Inv X pins U H s):∀b o,X.base.get? b=some o->s.heap.get? b=some o:=fun b o e=>(I.bs b o e).1
theorem Inv.mod (I:Inv X pins U H s):Mod X.K X.mg X.base:=I.ok.mod
theorem Inv.kIn (I:Inv X pins U H s):X.K.In s.heap:=I.ok.mod.kin.keeps I.bk
theorem Inv.fr (I:Inv X pins U H s):∃m,Fr X.base X.env.locals s.heap m :=
 let ⟨m,hn,_⟩:=I.loc
 ⟨m,hn,I.bk,Nat.le_trans I.ok.bsz I.ok.above⟩
theorem Inv.lt (I:Inv X pins U H s):X.env.locals<s.heap.objs.size:=let ⟨_,hn,_⟩:=I.loc;hn.lt
theorem Inv.sz (I:Inv X pins U H s):X.s₀.heap.objs.size<=s.heap.objs.size:=Nat.le_trans I.ok.above (Nat.le_of_lt I.lt)
theorem Inv.nofs (I:Inv X pins U H s) {a:Addr}(h:s.heap.objs.size<=a):a∉X.fs:=fun hb=>by
 obtain ⟨_,o,ho,_⟩:=I.ok.funs.mem hb
 exact absurd (Nat.lt_of_lt_of_le (Heap.lt_size ho) (Nat.le_trans I.sz h)) (Nat.lt_irrefl _)
theorem Inv.cne (I:Inv X pins U H s):∀x c,X.env.cells.lookup x=some c->c≠X.env.locals:=fun x c e z=>by
 obtain ⟨v,o,ho,hd⟩:=I.cell x c e
 obtain ⟨m,⟨o',es,ep,ho',hd',_⟩,_⟩:=I.loc
 rw [z,ho'] at ho;cases ho;rw [hd'] at hd;cases hd
theorem Inv.funs (I:Inv X pins U H s):s.heap.FunFrames X.base X.outer:=by
 have all:∀(l:List Env),(∀b∈frs l,b∈X.fs)->X.s₀.heap.FunFrames X.base l->s.heap.FunFrames X.base l:=by
  intro l
  induction l with
  | nil=>intro _ _;trivial
  | cons env r ih =>
   intro hs hl
   obtain ⟨hk,⟨L,o,hf,hn,ho,hd⟩,hr⟩:=hl
   have hL:L∈X.fs:=hs L (by unfold frs;rw [List.filterMap_cons,hf];exact List.mem_cons_self)
   obtain ⟨sl,e⟩:=I.base.slot L o ho (I.ok.frf L hL) hL fun z=>I.ok.exfs L z hL
   exact ⟨hk,⟨L,_,hf,hn,e,hd⟩,ih (fun b hb=>hs b (by unfold frs;rw [List.filterMap_cons,hf];exact List.mem_cons_of_mem _ hb)) hr⟩
 exact all X.outer (fun _ hb=>hb) I.ok.funs
theorem Inv.stack (I:Inv X pins U H s):s.heap.FunFrames X.base X.stack:=by
 rcases I.ok.stk with e|⟨e,hf⟩
 ·rw [e];exact I.funs
 ·rw [e]
  obtain ⟨m,hn,_⟩:=I.loc
  refine .cons (by rw [I.ok.kind];decide) hf hn ?_ I.funs
  exact Heap.get?_none_of_le (Nat.le_trans I.ok.bsz I.ok.above)
theorem Inv.stkSub (I:Inv X pins U H s):∀b∈frs X.stack,b∈X.env.locals::X.fs:=fun b hb=>by
 rcases I.ok.stk with e|⟨e,hf⟩
 ·rw [e] at hb;exact List.mem_cons_of_mem _ hb
 ·rw [e] at hb
  unfold frs at hb
  rw [List.filterMap_cons,hf] at hb
  exact hb
theorem Inv.stkFree (I:Inv X pins U H s):∀b∈frs X.stack,H b=none:=fun b hb=>by
 rcases List.mem_cons.mp (I.stkSub b hb) with e|hb
 ·rw [e];exact I.free
 ·obtain ⟨_,o,ho,_⟩:=I.ok.funs.mem hb
  exact I.base.free b o ho (I.ok.frf b hb) fun z=>I.ok.exfs b z hb
theorem Inv.step {g':Array GenState}{t':Nat}{d':Drawn}{ch:List Addr}(I:Inv X pins U H s)
  (hch:∀b∈ch,(b∈X.ex\/X.s₀.heap.objs.size<=b)/\b≠X.env.locals/\(∀x c,X.env.cells.lookup x=some c->c≠b)/\∀p∈X.pn++pins,p.1≠b)
  (keep:∀b o,b≠X.env.locals->b∉X.fs->b∉ch->s.heap.get? b=some o->H b=none->h'.get? b=some o)
  (slot:∀b o,b≠X.env.locals->b∈X.fs->b∉ch->s.heap.get? b=some o->H b=none->∃sl,h'.get? b=some { o with slots:=sl }) (free:∀b o,b∉ch->s.heap.get? b=some o->H b=none->H' b=none)
  (there:∀b o,b∉ch->s.heap.get? b=some o->∃o',h'.get? b=some o')
  (tups:∀b xs,H b=some (.tup xs)->H' b=some (.tup xs)) (frzs:∀b o u,H b=some (.frz o u)->H' b=some (.frz o u)) (tbls:∀b ps,H b=some (.tbl ps)->∃more,H' b=some (.tbl (ps++more)))
  (ns:∀m,s.heap.Ns X.env.locals m->h'.Ns X.env.locals m) (hok:HOk X.prog X.w H' h') (hg:AllBare g') :
  Inv X pins U H' { s with heap:=h',gens:=g',drawn:=d',toks:=t' }:=by
 have neL:∀b o,X.s₀.heap.get? b=some o->b≠X.env.locals:=fun b o e=>Nat.ne_of_lt (Nat.lt_of_lt_of_le (Heap.lt_size e) I.ok.above)
 have neC:∀b o,X.s₀.heap.get? b=some o->b∉X.ex->b∉ch:=fun b o e hx hb=>by
  rcases (hch b hb).1 with z|z
  ·exact hx z
  ·exact absurd (Nat.lt_of_lt_of_le (Heap.lt_size e) z) (Nat.lt_irrefl _)
 have cellK:∀x c,X.env.cells.lookup x=some c->∀v,s.heap.IsCell c v->h'.IsCell c v:=fun x c e v ⟨o,ho,hd⟩=>by
  have nch:c∉ch:=fun z=>(hch c z).2.2.1 x c e rfl
  by_cases hc:c∈X.fs
  ·obtain ⟨sl,q⟩:=slot c o (I.cne x c e) hc nch ho (I.freeC x c e)
   exact ⟨_,q,hd⟩
  ·exact ⟨o,keep c o (I.cne x c e) hc nch ho (I.freeC x c e),hd⟩
 refine ⟨I.ok,I.os,hg,⟨fun b o e n hb hx=>?_,fun b o e n hb hx=>?_,fun b o e n hx=>?_,fun b o e hx=>?_,fun b xs e=>tups b xs (I.base.tups b xs e),fun b o xs e=>frzs b o xs (I.base.frzs b o xs e),fun b ps e=>?_⟩,?_,fun x c e=>?_,?_,fun x c e=>?_,fun p hp=>?_,hok,I.len⟩
 ·exact keep b o (neL b o e) hb (neC b o e hx) (I.base.keep b o e n hb hx) (I.base.free b o e n hx)
 ·obtain ⟨sl,e1⟩:=I.base.slot b o e n hb hx
  obtain ⟨sl',e2⟩:=slot b _ (neL b o e) hb (neC b o e hx) e1 (I.base.free b o e n hx)
  exact ⟨sl',e2⟩
 ·obtain ⟨o',e1⟩:=I.base.there b o e hx
  exact free b o' (neC b o e hx) e1 (I.base.free b o e n hx)
 ·obtain ⟨o',e1⟩:=I.base.there b o e hx
  exact there b o' (neC b o e hx) e1
 ·obtain ⟨m1,e1⟩:=I.base.tbls b ps e
  obtain ⟨m2,e2⟩:=tbls b _ e1
  exact ⟨m1++m2,by rw [e2,Array.append_assoc]⟩
 ·obtain ⟨m,hn,hl⟩:=I.loc
  refine ⟨m,ns m hn,fun i x v e1 e2 e3=>?_⟩
  obtain ⟨u,r,l⟩:=hl i x v e1 e2 e3
  refine ⟨u,r,?_⟩
  rcases l with l|⟨k,c,e,z⟩
  ·exact .inl l
  ·exact .inr ⟨k,c,e,cellK x c e _ z⟩
 ·obtain ⟨v,z⟩:=I.cell x c e
  exact ⟨v,cellK x c e v z⟩
 ·obtain ⟨m,⟨o,_,_,ho,_⟩,_⟩:=I.loc
  exact free _ o (fun z=>(hch _ z).2.1 rfl) ho I.free
 ·obtain ⟨v,o,ho,hd⟩:=I.cell x c e
  exact free c o (fun z=>(hch c z).2.2.1 x c e rfl) ho (I.freeC x c e)
 ·obtain ⟨e,n,ne,nf,d⟩:=I.pin p hp
  have nch:p.1∉ch:=fun z=>(hch p.1 z).2.2.2 p hp rfl
  exact ⟨keep p.1 p.2 ne nf nch e n,free p.1 p.2 nch e n,ne,nf,d⟩
theorem Inv.un {t':Nat}(I:Inv X pins U H s) (u:Un X.fs [] H H' s.heap h') (hok:HOk X.prog X.w H' h'):Inv X pins U H' { s with heap:=h',toks:=t' }:=by
 obtain ⟨m,⟨o,es,ep,ho,r⟩,_⟩:=id I.loc
 obtain ⟨sl,hL⟩:=u.any ho I.free (by simp)
 exact I.step (g':=s.gens) (d':=s.drawn) (ch:=[]) (fun _ z=>nomatch z) (fun b o _ hb _ e n=>u.keep b o e n hb (by simp)) (fun b o _ hb _ e n=>u.slot b o e n hb (by simp)) (fun b o _ e n=>u.free b o e n (by simp)) (fun b o _ e=>u.there b o e (by simp)) u.tups u.frzs u.tbls (fun m' hm=>by
  obtain ⟨o',es',ep',ho',r'⟩:=hm
  rw [ho] at ho';cases ho'
  exact ⟨_,es',ep',hL,r'⟩) hok I.bare
theorem Inv.call {g':Array GenState}{t':Nat}{d':Drawn}{ch:List Addr}(I:Inv X pins U H s) (u:Un (frs X.stack) ch H H' s.heap h') (hok:HOk X.prog X.w H' h') (hg:AllBare g')
  (hch:∀b∈ch,(b∈X.ex\/X.s₀.heap.objs.size<=b)/\b≠X.env.locals/\(∀x c,X.env.cells.lookup x=some c->c≠b)/\∀p∈X.pn++pins,p.1≠b) :
  Inv X pins U H' { s with heap:=h',gens:=g',drawn:=d',toks:=t' }:=by
 obtain ⟨m,⟨o,es,ep,ho,r⟩,_⟩:=id I.loc
 obtain ⟨sl,hL⟩:=u.any ho I.free fun z=>(hch _ z).2.1 rfl
 exact I.step (ch:=ch) hch (fun b o hL hb hc e n=>u.keep b o e n (fun z=>(List.mem_cons.mp (I.stkSub b z)).elim hL hb) hc) (fun b o _ _ hc e n=>u.any e n hc) (fun b o hc e n=>u.free b o e n hc) (fun b o hc e=>u.there b o e hc) u.tups u.frzs u.tbls (fun m' hm=>by
  obtain ⟨o',es',ep',ho',r'⟩:=hm
  rw [ho] at ho';cases ho'
  exact ⟨_,es',ep',hL,r'⟩) hok hg
theorem Inv.turned {t':Nat}{it:Addr}(I:Inv X pins U H s) (k:∀b o,b≠it->s.heap.get? b=some o->h'.get? b=some o) (hn:H it=none) (hL:it≠X.env.locals)
  (h1:it∈X.ex\/X.s₀.heap.objs.size<=it) (h2:∀x c,X.env.cells.lookup x=some c->c≠it) (h3:∀p∈X.pn++pins,p.1≠it):Inv X pins U H { s with heap:=h',toks:=t' }:=by
 have nit:∀b u,H b=some u->b≠it:=fun b u e z=>by rw [z,hn] at e;cases e
 refine I.step (g':=s.gens) (d':=s.drawn) (ch:=[it]) (fun b hb=>?_) (fun b o _ _ hc e _=>k b o (fun z=>hc (by simp [z])) e) (fun b o _ _ hc e _=>⟨o.slots,k b o (fun z=>hc (by simp [z])) e⟩) (fun _ _ _ _ n=>n)
  (fun b o hc e=>⟨o,k b o (fun z=>hc (by simp [z])) e⟩) (fun _ _ e=>e) (fun _ _ _ e=>e) (fun b ps e=>⟨#[],by rw [e];simp⟩) (fun m hm=>?_) (fun b u e=>?_) I.bare
 ·have e:b=it:=by simpa using hb
  subst e
  exact ⟨h1,hL,h2,h3⟩
 ·obtain ⟨o,es,ep,ho,r⟩:=hm
  exact ⟨o,es,ep,k _ o (Ne.symm hL) ho,r⟩
 ·refine (I.hok b u e).stay (fun c v hc q=>k c v ?_ q) (fun _ q=>q) fun _ _ q=>q
  rcases hc with z|z
  ·rw [z];exact nit b u e
  ·exact nit c _ z
theorem Inv.tok (I:Inv X pins U H s) (t:Nat):Inv X pins U H { s with toks:=t }:=I.un (h':=s.heap) (t':=t) Un.refl I.hok
theorem Inv.kept {t':Nat}(I:Inv X pins U H s) (k:∀b u,s.heap.get? b=some u->h'.get? b=some u):Inv X pins U H { s with heap:=h',toks:=t' }:=I.un (Un.kept k) (I.hok.kept k)
theorem Inv.laid {a:Addr}{o:HO}{t':Nat}(I:Inv X pins U H s) (k:∀b u,s.heap.get? b=some u->h'.get? b=some u) (hp:s.heap.objs.size<=a) (new:ObjOk X.prog X.w (upd H a o) h' a o) :
  Inv X pins U (upd H a o) { s with heap:=h',toks:=t' }:=I.un (Un.laid k hp (I.hok.fresh hp)) (I.hok.laid k hp new)
theorem Inv.write {x e:Addr}{o:HO}{t':Nat}(I:Inv X pins U H s) (mu:Mut (H x)) (he:e=x\/H e=some (.own x)) (k:∀b u,b≠e->s.heap.get? b=some u->h'.get? b=some u) (heo:∃u,h'.get? e=some u)
  (new:ObjOk X.prog X.w (upd H x o) h' x o):Inv X pins U (upd H x o) { s with heap:=h',toks:=t' }:=I.un (Un.write mu he k heo) (I.hok.write mu he k heo new)
theorem Inv.weak {ag:List (Option V)}(I:Inv X pins U H s) (hl:ag.length=U.length) (w:∀(i:Nat) v,ag[i]?=some (some v)->U[i]?=some (some v)):Inv X pins ag H s :=
 ⟨I.ok,I.os,I.bare,I.base,let ⟨m,hn,hl'⟩:=I.loc;⟨m,hn,fun i x v e1 e2 e3=>hl' i x v e1 (w i v e2) e3⟩,I.cell,I.free,I.freeC,I.pin,I.hok,hl.trans I.len⟩
theorem Inv.pins_of {pins':List (Addr×Obj)}(I:Inv X pins U H s) (h:∀p∈pins',s.heap.get? p.1=some p.2/\H p.1=none/\p.1≠X.env.locals/\p.1∉X.fs/\∀v,p.2.data ≠ .cell v):Inv X pins' U H s :=
 ⟨I.ok,I.os,I.bare,I.base,I.loc,I.cell,I.free,I.freeC,fun p hp=>(List.mem_append.mp hp).elim (fun z=>I.pin p (List.mem_append_left _ z)) (h p),I.hok,I.len⟩
theorem zbO {N:List Str}(hN:N.Nodup) {i j:Nat}{x:Str}(a:N[i]?=some x) (b:N[j]?=some x):i=j:=by
 obtain ⟨h1,e1⟩:=List.getElem?_eq_some_iff.mp a
 obtain ⟨h2,e2⟩:=List.getElem?_eq_some_iff.mp b
 exact (List.getElem_inj hN).mp (e1.trans e2.symm)
theorem zhH {M:Model}{A:Around}{E:Value->Shared->Prop}{i:Nat}{x:Str}{v:V}{u:Value}{Q:Unit->Shared->Prop}(I:Inv X pins U H s) (hN:X.N.Nodup) (hi:X.N[i]?=some x) (hx:Loc X.env.scope x) (r:RelV v u)
  (h:∀s',Inv X pins (U.set i (some v)) H s'->(∃a,Heap.SameBut a s.heap s'.heap/\(a=X.env.locals\/X.env.cells.lookup x=some a))->Q () s') (hf:X.fn x=true\/X.env.scope.names.lookup x=some .local:=by first|exact .inl rfl|exact .inr rfl|assumption):wpAny M A (storeName X.env x u) Q E s:=by
 obtain ⟨m,hn,hl⟩:=id I.loc
 have hcls:(X.env.scope.kind == .class||(X.env.scope.kind == .module&&X.env.locals != X.env.globals))=false:=by rw [I.ok.kind];rfl
 have aE:i<U.length:=by rw [I.len];exact (List.getElem?_eq_some_iff.mp hi).1
 have cne:=I.cne
 have tracked:∀{a:Addr} {h':Heap},(∃o,s.heap.get? a=some o/\H a=none)->Heap.SameBut a s.heap h'->HOk X.prog X.w H h':=fun {a h'} ha hs b ob e=>by
  obtain ⟨_,_,hfree⟩:=ha
  refine (I.hok b ob e).stay (fun c w' hc q=>(hs.2 c ?_).trans q) (fun _ q=>q) fun _ _ q=>q
  rintro rfl
  rcases hc with rfl|hc
  ·rw [hfree] at e;cases e
  ·rw [hfree] at hc;cases hc
 rcases hx with hk|hk
 ·refine wpAny_storeName_local hk hn (fun h' hn' hs=>?_) hcls
  obtain ⟨oL,_,_,hoL,_⟩:=id hn
  refine h _ ⟨I.ok,I.os,I.bare,⟨fun b o e n hb hx=>?_,fun b o e n hb hx=>?_,I.base.free,fun b o e hx=>?_,I.base.tups,I.base.frzs,I.base.tbls⟩,⟨_,hn',fun j y v' e1 e2 e3=>?_⟩,fun y c e=>?_,I.free,I.freeC,fun p hp=>?_,tracked ⟨oL,hoL,I.free⟩ hs,by simpa using I.len⟩ ⟨_,hs,.inl rfl⟩
  ·exact (hs.2 b (Nat.ne_of_lt (Nat.lt_of_lt_of_le (Heap.lt_size e) I.ok.above))).trans (I.base.keep b o e n hb hx)
  ·obtain ⟨sl,e1⟩:=I.base.slot b o e n hb hx
   exact ⟨sl,(hs.2 b (Nat.ne_of_lt (Nat.lt_of_lt_of_le (Heap.lt_size e) I.ok.above))).trans e1⟩
  ·obtain ⟨o',e1⟩:=I.base.there b o e hx
   exact ⟨o',(hs.2 b (Nat.ne_of_lt (Nat.lt_of_lt_of_le (Heap.lt_size e) I.ok.above))).trans e1⟩
  ·by_cases hj:j=i
   ·subst hj
    rw [hi] at e1;cases e1
    rw [List.getElem?_set_self aE] at e2
    cases e2
    exact ⟨u,r,.inl ⟨hk,by simp⟩⟩
   ·rw [List.getElem?_set_ne (Ne.symm hj)] at e2
    obtain ⟨u',r',q⟩:=hl j y v' e1 e2 e3
    refine ⟨u',r',?_⟩
    rcases q with ⟨k,e⟩|⟨k,c,e,z⟩
    ·refine .inl ⟨k,?_⟩
     have:y≠x:=fun e=>hj (zbO hN e1 (e▸hi))
     simp [this,e]
    ·exact .inr ⟨k,c,e,z.sameBut hs (cne y c e)⟩
  ·obtain ⟨w',z⟩:=I.cell y c e
   exact ⟨w',z.sameBut hs (cne y c e)⟩
  ·obtain ⟨e,n,ne,nf,d⟩:=I.pin p hp
   exact ⟨(hs.2 p.1 ne).trans e,n,ne,nf,d⟩
 ·have hfn:X.fn x=true:=by
   rcases hf with z|z
   ·exact z
   ·rw [z] at hk;cases hk
  obtain ⟨c,hc⟩:=I.ok.has x (.inl hk)
  obtain ⟨w',z⟩:=I.cell x c hc
  refine wpAny_storeName_cell I.ok.kind hk hc z (fun h' hc' hs=>?_)
  obtain ⟨oc,hoc,hocd⟩:=id z
  refine h { s with heap:=h' } ⟨I.ok,I.os,I.bare,⟨fun b o e n hb hx=>?_,fun b o e n hb hx=>?_,I.base.free,fun b o e hx=>?_,I.base.tups,I.base.frzs,I.base.tbls⟩,⟨m,hn.sameBut hs (Ne.symm (cne x c hc)),fun j y v' e1 e2 e3=>?_⟩,fun y c' e=>?_,I.free,I.freeC,fun p hp=>?_,tracked ⟨oc,hoc,I.freeC x c hc⟩ hs,by simpa using I.len⟩ ⟨c,hs,.inr hc⟩
  ·exact (hs.2 b (Nat.ne_of_lt (Nat.lt_of_lt_of_le (Heap.lt_size e) (I.ok.cab x c hfn hc)))).trans (I.base.keep b o e n hb hx)
  ·obtain ⟨sl,e1⟩:=I.base.slot b o e n hb hx
   exact ⟨sl,(hs.2 b (Nat.ne_of_lt (Nat.lt_of_lt_of_le (Heap.lt_size e) (I.ok.cab x c hfn hc)))).trans e1⟩
  ·obtain ⟨o',e1⟩:=I.base.there b o e hx
   exact ⟨o',(hs.2 b (Nat.ne_of_lt (Nat.lt_of_lt_of_le (Heap.lt_size e) (I.ok.cab x c hfn hc)))).trans e1⟩
  ·by_cases hj:j=i
   ·subst hj
    rw [hi] at e1;cases e1
    rw [List.getElem?_set_self aE] at e2
    cases e2
    exact ⟨u,r,.inr ⟨.inl hk,c,hc,hc'⟩⟩
   ·rw [List.getElem?_set_ne (Ne.symm hj)] at e2
    obtain ⟨u',r',q⟩:=hl j y v' e1 e2 e3
    refine ⟨u',r',?_⟩
    rcases q with q|⟨k,c',e,z'⟩
    ·exact .inl q
    ·refine .inr ⟨k,c',e,z'.sameBut hs ?_⟩
     rintro rfl
     exact hj (zbO hN e1 (I.ok.inj _ _ _ e hc▸hi))
  ·by_cases hcc:c'=c
   ·subst hcc;exact ⟨_,hc'⟩
   ·obtain ⟨w2,z2⟩:=I.cell y c' e
    exact ⟨w2,z2.sameBut hs hcc⟩
  ·obtain ⟨e,n,ne,nf,d⟩:=I.pin p hp
   refine ⟨(hs.2 p.1 ?_).trans e,n,ne,nf,d⟩
   intro q
   rw [q,hoc] at e
   have q':oc=p.2:=Option.some.inj e
   exact d w' (by rw [<-q'];exact hocd)
theorem jX {M:Model}{A:Around}{E:Value->Shared->Prop}{i:Nat}{x:Str}{v:V}{u:Value}{Q:Unit->Shared->Prop}(I:Inv X pins U H s) (hN:X.N.Nodup) (hi:X.N[i]?=some x) (hx:Loc X.env.scope x) (r:RelV v u)
  (h:∀s',Inv X pins (U.set i (some v)) H s'->Q () s') (hf:X.fn x=true\/X.env.scope.names.lookup x=some .local:=by first|exact .inl rfl|exact .inr rfl|assumption):wpAny M A (storeName X.env x u) Q E s :=
 zhH I hN hi hx r (fun s' I' _=>h s' I') hf
theorem Inv.call' {s':Shared}{ch:List Addr}(I:Inv X pins U H s) (ho:s'.os=s.os) (u:Un (frs X.stack) ch H H' s.heap s'.heap) (hok:HOk X.prog X.w H' s'.heap) (hg:AllBare s'.gens)
  (hch:∀b∈ch,(b∈X.ex\/X.s₀.heap.objs.size<=b)/\b≠X.env.locals/\(∀x c,X.env.cells.lookup x=some c->c≠b)/\∀p∈X.pn++pins,p.1≠b):Inv X pins U H' s':=by
 obtain ⟨h',g',d',t',o'⟩:=s'
 have e:o'=s.os:=ho
 subst e
 exact I.call (g':=g') (t':=t') (d':=d') u hok hg hch
end
abbrev XK:=Value->Option Addr->Hp->Prop
abbrev St:=List (Option V)
abbrev VK:=V->Hp->Prop
abbrev TE:=St->Hp->VK->Prop
abbrev TT:=St->Hp->(Bool->Hp->Prop)->Prop
abbrev TA:=St->Hp->(List V->Hp->Prop)->Prop
structure Ends where
 nx:St->Hp->Prop
 rt:VK
 bk:St->Hp->Prop:=fun _ _=>False
 ct:St->Hp->Prop:=fun _ _=>False
abbrev TS:=Ends->St->Hp->Prop
def EP (X:Cx) (pins:List (Addr×Obj)) (U:St) (Q:VK) (u:Value) (s':Shared):Prop:=∃v H',Inv X pins U H' s'/\RelV v u/\Q v H'
def TP (X:Cx) (pins:List (Addr×Obj)) (U:St) (Q:Bool->Hp->Prop) (b:Bool) (s':Shared):Prop:=∃H',Inv X pins U H' s'/\Q b H'
def AP (X:Cx) (pins:List (Addr×Obj)) (U:St) (Q:List V->Hp->Prop) (us:List Value) (s':Shared):Prop:=∃vs H',Inv X pins U H' s'/\Vals vs us/\Q vs H'
def SP (X:Cx) (pins:List (Addr×Obj)) (D:Ends) (f:Flow) (s':Shared):Prop :=
 match f with
 | .next=>∃ag H',Inv X pins ag H' s'/\D.nx ag H'
 | .brk=>∃ag H',Inv X pins ag H' s'/\D.bk ag H'
 | .cont=>∃ag H',Inv X pins ag H' s'/\D.ct ag H'
 | .ret u=>∃v ag H',Inv X pins ag H' s'/\RelV v u/\D.rt v H'
def PE (X:Cx) (e:Expr) (t:TE):Prop :=
 ∀(pins:List (Addr×Obj)) (s:Shared) (U:St) (H:Hp) (Q:VK),Inv X pins U H s->t U H Q->wpAny (model X.prog X.w) X.A (eval e X.env) (EP X pins U Q) X.xe s
def PT (X:Cx) (e:Expr) (t:TT):Prop :=
 ∀(pins:List (Addr×Obj)) (s:Shared) (U:St) (H:Hp) (Q:Bool->Hp->Prop),Inv X pins U H s->t U H Q->wpAny (model X.prog X.w) X.A (isTrue e X.env (eval e X.env)) (TP X pins U Q) X.xe s
def PW (X:Cx) (e:Expr) (t:TT):Prop :=
 ∀(whole:Sem Value) (pins:List (Addr×Obj)) (s:Shared) (U:St) (H:Hp) (Q:Bool->Hp->Prop),Inv X pins U H s->t U H Q->wpAny (model X.prog X.w) X.A (isTrue e X.env whole) (TP X pins U Q) X.xe s
theorem PW.pt {X:Cx}{e:Expr}{t:TT}(h:PW X e t):PT X e t:=h _
def PA (X:Cx) (es:List Expr) (t:TA):Prop :=
 ∀(pos:Pos) (pins:List (Addr×Obj)) (s:Shared) (U:St) (H:Hp) (Q:List V->Hp->Prop),Inv X pins U H s->t U H Q->wpAny (model X.prog X.w) X.A (spliced (backTo pos (starEach es X.env))) (AP X pins U Q) X.xe s
def PS (X:Cx) (st:Stmt) (t:TS):Prop :=
 ∀(pins:List (Addr×Obj)) (s:Shared) (U:St) (H:Hp) (D:Ends),Inv X pins U H s->t D U H->wpAny (model X.prog X.w) X.A (exec st X.env) (SP X pins D) X.xe s
def PSs (X:Cx) (st:List Stmt) (t:TS):Prop :=
 ∀(pins:List (Addr×Obj)) (s:Shared) (U:St) (H:Hp) (D:Ends),Inv X pins U H s->t D U H->wpAny (model X.prog X.w) X.A (execs st X.env) (SP X pins D) X.xe s
theorem thn {α:Type}{t:Sem α}{Q Q':α->Shared->Prop}{M:Model}{A:Around}{E:Value->Shared->Prop}{s:Shared}(h:wpAny M A t Q E s) (hQ:∀a s,Q a s->Q' a s):wpAny M A t Q' E s:=wpAny_mono h hQ fun _ _ x=>x
section
variable {X:Cx}
def zaH (i:Nat):TE:=fun U H Q=>∃v,U[i]?=some (some v)/\Q v H
def tC (v:V):TE:=fun _ H Q=>Q v H
theorem zdM {i:Nat} {x:Str} {pos:Pos} (hN:X.N[i]?=some x) (hv:Vis X.env.scope x) (hd:(x==("__debug__" : Str))=false:=by decide) (hcd:(x==("__classdict__" : Str))=false:=by decide):PE X (.Name x pos) (zaH i):=by
 intro pins s U H Q I h
 obtain ⟨v,e,h⟩:=h
 obtain ⟨m,hn,hl⟩:=I.loc
 obtain ⟨u,r,l⟩:=hl i x v hN e hv
 have fin:EP X pins U Q u s:=⟨v,H,I,r,h⟩
 rcases l with ⟨hk,hm⟩|⟨hk,c,hc,hcell⟩
 ·exact wpAny_Name (wpAny_loadName_local I.ok.kind hk hn hm fin) hd
 ·rcases hk with hk|hk
  ·exact wpAny_Name (wpAny_loadName_cell I.ok.kind hk hc hcell fin) hd
  ·exact wpAny_Name (wpAny_loadName_free I.ok.kind hk hc hcell fin hcd) hd
theorem zhI {i j pos}:PE X (.Constant (.int i) j pos) (tC (.int i)):=fun _ _ _ H _ I h=>wpAny_Constant_int ⟨.int i,H,I.tok _,⟨_,rfl⟩,h⟩
theorem zhJ {b j pos}:PE X (.Constant (.bool b) j pos) (tC (.bl b)):=fun _ _ _ H _ I h=>Constant_bool ⟨.bl b,H,I,rfl,h⟩
theorem zhK {j pos}:PE X (.Constant .none j pos) (tC .non):=fun _ _ _ H _ I h=>Constant_none ⟨.non,H,I,rfl,h⟩
theorem zdN {x j pos}:PE X (.Constant (.str x) j pos) (tC (.str x)):=fun _ _ _ H _ I h=>Calls.Constant_str ⟨.str x,H,I.tok _,⟨_,rfl⟩,h⟩
def Gl (X:Cx) (x:Str):Prop:=X.env.kindOf x=some .globalImplicit
theorem jK {E:Value->Shared->Prop}{pins:List (Addr×Obj)}{s:Shared}{U:St}{H:Hp}{x:Str}{u:Value}{pos:Pos}{Q:Value->Shared->Prop}(I:Inv X pins U H s) (hg:Gl X x) (hm:X.mg x=some u) (h:Q u s)
  (hd:(x==("__debug__" : Str))=false:=by decide):wpAny (model X.prog X.w) X.A (eval (.Name x pos) X.env) Q E s :=
 Calls.Name_function_global I.ok.kind hg (Calls.loadGlobal_global (by rw [I.ok.glob];exact I.mod.glob.keeps I.bk) hm h) hd
theorem we {E:Value->Shared->Prop}{pins:List (Addr×Obj)}{s:Shared}{U:St}{H:Hp}{x:Str}{u:Value}{pos:Pos}{Q:Value->Shared->Prop}(I:Inv X pins U H s) (hg:Gl X x) (hm:X.mg x=none) (hv:bootBuiltins x=some u) (h:Q u s)
  (hn:x ≠ "__name__" := by decide) (hd:(x==("__debug__" : Str))=false:=by decide):wpAny (model X.prog X.w) X.A (eval (.Name x pos) X.env) Q E s:=by
 obtain ⟨mb,h1,h2⟩:=I.mod.blt
 exact Calls.Name_function_global I.ok.kind hg (Calls.loadGlobal_builtin (by rw [I.ok.glob];exact I.mod.glob.keeps I.bk) hm (by rw [I.ok.blt];exact h1.keeps I.bk) ((h2 x hn).trans hv) h) hd
theorem zbP {x:Str} {v:V} {u:Value} {pos:Pos} (hg:Gl X x) (hm:X.mg x=some u) (r:RelV v u) (hd:(x==("__debug__" : Str))=false:=by decide):PE X (.Name x pos) (tC v) :=
 fun _ _ _ H _ I h=>jK I hg hm ⟨v,H,I,r,h⟩ hd
theorem zhL {x:Str} {v:V} {u:Value} {pos:Pos} (hg:Gl X x) (hm:X.mg x=none) (hv:bootBuiltins x=some u) (r:RelV v u) (hn:x ≠ "__name__" := by decide) (hd:(x==("__debug__" : Str))=false:=by decide):PE X (.Name x pos) (tC v) :=
 fun _ _ _ H _ I h=>we I hg hm hv ⟨v,H,I,r,h⟩ hn hd
variable {a b:Expr}{ta tb:TE}{pos:Pos}
def tB (t:TE):TT:=fun U H Q=>t U H fun x H1=>∃c,x=.bl c/\Q c H1
theorem zhM {e:Expr}{t:TE}(h:PE X e t) (he:∀whole,isTrue e X.env whole=(do let v <-whole;standAt e.pos;holding [v] (truthy v)):=by intro _;rfl):PT X e (tB t):=by
 intro pins s U H Q I hw
 refine isTrue_plain (thn (h pins s U H _ I hw) fun v s1 ⟨x,H1,I1,r1,q1⟩=>?_) (he _)
 obtain ⟨d,rfl,q⟩:=q1
 cases r1
 exact wpAny_truthy_bool ⟨H1,I1,q⟩
variable {tA tB':TT}{rest:List Expr}
def zhN (t u:TT):TT:=fun U H Q=>t U H fun c H1=>if c=true then u U H1 Q else Q false H1
def tOr (t u:TT):TT:=fun U H Q=>t U H fun c H1=>if c=true then Q true H1 else u U H1 Q
def zhP (t:TT):TT:=fun U H Q=>t U H fun c H1=>Q (!c) H1
theorem zhQ (ha:PT X a tA):PW X (.BoolOp .And [a] pos) tA:=by
 intro wh pins s U H Q I h
 refine isTrue_and (thn (ha pins s U H Q I h) fun c s1 e=>?_)
 cases c with
 | true=>exact isTrue_and_nil e
 | false=>exact e
theorem zhR (ha:PT X a tA):PW X (.BoolOp .Or [a] pos) tA:=by
 intro wh pins s U H Q I h
 refine isTrue_or (thn (ha pins s U H Q I h) fun c s1 e=>?_)
 cases c with
 | false=>exact isTrue_or_nil e
 | true=>exact e
theorem zhS (ha:PT X a tA) (hb:PW X (.BoolOp .And (b::rest) pos) tB'):PW X (.BoolOp .And (a::b::rest) pos) (zhN tA tB'):=by
 intro wh pins s U H Q I h
 refine isTrue_and (thn (ha pins s U H _ I h) fun c s1 ⟨H1,I1,q1⟩=>?_)
 cases c with
 | true=>exact hb wh pins s1 U H1 Q I1 q1
 | false=>exact ⟨H1,I1,q1⟩
theorem zhT (ha:PT X a tA) (hb:PW X (.BoolOp .Or (b::rest) pos) tB'):PW X (.BoolOp .Or (a::b::rest) pos) (tOr tA tB'):=by
 intro wh pins s U H Q I h
 refine isTrue_or (thn (ha pins s U H _ I h) fun c s1 ⟨H1,I1,q1⟩=>?_)
 cases c with
 | true=>exact ⟨H1,I1,q1⟩
 | false=>exact hb wh pins s1 U H1 Q I1 q1
theorem zhU (ha:PT X a tA):PT X (.UnaryOp .Not a pos) (zhP tA):=by
 intro pins s U H Q I h
 exact isTrue_not (ha pins s U H (fun c H1=>Q (!c) H1) I h)
def zhV (ta tb:TE):TE:=fun U H Q=>ta U H fun x H1=>∃c,x=.bl c/\if c=true then tb U H1 Q else Q (.bl false) H1
theorem zhW {op}{t:TE}(h:PE X a t):PE X (.BoolOp op [a] pos) t:=fun pins s U H Q I hw=>BoolOp_one (h pins s U H Q I hw)
theorem zhX (ha:PE X a ta) (hb:PE X (.BoolOp .And (b::rest) pos) tb):PE X (.BoolOp .And (a::b::rest) pos) (zhV ta tb):=by
 intro pins s U H Q I h
 refine BoolOp_and (thn (ha pins s U H _ I h) fun v s1 ⟨x,H1,I1,r1,q1⟩=>?_)
 obtain ⟨c,rfl,q1⟩:=q1
 cases r1
 refine wpAny_truthy_bool ?_
 cases c with
 | true=>exact hb pins s1 U H1 Q I1 q1
 | false=>exact ⟨.bl false,H1,I1,rfl,q1⟩
end
def SqL (K:PySem.W.Frag) (H:Hp) (a:Addr) (xs:List V):Prop :=
 Rd H a (.lst xs) \/
  ∃(o:Obj) (its:Array Value) (n:Nat),K.lookup a=some o/\o.cls=.type "list" /\ o.dict=none/\o.data=.seq its n/\its.size<=sizeLine/\Vals xs its.toList
def SqT (K:PySem.W.Frag) (H:Hp) (a:Addr) (xs:List V):Prop :=
 Rd H a (.tup xs) \/
  ∃(o:Obj) (its:Array Value) (n:Nat),K.lookup a=some o/\o.cls=.type "tuple" /\ o.data=.seq its n/\its.size<=sizeLine/\Vals xs its.toList
def absV:Value->Option V
 | .none=>some .non
 | .bool b=>some (.bl b)
 | .int i _=>some (.int i)
 | .str x _=>some (.str x)
 | .bytes b _=>some (.byt b)
 | .float b _=>some (.flt b)
 | .ref a=>some (.ref a)
 | .type n=>some (.ty n)
 | _=>none
theorem RelV.abs {x:V}{u:Value}(r:RelV x u):absV u=some x:=by
 cases x with
 | non=>cases r;rfl
 | bl _=>cases r;rfl
 | int _=>obtain ⟨t,rfl⟩:=r;rfl
 | str _=>obtain ⟨t,rfl⟩:=r;rfl
 | byt _=>obtain ⟨t,rfl⟩:=r;rfl
 | flt _=>obtain ⟨t,rfl⟩:=r;rfl
 | ref _=>cases r;rfl
 | ty _=>cases r;rfl
theorem RelV.inj {x y:V}{u:Value}(r:RelV x u) (q:RelV y u):x=y:=Option.some.inj (r.abs.symm.trans q.abs)
theorem Vals.inj:∀{xs ys:List V}{us:List Value},Vals xs us->Vals ys us->xs=ys
 | _,_,_,.nil,.nil=>rfl
 | _,_,_,.cons r t,.cons r' t'=>by rw [r.inj r',Vals.inj t t']
section
variable {X:Cx}{pins:List (Addr×Obj)}{U:St}{H:Hp}{s:Shared}{a:Addr}{xs ys:List V}
theorem SqL.of {K:PySem.W.Frag}(h:H a=some (.lst xs)):SqL K H a xs:=.inl (.inl h)
theorem SqT.of {K:PySem.W.Frag}(h:H a=some (.tup xs)):SqT K H a xs:=.inl (.inl h)
theorem Inv.list (I:Inv X pins U H s) (h:SqL X.K H a xs):∃its:List Value,Vals xs its/\PlainL s.heap a its.toArray/\xs.length<=sizeLine:=by
 rcases h with h|⟨o,its,n,hk,hc,hd,hs,hz,r⟩
 ·obtain ⟨z,its,n,r,e⟩:=h.ok I.hok
  exact ⟨its,r,⟨_,n,e,rfl,rfl,rfl⟩,z⟩
 ·refine ⟨its.toList,r,⟨o,n,I.kIn a o hk,hc,hd,by simpa using hs⟩,?_⟩
  have e:=r.length
  simp only [Array.length_toList] at e
  omega
theorem Inv.tuple (I:Inv X pins U H s) (h:SqT X.K H a xs):∃its:List Value,Vals xs its/\IsTup s.heap a its.toArray/\xs.length<=sizeLine:=by
 rcases h with h|⟨o,its,n,hk,hc,hs,hz,r⟩
 ·obtain ⟨z,its,r,p⟩:=h.ok I.hok
  exact ⟨its,r,p,z⟩
 ·refine ⟨its.toList,r,⟨o,I.kIn a o hk,hc,n,by simpa using hs⟩,?_⟩
  have e:=r.length
  simp only [Array.length_toList] at e
  omega
theorem Inv.list_inj (I:Inv X pins U H s) (h:SqL X.K H a xs) (h':SqL X.K H a ys):xs=ys:=by
 obtain ⟨its,r,⟨o,n,e,_,_,d⟩,_⟩:=I.list h
 obtain ⟨its',r',⟨o',n',e',_,_,d'⟩,_⟩:=I.list h'
 rw [e] at e';cases e'
 rw [d] at d'
 injection d' with d1 _
 have:its=its':=by simpa using congrArg Array.toList d1
 subst this
 exact r.inj r'
theorem Inv.tuple_inj (I:Inv X pins U H s) (h:SqT X.K H a xs) (h':SqT X.K H a ys):xs=ys:=by
 obtain ⟨its,r,⟨o,e,_,n,d⟩,_⟩:=I.tuple h
 obtain ⟨its',r',⟨o',e',_,n',d'⟩,_⟩:=I.tuple h'
 rw [e] at e';cases e'
 rw [d] at d'
 injection d' with d1 _
 have:its=its':=by simpa using congrArg Array.toList d1
 subst this
 exact r.inj r'
end
abbrev Cx.wish (X:Cx) (E:Value->Shared->Prop):Cx:={ X with xe:=E }
abbrev Cx.nox (X:Cx):Cx:=X.wish fun _ _=>False
theorem Cx.Ok.wish {X:Cx}(ok:X.Ok) (E:Value->Shared->Prop):(X.wish E).Ok :=
 ⟨ok.mod,ok.kind,ok.glob,ok.blt,ok.above,ok.inj,ok.has,ok.cab,ok.hd,ok.frames,ok.stk,ok.exf,ok.bs,ok.bsz,ok.noex,ok.exfs,ok.funs,ok.frf⟩
theorem Cx.Ok.unwish {X:Cx}{E:Value->Shared->Prop}(ok:(X.wish E).Ok):X.Ok :=
 ⟨ok.mod,ok.kind,ok.glob,ok.blt,ok.above,ok.inj,ok.has,ok.cab,ok.hd,ok.frames,ok.stk,ok.exf,ok.bs,ok.bsz,ok.noex,ok.exfs,ok.funs,ok.frf⟩
section
variable {X:Cx}{pins:List (Addr×Obj)}{U:St}{H:Hp}{s:Shared}{E:Value->Shared->Prop}
theorem Inv.wish (I:Inv X pins U H s) (E:Value->Shared->Prop):Inv (X.wish E) pins U H s:=⟨I.ok.wish E,I.os,I.bare,I.base,I.loc,I.cell,I.free,I.freeC,I.pin,I.hok,I.len⟩
theorem Inv.unwish (I:Inv (X.wish E) pins U H s):Inv X pins U H s:=⟨I.ok.unwish,I.os,I.bare,I.base,I.loc,I.cell,I.free,I.freeC,I.pin,I.hok,I.len⟩
theorem SP.unwish {D:Ends}{f:Flow}{s':Shared}(h:SP (X.wish E) pins D f s'):SP X pins D f s':=by
 cases f with
 | next=>obtain ⟨ag,H',I,q⟩:=h;exact ⟨ag,H',I.unwish,q⟩
 | brk=>obtain ⟨ag,H',I,q⟩:=h;exact ⟨ag,H',I.unwish,q⟩
 | cont=>obtain ⟨ag,H',I,q⟩:=h;exact ⟨ag,H',I.unwish,q⟩
 | ret u=>obtain ⟨v,ag,H',I,r,q⟩:=h;exact ⟨v,ag,H',I.unwish,r,q⟩
theorem PE.nox {e:Expr}{t:TE}(h:PE X.nox e t):PE X e t:=fun pins s U H Q I hw =>
 wpAny_mono (h pins s U H Q (I.wish _) hw) (fun _ _ ⟨v,H',I',r,q⟩=>⟨v,H',I'.unwish,r,q⟩) fun _ _ z=>False.elim z
theorem PT.nox {e:Expr}{t:TT}(h:PT X.nox e t):PT X e t:=fun pins s U H Q I hw =>
 wpAny_mono (h pins s U H Q (I.wish _) hw) (fun _ _ ⟨H',I',q⟩=>⟨H',I'.unwish,q⟩) fun _ _ z=>False.elim z
theorem PSs.nox {st:List Stmt}{t:TS}(h:PSs X.nox st t):PSs X st t:=fun pins s U H D I hw =>
 wpAny_mono (h pins s U H D (I.wish _) hw) (fun _ _ q=>q.unwish) fun _ _ z=>False.elim z
end
section
variable {X:Cx}{st:Stmt}{rest:List Stmt}{t u:TS}{e:Expr}{te:TE}{pos:Pos}
def zhY:TS:=fun D U H=>D.nx U H
def zhZ (t u:TS):TS:=fun D U H=>t { D with nx:=u D } U H
theorem zh0:PSs X [] zhY:=fun _ _ U H _ I h=>wpAny_execs_nil ⟨U,H,I,h⟩
theorem zh1 (h1:PS X st t) (h2:PSs X rest u):PSs X (st::rest) (zhZ t u):=by
 intro pins s U H D I h
 refine wpAny_execs_cons (thn (h1 pins s U H { D with nx:=u D } I h) fun f s1 q=>?_)
 cases f with
 | next =>
  obtain ⟨ag,H',I',q⟩:=q
  exact h2 pins s1 ag H' D I' q
 | ret v=>exact q
 | brk=>exact q
 | cont=>exact q
theorem zbQ (h1:PS X st t):PSs X [st] t:=by
 intro pins s U H D I h
 refine wpAny_execs_cons (thn (h1 pins s U H D I h) fun f s1 q=>?_)
 cases f with
 | next=>exact wpAny_execs_nil q
 | ret v=>exact q
 | brk=>exact q
 | cont=>exact q
theorem Inv.quiet {pins:List (Addr×Obj)}{U:St}{H:Hp}{s:Shared}(I:Inv X pins U H s):interactive X.env=false:=by simp [interactive,I.ok.kind]
def zh2 (te:TE):TS:=fun D U H=>te U H fun _ H1=>D.nx U H1
theorem zh3 (he:PE X e te) (hs:swapsWith e none pos.line X.env=pure false:=by rfl):PS X (.Expr e pos) (zh2 te):=by
 intro pins s U H D I h
 exact wpAny_Expr_any (thn (he pins s U H _ I h) fun v s1 ⟨x,H1,I1,r1,q1⟩=>⟨U,H1,I1,q1⟩) I.quiet hs
def zh4 (te:TE):TS:=fun D U H=>te U H D.rt
theorem zh5 (he:PE X e te):PS X (.Return (some e) pos) (zh4 te):=by
 intro pins s U H D I h
 exact wpAny_Return_some (thn (he pins s U H _ I h) fun v s1 ⟨x,H1,I1,r1,q1⟩=>⟨x,U,H1,I1,r1,q1⟩)
def zh6 (c:TT) (t u:TS):TS:=fun D U H=>c U H fun b H1=>if b=true then t D U H1 else u D U H1
theorem zh7 {c:Expr}{a b:List Stmt}{tc:TT}(hc:PT X c tc) (ha:PSs X a t) (hb:PSs X b u):PS X (.If c a b pos) (zh6 tc t u):=by
 intro pins s U H D I h
 refine wpAny_If (thn (hc pins s U H _ I h) fun d s1 ⟨H1,I1,q1⟩=>?_)
 cases d with
 | true=>exact ha pins s1 U H1 D I1 q1
 | false=>exact hb pins s1 U H1 D I1 q1
def zh8:TS:=fun _ _ _=>False
theorem zh9 {sts:List Stmt}:PSs X sts zh8:=fun _ _ _ _ _ _ h=>h.elim
end
abbrev TG:=V->St->Hp->(St->Hp->Prop)->Prop
abbrev TGs:=List V->St->Hp->(St->Hp->Prop)->Prop
def PG (X:Cx) (target:Expr) (t:TG):Prop :=
 ∀(pins:List (Addr×Obj)) (s:Shared) (U:St) (H:Hp) (v:V) (u:Value) (Q:St->Hp->Prop),Inv X pins U H s->RelV v u->t v U H Q ->
  wpAny (model X.prog X.w) X.A (assign target X.env u) (fun _ s'=>∃ag H',Inv X pins ag H' s'/\Q ag H') X.xe s
def PGs (X:Cx) (ts:List Expr) (t:TGs):Prop :=
 ∀(pins:List (Addr×Obj)) (s:Shared) (U:St) (H:Hp) (vs:List V) (us:List Value) (Q:St->Hp->Prop),Inv X pins U H s->Vals vs us->t vs U H Q ->
  wpAny (model X.prog X.w) X.A (assignInOrder ((assignEach ts X.env).map (·.2)) us) (fun _ s'=>∃ag H',Inv X pins ag H' s'/\Q ag H') X.xe s
abbrev TIp:=V->V->Hp->VK->Prop
def PIp (X:Cx) (op:Operator) (t:TIp):Prop :=
 ∀(pins:List (Addr×Obj)) (s:Shared) (U:St) (H:Hp) (x y:V) (v u:Value) (Q:VK),Inv X pins U H s->RelV x v->RelV y u->t x y H Q ->
  wpAny (model X.prog X.w) X.A (inplaceOp op v u) (EP X pins U Q) X.xe s
section
variable {X:Cx}{pos:Pos}
def wf (i:Nat):TG:=fun v U H Q=>Q (U.set i (some v)) H
theorem wS {i:Nat}{x:Str}(hN:X.N.Nodup) (hi:X.N[i]?=some x) (hx:Loc X.env.scope x) (hf:X.fn x=true\/X.env.scope.names.lookup x=some .local:=by first|exact .inl rfl|exact .inr rfl|assumption):PG X (.Name x pos) (wf i):=by
 intro pins s U H v u Q I r h
 exact wpAny_assign_Name (jX I hN hi hx r (fun s' I'=>⟨_,H,I',h⟩) hf)
def zia:TGs:=fun vs U H Q=>vs=[]/\Q U H
def zib (t:TG) (u:TGs):TGs:=fun vs U H Q=>∃v r,vs=v::r/\t v U H fun ag H'=>u r ag H' Q
theorem zic:PGs X [] zia:=by
 intro pins s U H vs us Q I r h
 obtain ⟨e,h⟩:=h
 subst e
 cases r
 exact assignInOrder_nil ⟨U,H,I,h⟩
theorem zdO {e:Expr}{es:List Expr}{t:TG}{u:TGs}(h1:PG X e t) (h2:PGs X es u)
  (hs:(assignEach (e::es) X.env).map (·.2)=assign e X.env::(assignEach es X.env).map (·.2):=by rfl):PGs X (e::es) (zib t u):=by
 intro pins s U H vs us Q I r h
 obtain ⟨v,vr,e1,h⟩:=h
 subst e1
 cases r with
 | cons r rr =>
  rw [hs]
  refine assignInOrder_cons (thn (h1 pins s U H _ _ _ I r h) fun _ s1 ⟨aq,H1,I1,q1⟩=>?_)
  exact h2 pins s1 aq H1 _ _ Q I1 rr q1
def zid (K:PySem.W.Frag) (n:Nat) (t:TGs):TG:=fun v U H Q=>∃a xs,v=.ref a/\SqT K H a xs/\xs.length=n/\t xs U H Q
theorem zie {es:List Expr}{k:Nat}{t:TGs}{n:Nat}(hc:X.calm=true) (h:PGs X es t)
  (hn:(assignEach es X.env).length=n:=by rfl) (hst:(assignEach es X.env).findIdx? (·.1)=none:=by rfl):PG X (.Tuple es k pos) (zid X.K n t):=by
 intro pins s U H v u Q I r hw
 obtain ⟨a,xs,e1,hq,hl,hw⟩:=hw
 subst e1
 cases r
 obtain ⟨its,rv,ht,hz⟩:=I.tuple hq
 refine assign_Tuple_tuple (I.ok.hd hc) ht (by simp [hn,<-hl,rv.length]) hst fun h' hx=>?_
 have I1:Inv X pins U H { s with heap:=h' }:=I.kept (t':=s.toks) fun b o e=>hx b o (Nat.ne_of_lt (Heap.lt_size e)) e
 exact h pins _ U H xs _ Q I1 (by simpa using rv) hw
def zif (te:TE) (g:TG):TS:=fun D U H=>te U H fun x H1=>g x U H1 D.nx
theorem zig {i:Nat}{x:Str}{e:Expr}{te:TE}{pos':Pos}(hN:X.N.Nodup) (hi:X.N[i]?=some x) (hx:Loc X.env.scope x) (he:PE X e te) (hs:swapsWith e (some (.Name x pos')) pos.line X.env=pure false:=by rfl) (hf:X.fn x=true\/X.env.scope.names.lookup x=some .local:=by first|exact .inl rfl|exact .inr rfl|assumption) :
  PS X (.Assign [.Name x pos'] e pos) (zif te (wf i)):=by
 intro pins s U H D I h
 refine wpAny_Assign_Name (thn (he pins s U H _ I h) fun v s1 ⟨y,H1,I1,r1,q1⟩=>?_) hs
 exact jX I1 hN hi hx r1 (fun s2 I2=>⟨_,H1,I2,q1⟩) hf
def zih (i:Nat) (te:TE) (ti:TIp):TS:=fun D U H=>∃x,U[i]?=some (some x)/\te U H fun y H1=>ti x y H1 fun z H2=>D.nx (U.set i (some z)) H2
theorem zii {i:Nat}{x:Str}{e:Expr}{te:TE}{op:Operator}{ti:TIp}{pos':Pos}(hN:X.N.Nodup) (hi:X.N[i]?=some x) (hx:Loc X.env.scope x) (he:PE X e te) (ho:PIp X op ti) (hf:X.fn x=true\/X.env.scope.names.lookup x=some .local:=by first|exact .inl rfl|exact .inr rfl|assumption) :
  PS X (.AugAssign (.Name x pos') op e pos) (zih i te ti):=by
 intro pins s U H D I h
 obtain ⟨v,e1,h⟩:=h
 obtain ⟨m,hn,hl⟩:=I.loc
 have vis:Vis X.env.scope x:=by rcases hx with k|k;exact .inl k;exact .inr (.inl k)
 obtain ⟨u,r,l⟩:=hl i x v hi e1 vis
 refine wpAny_AugAssign_Name ?_
 have go:wpAny (model X.prog X.w) X.A (eval e X.env) (fun w ae=>wpAny (model X.prog X.w) X.A (inplaceOp op u w) (fun r aK=>wpAny (model X.prog X.w) X.A (storeName X.env x r) (fun _=>SP X pins D .next) X.xe aK) X.xe ae) X.xe s:=by
  refine thn (he pins s U H _ I h) fun w s1 ⟨y,H1,I1,r1,q1⟩=>?_
  refine thn (ho pins s1 U H1 v y u w _ I1 r r1 q1) fun z s2 ⟨zv,H2,I2,r2,q2⟩=>?_
  exact jX I2 hN hi hx r2 (fun s3 I3=>⟨_,H2,I3,q2⟩) hf
 rcases l with ⟨hk,hm⟩|⟨hk,c,hc,hcell⟩
 ·exact wpAny_loadName_local I.ok.kind hk hn hm go
 ·rcases hk with hk|hk
  ·exact wpAny_loadName_cell I.ok.kind hk hc hcell go
  ·rcases hx with k|k
   ·have:X.env.scope.names.lookup x=some .free:=hk
    rw [k] at this;cases this
   ·have:X.env.scope.names.lookup x=some .free:=hk
    rw [k] at this;cases this
def ipI (f:Int->Int->Int):TIp:=fun x y H Q=>∃i j,x=.int i/\y=.int j/\Q (.int (f i j)) H
theorem zij:PIp X .Add (ipI fun i j=>i+j):=by
 intro pins s U H x y v u Q I r1 r2 h
 obtain ⟨i,j,e1,e2,q⟩:=h
 subst e1;subst e2
 obtain ⟨t,rfl⟩:=r1
 obtain ⟨t',rfl⟩:=r2
 exact iadd_int ⟨.int _,H,I.tok _,⟨_,rfl⟩,q⟩
def zik (c:TT) (tb:TS):TS:=fun D U H=>∃W:Nat->St->Hp->Prop,(∃m,W m U H)/\∀m U H,W m U H ->
 c U H fun b H1=>if b=true then ∃N:St->Hp->Prop,(∀ag H',N ag H'->∃m',m'<m/\W m' ag H')/\tb { D with nx:=N,ct:=N,bk:=D.nx } U H1 else D.nx U H1
theorem zil {c:Expr}{body:List Stmt}{tc:TT}{tb:TS}(hp:PassesOwn (model X.prog X.w) X.A X.env X.xe) (hc:PT X c tc) (hb:PSs X body tb):PS X (.While c body [] pos) (zik tc tb):=by
 intro pins s U H D I h
 obtain ⟨W,⟨m0,w0⟩,turn⟩:=h
 refine wpAny_While (codeAny_whileLoop (fun n s'=>∃ag H',Inv X pins ag H' s'/\W n ag H') ?_ m0 ⟨U,H,I,w0⟩)
 rintro n s1 ⟨aq,H1,I1,w1⟩
 refine wpAny_passesOwn hp (thn (hc pins s1 aq H1 _ I1 (turn n aq H1 w1)) fun b s2 ⟨H2,I2,q2⟩=>?_)
 cases b with
 | true =>
  obtain ⟨N,hN,q2⟩:=q2
  rw [if_pos rfl]
  refine wpAny_passesOwn hp (thn (hb pins s2 aq H2 _ I2 q2) fun f s3 q3=>?_)
  cases f with
  | next =>
   obtain ⟨au,H3,I3,n3⟩:=q3
   obtain ⟨m',hm,w3⟩:=hN au H3 n3
   exact ⟨m',hm,au,H3,I3,w3⟩
  | cont =>
   obtain ⟨au,H3,I3,n3⟩:=q3
   obtain ⟨m',hm,w3⟩:=hN au H3 n3
   exact ⟨m',hm,au,H3,I3,w3⟩
  | brk=>exact q3
  | ret v=>exact q3
 | false =>
  rw [if_neg Bool.false_ne_true]
  exact wpAny_execs_nil ⟨aq,H2,I2,q2⟩
end
structure It where
 go:Nat->Hp->Prop
 yld:Nat->Hp->V->Hp->Prop
 stop:Nat->Hp->Prop
def FpOk (X:Cx) (pins:List (Addr×Obj)) (H:Hp) (b:Addr):Prop :=
 H b=none/\b≠X.env.locals/\b∉X.fs/\(b∈X.ex\/X.s₀.heap.objs.size<=b)/\(∀x c,X.env.cells.lookup x=some c->c≠b)/\∀p∈X.pn++pins,p.1≠b
theorem Inv.fpOk {X:Cx}{pins:List (Addr×Obj)}{U:St}{H H':Hp}{s:Shared}{b:Addr}(I:Inv X pins U H s) (hb:s.heap.objs.size<=b) (hn:H' b=none):FpOk X pins H' b:=by
 refine ⟨hn,Nat.ne_of_gt (Nat.lt_of_lt_of_le I.lt hb),I.nofs hb,.inr (Nat.le_trans I.sz hb),fun x c e z=>?_,fun p hp z=>?_⟩
 ·obtain ⟨v,q⟩:=I.cell x c e
  exact absurd (Nat.lt_of_lt_of_le q.lt (by rw [z];exact hb)) (Nat.lt_irrefl _)
 ·exact absurd (Nat.lt_of_lt_of_le (Heap.lt_size (I.pin p hp).1) (by rw [z];exact hb)) (Nat.lt_irrefl _)
structure Turn (P:Program) (w:World) (K:PySem.W.Frag) (tg:Expr) (J:It) (fp:List Addr) (it:Addr) (tn:Nat->Heap->Prop):Prop where
 mem:it∈fp
 obj:∀i h,tn i h->∀b∈fp,∃o,h.get? b=some o/\∀v,o.data ≠ .cell v
 keep:∀i h h',tn i h->(∀b∈fp,∀o,h.get? b=some o->h'.get? b=some o)->tn i h'
 item:∀(X:Cx),X.prog=P->X.w=w->X.K=K->X.calm=true->∀(i:Nat) (pins:List (Addr×Obj)) (s:Shared) (U:St) (H:Hp) (E:Value->Shared->Prop),Inv X pins U H s->(∀b∈fp,FpOk X pins H b)->tn i s.heap->J.go i H ->
  wpAny (model P w) X.A (pyNext (.ref it)) (fun r s1=>∃u,r=some u /\
   wpAny (model P w) X.A (letOwnedTupleGo tg (.ref it) u) (fun _ s2=>∃x H',Inv X pins U H' s2/\RelV x u/\J.yld i H x H'/\tn (i+1) s2.heap/\∀b∈fp,H' b=none) E s1) E s
 done:∀(X:Cx),X.prog=P->X.w=w->X.K=K->X.calm=true->∀(i:Nat) (pins:List (Addr×Obj)) (s:Shared) (U:St) (H:Hp) (E:Value->Shared->Prop),Inv X pins U H s->(∀b∈fp,FpOk X pins H b)->tn i s.heap->J.stop i H ->
  wpAny (model P w) X.A (pyNext (.ref it)) (fun r s1=>r=none/\Inv X pins U H s1) E s
 self:∀(A:Around) (i:Nat) (s:Shared) (Q:Value->Shared->Prop) (E:Value->Shared->Prop),tn i s.heap->Q (.ref it) s->wpAny (model P w) A (pyIter (.ref it)) Q E s
abbrev TI:=St->Hp->(It->Hp->Prop)->Prop
def PIE (X:Cx) (pins:List (Addr×Obj)) (U:St) (tg:Expr) (R:It->Hp->Prop) (itv:Value) (s2:Shared):Prop :=
 ∃(it:Addr) (fp:List Addr) (tn:Nat->Heap->Prop) (J:It) (H':Hp),itv=.ref it/\Inv X pins U H' s2/\Turn X.prog X.w X.K tg J fp it tn/\tn 0 s2.heap/\(∀b∈fp,FpOk X pins H' b)/\R J H'
def PI (X:Cx) (tg iter:Expr) (wi:TI):Prop :=
 ∀(pins:List (Addr×Obj)) (s:Shared) (U:St) (H:Hp) (R:It->Hp->Prop),Inv X pins U H s->wi U H R ->
  wpAny (model X.prog X.w) X.A (eval iter X.env) (fun v s1=>wpAny (model X.prog X.w) X.A (pyIter v) (PIE X pins U tg R) X.xe s1) X.xe s
theorem wT {M:Model}{A:Around}{E:Value->Shared->Prop}{s:Shared}{tg:Expr}{it:Addr}{u:Value}{o:Obj}{n:String}{vs:Array Value}{Q:Unit->Shared->Prop}(ho:s.heap.get? it=some o) (hc:o.cls=.type n) (hd:o.data=.fields vs)
  (hn:["enumerate", "zip", "dict_itemiterator", "dict_reverseitemiterator", "odict_iterator", "itertools.zip_longest", "itertools.pairwise"].contains n=false) (hQ:Q () s):wpAny M A (letOwnedTupleGo tg (.ref it) u) Q E s:=by
 unfold letOwnedTupleGo
 cases tg<;>first
  | exact wpAny_pure hQ
  | (cases u<;>first
    | exact wpAny_pure hQ
    | (refine wpAny_bind (wpAny_load ho ?_)
       rw [hc,hd]
       show wpAny M A (if (["enumerate", "zip", "dict_itemiterator", "dict_reverseitemiterator", "odict_iterator", "itertools.zip_longest", "itertools.pairwise"].contains n&&vs[0]?==some (rawInt _))=true then _ else _) Q E s
       rw [if_neg (by intro h;rw [hn,Bool.false_and] at h;cases h)]
       exact wpAny_pure hQ))
def Itl (K:PySem.W.Frag) (a:Addr):It :=
 ⟨fun i H=>∃xs x,SqL K H a xs/\xs[i]?=some x,fun i H x H'=>H'=H/\∀xs,SqL K H a xs->xs[i]?=some x,fun i H=>∃xs,SqL K H a xs/\xs.length<=i⟩
def Itt (K:PySem.W.Frag) (a:Addr):It :=
 ⟨fun i H=>∃xs x,SqT K H a xs/\xs[i]?=some x,fun i H x H'=>H'=H/\∀xs,SqT K H a xs->xs[i]?=some x,fun i H=>∃xs,SqT K H a xs/\xs.length<=i⟩
def Itr (lo:Int) (n:Nat):It:=⟨fun i _=>i<n,fun i H x H'=>H'=H/\x=.int (lo+i),fun i _=>n<=i⟩
theorem zim {P:Program}{w:World}{K:PySem.W.Frag}{tg:Expr}(a it:Addr):Turn P w K tg (Itl K a) [it] it (fun i h=>h.IsListIter it a i) where
 mem:=by simp
 obj:=fun i h st b hb=>by
  have e:b=it:=by simpa using hb
  subst e
  obtain ⟨o,e,c,d⟩:=st
  exact ⟨o,e,fun v z=>by rw [d] at z;cases z⟩
 keep:=fun i h h' st k=>st.at fun o e=>k it (by simp) o e
 item:=by
  intro X hP hw hK hc i pins s U H E I hf st hg
  subst hP hw hK
  obtain ⟨xs,x,hq,hx⟩:=hg
  obtain ⟨its,rv,p,hz⟩:=I.list hq
  obtain ⟨u,hu,ru⟩:=rv.get hx
  obtain ⟨f0,f1,f2,f3,f4,f5⟩:=hf it (by simp)
  refine wpAny_pyNext_list_item st p.isList (x:=u) (by simpa using hu) fun h' st' sb=>?_
  have I1:Inv X pins U H { s with heap:=h' }:=I.turned (t':=s.toks) (fun b o hb e=>(sb.2 b hb).trans e) f0 f1 f3 f4 f5
  obtain ⟨o,e,c,d⟩:=id st'
  exact ⟨u,rfl,wT (s:={ s with heap:=h' }) e c d (by decide) ⟨x,H,I1,ru,⟨rfl,fun ys hy=>by rw [I.list_inj hy hq];exact hx⟩,st',fun b hb=>(hf b hb).1⟩⟩
 done:=by
  intro X hP hw hK hc i pins s U H E I hf st hg
  subst hP hw hK
  obtain ⟨xs,hq,hx⟩:=hg
  obtain ⟨its,rv,p,hz⟩:=I.list hq
  obtain ⟨f0,f1,f2,f3,f4,f5⟩:=hf it (by simp)
  have hl:=rv.length
  exact wpAny_pyNext_list_end (I.ok.hd hc) st p.isList (by simp;omega) fun h' eb=>⟨rfl,I.turned (t':=s.toks) (fun b o hb e=>eb b o hb e) f0 f1 f3 f4 f5⟩
 self:=fun _ _ _ _ _ st h=>wpAny_pyIter_listiter st h
theorem zin {P:Program}{w:World}{K:PySem.W.Frag}{tg:Expr}(a it:Addr):Turn P w K tg (Itt K a) [it] it (fun i h=>h.IsTupleIter it a i) where
 mem:=by simp
 obj:=fun i h st b hb=>by
  have e:b=it:=by simpa using hb
  subst e
  obtain ⟨o,e,c,d⟩:=st
  exact ⟨o,e,fun v z=>by rw [d] at z;cases z⟩
 keep:=fun i h h' st k=>st.at fun o e=>k it (by simp) o e
 item:=by
  intro X hP hw hK hc i pins s U H E I hf st hg
  subst hP hw hK
  obtain ⟨xs,x,hq,hx⟩:=hg
  obtain ⟨its,rv,p,hz⟩:=I.tuple hq
  obtain ⟨u,hu,ru⟩:=rv.get hx
  obtain ⟨f0,f1,f2,f3,f4,f5⟩:=hf it (by simp)
  refine wpAny_pyNext_tuple_item st (show s.heap.IsTuple a its.toArray from p) (x:=u) (by simpa using hu) fun h' st' sb=>?_
  have I1:Inv X pins U H { s with heap:=h' }:=I.turned (t':=s.toks) (fun b o hb e=>(sb.2 b hb).trans e) f0 f1 f3 f4 f5
  obtain ⟨o,e,c,d⟩:=id st'
  exact ⟨u,rfl,wT (s:={ s with heap:=h' }) e c d (by decide) ⟨x,H,I1,ru,⟨rfl,fun ys hy=>by rw [I.tuple_inj hy hq];exact hx⟩,st',fun b hb=>(hf b hb).1⟩⟩
 done:=by
  intro X hP hw hK hc i pins s U H E I hf st hg
  subst hP hw hK
  obtain ⟨xs,hq,hx⟩:=hg
  obtain ⟨its,rv,p,hz⟩:=I.tuple hq
  obtain ⟨f0,f1,f2,f3,f4,f5⟩:=hf it (by simp)
  have hl:=rv.length
  exact wpAny_pyNext_tuple_end (I.ok.hd hc) st (show s.heap.IsTuple a its.toArray from p) (by simp;omega) fun h' eb=>⟨rfl,I.turned (t':=s.toks) (fun b o hb e=>eb b o hb e) f0 f1 f3 f4 f5⟩
 self:=fun _ _ _ _ _ st h=>wpAny_pyIter_tupleiter st h
theorem zio {P:Program}{w:World}{K:PySem.W.Frag}{tg:Expr}(it:Addr) (lo:Int) (n:Nat):Turn P w K tg (Itr lo n) [it] it (fun i h=>IsRangeIter h it (lo+(i:Nat)*1) ((n:Int)-(i:Nat)) 1) where
 mem:=by simp
 obj:=fun i h st b hb=>by
  have e:b=it:=by simpa using hb
  subst e
  exact ⟨_,st,fun v z=>by
   have z':Data.fields _=Data.cell v:=z
   cases z'⟩
 keep:=fun i h h' st k=>k it (by simp) _ st
 item:=by
  intro X hP hw hK hc i pins s U H E I hf st hg
  subst hP hw hK
  obtain ⟨f0,f1,f2,f3,f4,f5⟩:=hf it (by simp)
  have W:=Walks.range (prog:=X.prog) (w:=X.w) (I.ok.hd hc) it lo 1 n
  refine W.item i s _ _ hg st fun v h' tk hv st' kk=>?_
  obtain ⟨t,rfl⟩:=hv
  have I1:Inv X pins U H { s with heap:=h',toks:=tk }:=I.turned (fun b o hb e=>kk b o (by simpa using hb) e) f0 f1 f3 f4 f5
  refine ⟨_,rfl,wT (s:={ s with heap:=h',toks:=tk }) (n := "range_iterator") st' rfl rfl (by decide) ⟨.int (lo+i),H,I1,⟨t,?_⟩,⟨rfl,rfl⟩,st',fun b hb=>(hf b hb).1⟩⟩
  rw [Int.mul_one]
 done:=by
  intro X hP hw hK hc i pins s U H E I hf st hg
  subst hP hw hK
  obtain ⟨f0,f1,f2,f3,f4,f5⟩:=hf it (by simp)
  exact wpAny_pyNext_range_end (I.ok.hd hc) st (by have:n<=i:=hg;omega) fun h' eb=>⟨rfl,I.turned (t':=s.toks) (fun b o hb e=>eb b o hb e) f0 f1 f3 f4 f5⟩
 self:=fun _ _ _ _ _ st h=>wpAny_pyIter_rangeiter st h
section
variable {X:Cx}{tg:Expr}
theorem ziq {pins:List (Addr×Obj)}{U:St}{H:Hp}{s:Shared}{R:It->Hp->Prop}{E:Value->Shared->Prop}{lo hi:Int}{t u v:Tok}{tk:Nat}(I:Inv X pins U H s) (h1 : -(2 ^ 62)<=lo) (h2:lo<2 ^ 62) (h3 : -(2 ^ 62)<=hi) (h4:hi<2 ^ 62)
  (q:R (Itr lo (hi-lo).toNat) H):wpAny (model X.prog X.w) X.A (pyIter (.ref s.heap.objs.size)) (PIE X pins U tg R) E { s with heap:=s.heap.push { cls:=.type "range", data:=.fields #[.int lo t,.int hi u,.int 1 v] },toks:=tk }:=by
 refine wpAny_pyIter_range (IsRange.new ..) (small_one h1 h2 h3 h4) ?_
 have I1:Inv X pins U H { s with heap:=s.heap.push { cls:=.type "range", data:=.fields #[.int lo t,.int hi u,.int 1 v] },toks:=tk }:=I.kept fun b o e=>Heap.get?_push_of_some _ e
 refine ⟨(s.heap.push { cls:=.type "range", data:=.fields #[.int lo t,.int hi u,.int 1 v] }).objs.size,[(s.heap.push { cls:=.type "range", data:=.fields #[.int lo t,.int hi u,.int 1 v] }).objs.size],_,_,H,rfl,
  I1.kept (t':=tk) fun b o e=>Heap.get?_push_of_some _ e,zio _ lo (hi-lo).toNat,?_,fun b hb=>?_,q⟩
 ·have e1:lo+((0:Nat):Int)*1=lo:=by simp
  have e2:(((hi-lo).toNat:Nat):Int)-((0:Nat):Int)=Builtin.Range.rangeSize lo hi 1:=by rw [rangeSize_one];split<;>omega
  show IsRangeIter _ _ (lo+((0:Nat):Int)*1) ((((hi-lo).toNat:Nat):Int)-((0:Nat):Int)) 1
  rw [e1,e2]
  exact Heap.get?_push_size _ rfl
 ·have e:b=(s.heap.push { cls:=.type "range", data:=.fields #[.int lo t,.int hi u,.int 1 v] }).objs.size:=by simpa using hb
  subst e
  exact I1.fpOk (Nat.le_refl _) (I1.hok.fresh (Nat.le_refl _))
def iRng1 (ta:TA):TI:=fun U H R=>ta U H fun vs H1=>∃j:Int,vs=[.int j] /\ -(2 ^ 62)<=j/\j<2 ^ 62/\R (Itr 0 j.toNat) H1
def iRng2 (ta:TA):TI:=fun U H R=>ta U H fun vs H1=>∃i j:Int,vs=[.int i,.int j]/\(-(2 ^ 62)<=i/\i<2 ^ 62 /\ -(2 ^ 62)<=j/\j<2 ^ 62)/\R (Itr i (j-i).toNat) H1
theorem zir {a:Expr} {ta:TA} {p pos:Pos} (hg:Gl X "range") (hm:X.mg "range" = none) (ha:PA X [a] ta) (hs:starEach [a] X.env=[(false,eval a X.env)]:=by rfl):PI X tg (.Call (.Name "range" p) [a] [] pos) (iRng1 ta):=by
 intro pins s U H R I h
 refine Call_ (we I hg hm boot_range (PyProof.Rows.callWith_type1 (thn (ha pos pins s U H _ I h) fun us s1 ⟨vs,H1,I1,r1,q1⟩=>?_) hs rfl))
 obtain ⟨j,e,q1,q2,q⟩:=q1
 subst e
 cases r1 with
 | cons r rr =>
  cases rr
  obtain ⟨t,rfl⟩:=r
  exact call_range_1 (ziq I1 (by omega) (by omega) q1 q2 (by simpa using q))
def zis (wi:TI) (g:TG) (tb:TS):TS:=fun D U H=>wi U H fun J H1=>∃W:Nat->Nat->St->Hp->Prop,(∃m,W 0 m U H1)/\∀i m U H,W i m U H ->
 (J.stop i H/\D.nx U H)\/(J.go i H/\∃N:St->Hp->Prop,(∀ag H',N ag H'->∃m',m'<m/\W (i+1) m' ag H')/\∀x H',J.yld i H x H'->g x U H' fun aF H2=>tb { D with nx:=N,ct:=N,bk:=D.nx } aF H2)
def pinsAt (fp:List Addr) (h:Heap):List (Addr×Obj):=fp.filterMap fun b=>(h.get? b).map fun o=>(b,o)
theorem wU {fp:List Addr}{h:Heap}{b:Addr}{o:Obj}(hb:b∈fp) (e:h.get? b=some o):(b,o)∈pinsAt fp h:=List.mem_filterMap.mpr ⟨b,hb,by rw [e];rfl⟩
theorem zit {fp:List Addr}{h:Heap}{p:Addr×Obj}(hp:p∈pinsAt fp h):p.1∈fp/\h.get? p.1=some p.2:=by
 obtain ⟨b,hb,e⟩:=List.mem_filterMap.mp hp
 cases q:h.get? b with
 | none=>rw [q] at e;cases e
 | some o =>
  rw [q] at e
  have e':(b,o)=p:=Option.some.inj e
  subst e'
  exact ⟨hb,q⟩
theorem Inv.pinned {pins:List (Addr×Obj)}{U:St}{H:Hp}{s:Shared}{fp:List Addr}(I:Inv X pins U H s) (hf:∀b∈fp,FpOk X pins H b) (ho:∀b∈fp,∃o,s.heap.get? b=some o/\∀v,o.data ≠ .cell v):Inv X (pins++pinsAt fp s.heap) U H s :=
 I.pins_of fun p hp=>(List.mem_append.mp hp).elim (fun z=>I.pin p (List.mem_append_right _ z)) fun z=>by
  obtain ⟨hb,e⟩:=zit z
  obtain ⟨f0,f1,f2,_⟩:=hf p.1 hb
  obtain ⟨o,e',d⟩:=ho p.1 hb
  rw [e] at e';cases e'
  exact ⟨e,f0,f1,f2,d⟩
theorem Inv.unpinned {pins pl:List (Addr×Obj)}{U:St}{H:Hp}{s:Shared}(I:Inv X (pins++pl) U H s):Inv X pins U H s:=I.pins_of fun p hp=>I.pin p (List.mem_append_right _ (List.mem_append_left _ hp))
theorem ziu {iter:Expr}{body:List Stmt}{wi:TI}{g:TG}{tb:TS}{pos:Pos}(hp:PassesOwn (model X.prog X.w) X.A X.env X.xe) (hc:X.calm=true) (hi:PI X tg iter wi) (hg:PG X tg g) (hb:PSs X body tb)
  (hs:∀x,foldedSetIterable iter X.env x=pure x:=by intro _;rfl):PS X (.For tg iter body [] pos) (zis wi g tb):=by
 intro pins s U H D I h
 refine wpAny_For (thn (hi pins s U H _ I h) fun v s1 h1=>thn h1 fun itv s2 h2=>?_) hs
 obtain ⟨it,fp,tn,J,H2,e,I2,T,st2,f2,W,⟨m0,w0⟩,turn⟩:=h2
 subst e
 have stat:∀{H':Hp},(∀b∈fp,H' b=none)->∀b∈fp,FpOk X pins H' b:=fun hn b hb=>⟨hn b hb,(f2 b hb).2⟩
 refine codeAny_forLoop_any (fun n s'=>∃i ag H',Inv X pins ag H' s'/\tn i s'.heap/\(∀b∈fp,H' b=none)/\W i n ag H') ?_ m0 ⟨0,U,H2,I2,st2,fun b hb=>(f2 b hb).1,w0⟩
 rintro n s3 ⟨i,au,H3,I3,st3,fr3,w3⟩
 rcases turn i n au H3 w3 with ⟨stop,qn⟩|⟨go,N,hN,step⟩
 ·refine wpAny_passesOwn hp (thn (T.done X rfl rfl rfl hc i pins s3 au H3 X.xe I3 (stat fr3) st3 stop) fun r s4 ⟨hr,I4⟩=>?_)
  subst hr
  exact wpAny_execs_nil ⟨au,H3,I4,qn⟩
 ·refine wpAny_passesOwn hp (thn (T.item X rfl rfl rfl hc i pins s3 au H3 X.xe I3 (stat fr3) st3 go) fun r s4 ⟨u,hr,h4⟩=>?_)
  subst hr
  refine wpAny_passesOwn hp (thn h4 fun _ s5 ⟨x,H5,I5,r5,y5,st5,fr5⟩=>?_)
  have I5':=I5.pinned (stat fr5) (T.obj _ _ st5)
  refine wpAny_passesOwn hp (thn (hg _ s5 au H5 x u _ I5' r5 (step x H5 y5)) fun _ s6 ⟨aG,H6,I6,q6⟩=>?_)
  refine wpAny_passesOwn hp (thn (hb _ s6 aG H6 _ I6 q6) fun f s7 q7=>?_)
  have again:∀{ar:St} {H7:Hp},Inv X (pins++pinsAt fp s5.heap) ar H7 s7->N ar H7->∃m,m<n/\∃i ag H',Inv X pins ag H' s7/\tn i s7.heap/\(∀b∈fp,H' b=none)/\W i m ag H':=fun {ar H7} I7 n7=>by
   obtain ⟨m',hm,w7⟩:=hN ar H7 n7
   refine ⟨m',hm,i+1,ar,H7,I7.unpinned,T.keep _ _ _ st5 fun b hb o e=>(I7.pin (b,o) (List.mem_append_right _ (List.mem_append_right _ (wU hb e)))).1,fun b hb=>?_,w7⟩
   obtain ⟨o,e,d⟩:=T.obj _ _ st5 b hb
   exact (I7.pin (b,o) (List.mem_append_right _ (List.mem_append_right _ (wU hb e)))).2.1
  cases f with
  | next=>obtain ⟨ar,H7,I7,n7⟩:=q7;exact again I7 n7
  | cont=>obtain ⟨ar,H7,I7,n7⟩:=q7;exact again I7 n7
  | brk=>obtain ⟨ar,H7,I7,q7⟩:=q7;exact ⟨ar,H7,I7.unpinned,q7⟩
  | ret v=>obtain ⟨x7,ar,H7,I7,r7,q7⟩:=q7;exact ⟨x7,ar,H7,I7.unpinned,r7,q7⟩
end
abbrev R2:=V->V->Hp->VK->Prop
def OpR (X:Cx) (f:Value->Value->Sem Value) (r:R2):Prop :=
 ∀(pins:List (Addr×Obj)) (s:Shared) (U:St) (H:Hp) (x y:V) (v u:Value) (Q:VK),Inv X pins U H s->RelV x v->RelV y u->r x y H Q ->
  wpAny (model X.prog X.w) X.A (f v u) (EP X pins U Q) X.xe s
def CallR (X:Cx) (f:Value) (r:List V->Hp->VK->Prop):Prop :=
 ∀(pins:List (Addr×Obj)) (s:Shared) (U:St) (H:Hp) (xs:List V) (us:List Value) (Q:VK),Inv X pins U H s->Vals xs us->r xs H Q ->
  wpAny (model X.prog X.w) X.A (call f us) (EP X pins U Q) X.xe s
def wV (r:R2) (ta tb:TE):TE:=fun U H Q=>ta U H fun x H1=>tb U H1 fun y H2=>r x y H2 Q
def rI (C:Int->Int->Prop) (g:Int->Int->V):R2:=fun x y H Q=>∃i j,x=.int i/\y=.int j/\C i j/\Q (g i j) H
def jw (g:Int->Int->V):R2:=fun x y H Q=>∃i j,x=.int i/\y=.int j/\Q (g i j) H
section
variable {X:Cx}{a b c:Expr}{ta tb tc:TE}{pos:Pos}
theorem binT (ha:PE X a ta) (hb:PE X b tb) {pins:List (Addr×Obj)}{s:Shared}{U:St}{H:Hp}{R:V->V->Hp->Prop}(I:Inv X pins U H s)
  (h:ta U H fun x H1=>tb U H1 fun y H2=>R x y H2) {Q:Value->Shared->Prop} {f:Value->Value->Sem Value}
  (hf:∀v u s2 x y H2,Inv X pins U H2 s2->RelV x v->RelV y u->R x y H2->wpAny (model X.prog X.w) X.A (f v u) Q X.xe s2) :
  wpAny (model X.prog X.w) X.A (eval a X.env) (fun v ah=>wpAny (model X.prog X.w) X.A (eval b X.env) (fun u ae=>wpAny (model X.prog X.w) X.A (f v u) Q X.xe ae) X.xe ah) X.xe s:=by
 refine thn (ha pins s U H _ I h) fun v s1 ⟨x,H1,I1,r1,q1⟩=>?_
 refine thn (hb pins s1 U H1 _ I1 q1) fun u s2 ⟨y,H2,I2,r2,q2⟩=>?_
 exact hf v u s2 x y H2 I2 r1 r2 q2
theorem ziv {op:Operator}{r:R2}(ho:OpR X (binaryOp op) r) (ha:PE X a ta) (hb:PE X b tb):PE X (.BinOp a op b pos) (wV r ta tb):=by
 intro pins s U H Q I h
 exact wpAny_BinOp (binT ha hb I h fun v u s2 x y H2 I2 rx ry q=>ho pins s2 U H2 x y v u Q I2 rx ry q)
theorem opI {f:Value->Value->Sem Value}{C:Int->Int->Prop}{g:Int->Int->Int}
  (rule:∀(i j:Int) (t u:Tok) (s:Shared) (Q:Value->Shared->Prop) (E:Value->Shared->Prop),C i j->Q (.int (g i j) s.toks) { s with toks:=s.toks+1 }->wpAny (model X.prog X.w) X.A (f (.int i t) (.int j u)) Q E s) :
  OpR X f (rI C fun i j=>.int (g i j)):=by
 intro pins s U H x y v u Q I rx ry h
 obtain ⟨i,j,rfl,rfl,hc,q⟩:=h
 obtain ⟨t,rfl⟩:=rx
 obtain ⟨t',rfl⟩:=ry
 exact rule i j t t' s _ _ hc ⟨.int (g i j),H,I.tok _,⟨_,rfl⟩,q⟩
theorem zdP {f:Value->Value->Sem Value}{g:Int->Int->Int}
  (rule:∀(i j:Int) (t u:Tok) (s:Shared) (Q:Value->Shared->Prop) (E:Value->Shared->Prop),Q (.int (g i j) s.toks) { s with toks:=s.toks+1 }->wpAny (model X.prog X.w) X.A (f (.int i t) (.int j u)) Q E s) :
  OpR X f (jw fun i j=>.int (g i j)):=by
 intro pins s U H x y v u Q I rx ry h
 obtain ⟨i,j,rfl,rfl,q⟩:=h
 obtain ⟨t,rfl⟩:=rx
 obtain ⟨t',rfl⟩:=ry
 exact rule i j t t' s _ _ ⟨.int (g i j),H,I.tok _,⟨_,rfl⟩,q⟩
theorem zbR {f:Value->Value->Sem Value}{g:Int->Int->Bool}
  (rule:∀(i j:Int) (t u:Tok) (s:Shared) (Q:Value->Shared->Prop) (E:Value->Shared->Prop),Q (.bool (g i j)) s->wpAny (model X.prog X.w) X.A (f (.int i t) (.int j u)) Q E s) :
  OpR X f (jw fun i j=>.bl (g i j)):=by
 intro pins s U H x y v u Q I rx ry h
 obtain ⟨i,j,rfl,rfl,q⟩:=h
 obtain ⟨t,rfl⟩:=rx
 obtain ⟨t',rfl⟩:=ry
 exact rule i j t t' s _ _ ⟨.bl (g i j),H,I,rfl,q⟩
def CPow (i j:Int):Prop:=0<=j/\j<=1000000/\i.natAbs<2 ^ 64
def CMul (i j:Int):Prop:=(-(2 ^ 64)<i/\i<2 ^ 64)\/(-(2 ^ 64)<j/\j<2 ^ 64)
theorem CMul.ok {i j:Int}(h:CMul i j):IntMulOk i j:=by
 rcases h with ⟨h1,h2⟩|⟨h1,h2⟩
 ·exact .of_left (intBits_le_64 h1 h2)
 ·exact .of_right (intBits_le_64 h1 h2)
theorem ziw:OpR X (binaryOp .Add) (jw fun i j=>.int (i+j)):=zdP fun _ _ _ _ _ _ _ q=>add_int q
theorem zix:OpR X (binaryOp .Sub) (jw fun i j=>.int (i-j)):=zdP fun _ _ _ _ _ _ _ q=>sub_int q
theorem ziy:OpR X (binaryOp .Mult) (rI CMul fun i j=>.int (i*j)):=opI fun _ _ _ _ _ _ _ hc q=>mul_int q hc.ok
theorem ziz:OpR X (binaryOp .Mod) (rI (fun _ j=>j≠0) fun i j=>.int (i.fmod j)):=opI fun _ _ _ _ _ _ _ hc q=>mod_int' hc q
theorem ziA:OpR X (binaryOp .Pow) (rI CPow fun i j=>.int (i ^ j.toNat)):=opI fun _ _ _ _ _ _ _ hc q=>pow_int_small hc.1 hc.2.1 hc.2.2 q
theorem zbS {pins:List (Addr×Obj)}{U:St}{H:Hp}{s:Shared}{Q:VK}{k k':Bool}(I:Inv X pins U H s) (q:Q (.bl k) H) (e:k=k'):EP X pins U Q (.bool k') s:=by
 subst e
 exact ⟨.bl k,H,I,rfl,q⟩
theorem ziB:OpR X (compareOp .Lt) (jw fun i j=>.bl (decide (i<j))):=zbR fun _ _ _ _ _ _ _ q=>lt_int q
theorem ziC:OpR X (compareOp .LtE) (jw fun i j=>.bl (decide (i<=j))):=zbR fun _ _ _ _ _ _ _ q=>le_int q
theorem ziD:OpR X (compareOp .Gt) (jw fun i j=>.bl (decide (j<i))):=zbR fun _ _ _ _ _ _ _ q=>gt_int q
theorem ziE:OpR X (compareOp .In) (fun x y H Q=>∃i j,x=.str i/\y=.str j/\Q (.bl (!(Builtin.Str.occurrences j i 0 j.length 1).isEmpty)) H):=by
 intro pins s U H x y v u Q I rx ry h
 obtain ⟨i,j,rfl,rfl,q⟩:=h
 obtain ⟨t,rfl⟩:=rx
 obtain ⟨t',rfl⟩:=ry
 exact in_str (zbS I q rfl)
theorem ziF:OpR X (compareOp .Is) (fun x y H Q=>y=.non/\Q (.bl (decide (x=.non))) H):=by
 intro pins s U H x y v u Q I rx ry h
 obtain ⟨rfl,q⟩:=h
 cases ry
 refine is_none_gen (zbS I q ?_)
 cases x<;>first
  | (cases rx;rfl)
  | (obtain ⟨t,rfl⟩:=rx;rfl)
theorem ziG:OpR X (compareOp .IsNot) (fun x y H Q=>y=.non/\Q (.bl (!decide (x=.non))) H):=by
 intro pins s U H x y v u Q I rx ry h
 obtain ⟨rfl,q⟩:=h
 cases ry
 refine isnot_none_gen (zbS I q ?_)
 cases x<;>first
  | (cases rx;rfl)
  | (obtain ⟨t,rfl⟩:=rx;rfl)
theorem OpR.or {f:Value->Value->Sem Value}{r r':R2}(h:OpR X f r) (h':OpR X f r'):OpR X f (fun x y H Q=>r x y H Q\/r' x y H Q):=by
 intro pins s U H x y v u Q I rx ry q
 rcases q with q|q
 ·exact h pins s U H x y v u Q I rx ry q
 ·exact h' pins s U H x y v u Q I rx ry q
theorem nomark (b:Expr) {op:CmpOp}(h:op ≠ .In:=by decide) (h2:op ≠ .NotIn:=by decide):behindInMarks op b=false:=by
 have e1:(op==CmpOp.In)=false:=by cases op<;>first|rfl|exact absurd rfl h
 have e2:(op==CmpOp.NotIn)=false:=by cases op<;>first|rfl|exact absurd rfl h2
 cases b<;>simp [behindInMarks,e1,e2]
theorem ziH {op:CmpOp}{r:R2}(ho:OpR X (compareOp op) r) (ha:PE X a ta) (hb:PE X b tb) (hm:behindInMarks op b=false):PE X (.Compare a [op] [b] pos) (wV r ta tb):=by
 intro pins s U H Q I h
 exact wpAny_Compare1 (binT ha hb I h fun v u s2 x y H2 I2 rx ry q=>ho pins s2 U H2 x y v u Q I2 rx ry q) hm
def zdQ (t:TE):TT:=fun U H Q=>t U H fun x H'=>∃k,x=.bl k/\Q k H'
theorem zdR {op:CmpOp}{r:R2}(ho:OpR X (compareOp op) r) (ha:PE X a ta) (hb:PE X b tb) (hm:behindInMarks op b=false):PT X (.Compare a [op] [b] pos) (zdQ (wV r ta tb)):=by
 intro pins s U H Q I h
 refine wpAny_isTrue_Compare1 (thn (ha pins s U H _ I h) fun v s1 ⟨x,H1,I1,r1,q1⟩=>thn (hb pins s1 U H1 _ I1 q1) fun u s2 ⟨y,H2,I2,r2,q2⟩ =>
  thn (ho pins s2 U H2 x y v u _ I2 r1 r2 q2) fun c s3 ⟨z,H3,I3,r3,k,e,q3⟩=>?_) hm
 subst e
 cases r3
 exact wpAny_truthy_bool ⟨H3,I3,q3⟩
def zbT (r r':R2) (ta tb tc:TE):TE:=fun U H Q=>ta U H fun x H1=>tb U H1 fun y H2=>r x y H2 fun z H3=>∃k,z=.bl k /\
 (if k=true then tc U H3 fun w' H4=>r' y w' H4 Q else Q (.bl false) H3)
theorem ziI {op op':CmpOp}{r r':R2}(ho:OpR X (compareOp op) r) (ho':OpR X (compareOp op') r') (ha:PE X a ta) (hb:PE X b tb) (hc:PE X c tc)
  (hm:lastMarks [op,op'] [b,c]=false:=by with_unfolding_all rfl):PE X (.Compare a [op,op'] [b,c] pos) (zbT r r' ta tb tc):=by
 intro pins s U H Q I h
 refine Compare_chain (thn (ha pins s U H _ I h) fun v s1 ⟨x,H1,I1,r1,q1⟩=>chain_link (thn (hb pins s1 U H1 _ I1 q1) fun u s2 ⟨y,H2,I2,r2,q2⟩ =>
  thn (ho pins s2 U H2 x y v u _ I2 r1 r2 q2) fun d s3 ⟨z,H3,I3,r3,k,e,q3⟩=>?_)) hm
 subst e
 cases r3
 refine wpAny_truthy_bool ?_
 cases k with
 | false=>exact ite_ff ⟨.bl false,H3,I3,rfl,q3⟩
 | true=>exact ite_tt (chain_last (thn (hc pins s3 U H3 _ I3 q3) fun w' s4 ⟨z',H4,I4,r4,q4⟩=>ho' pins s4 U H4 y z' u w' Q I4 r2 r4 q4))
theorem ziJ {op op':CmpOp}{r r':R2}(ho:OpR X (compareOp op) r) (ho':OpR X (compareOp op') r') (ha:PE X a ta) (hb:PE X b tb) (hc:PE X c tc)
  (hm:lastMarks [op,op'] [b,c]=false:=by with_unfolding_all rfl):PT X (.Compare a [op,op'] [b,c] pos) (zdQ (zbT r r' ta tb tc)):=by
 intro pins s U H Q I h
 refine isTrue_chain (thn (ha pins s U H _ I h) fun v s1 ⟨x,H1,I1,r1,q1⟩=>test_link (thn (hb pins s1 U H1 _ I1 q1) fun u s2 ⟨y,H2,I2,r2,q2⟩ =>
  thn (ho pins s2 U H2 x y v u _ I2 r1 r2 q2) fun d s3 ⟨z,H3,I3,r3,k,e,q3⟩=>?_)) hm
 subst e
 cases r3
 refine wpAny_truthy_bool ?_
 cases k with
 | false =>
  obtain ⟨k',e',q'⟩:=q3
  cases e'
  exact ite_ff ⟨H3,I3,q'⟩
 | true =>
  refine ite_tt (test_last (thn (hc pins s3 U H3 _ I3 q3) fun w' s4 ⟨z',H4,I4,r4,q4⟩=>thn (ho' pins s4 U H4 y z' u w' _ I4 r2 r4 q4) fun d' s5 ⟨z2,H5,I5,r5,k2,e2,q5⟩=>?_))
  subst e2
  cases r5
  exact wpAny_truthy_bool ⟨H5,I5,q5⟩
theorem zaI:(sizeLine:Nat)<2 ^ 63:=by rw [sizeLine_eq];decide
theorem ziK:OpR X (binaryOp .Add) (fun x y H Q=>∃i j,x=.str i/\y=.str j/\i.length+j.length<=sizeLine/\Q (.str (i++j)) H):=by
 intro pins s U H x y v u Q I rx ry h
 obtain ⟨i,j,rfl,rfl,hz,q⟩:=h
 obtain ⟨t,rfl⟩:=rx
 obtain ⟨t',rfl⟩:=ry
 exact add_str (fun t' tk=>⟨.str (i++j),H,I.tok _,⟨_,rfl⟩,q⟩) hz
theorem jx {x:V}{us:List Value}(r:Vals [x] us):∃u,us=[u]/\RelV x u:=by
 cases r with
 | cons r1 r2=>cases r2;exact ⟨_,rfl,r1⟩
theorem zdS {x y:V}{us:List Value}(r:Vals [x,y] us):∃u w',us=[u,w']/\RelV x u/\RelV y w':=by
 cases r with
 | cons r1 r2 =>
  cases r2 with
  | cons r3 r4=>cases r4;exact ⟨_,_,rfl,r1,r3⟩
theorem ziL:CallR X (.type "int") (fun xs H Q=>(∃i,xs=[.int i]/\Q (.int i) H)\/∃k,xs=[.bl k]/\Q (.int (if k then 1 else 0)) H):=by
 intro pins s U H xs us Q I r h
 rcases h with ⟨i,rfl,q⟩|⟨k,rfl,q⟩
 ·obtain ⟨u,rfl,t,rfl⟩:=jx r
  exact call_int_int ⟨.int i,H,I,⟨_,rfl⟩,q⟩
 ·obtain ⟨u,rfl,r1⟩:=jx r
  cases r1
  exact call_int_bool ⟨.int (if k then 1 else 0),H,I.tok _,⟨_,rfl⟩,q⟩
def LenV (K:PySem.W.Frag) (x:V) (H:Hp) (n:Nat):Prop :=
 match x with
 | .str y=>y.length<=sizeLine/\n=y.length
 | .byt y=>y.size<=sizeLine/\n=y.size
 | .ref p=>(∃xs,SqL K H p xs/\n=xs.length)\/∃xs,SqT K H p xs/\n=xs.length
 | _=>False
theorem ziM:CallR X (.builtin "len") (fun xs H Q=>∃x n,xs=[x]/\LenV X.K x H n/\Q (.int n) H):=by
 intro pins s U H xs us Q I r h
 obtain ⟨x,n,rfl,e,q⟩:=h
 obtain ⟨u,rfl,rx⟩:=jx r
 have hl:=zaI
 have hs:sizeLine=16777216:=sizeLine_eq
 cases x with
 | str y =>
  obtain ⟨t,rfl⟩:=rx
  obtain ⟨hy,e'⟩:y.length<=sizeLine/\n=y.length:=e
  subst e'
  exact len_str (by omega) ⟨.int _,H,I.tok _,⟨_,rfl⟩,q⟩
 | byt y =>
  obtain ⟨t,rfl⟩:=rx
  obtain ⟨hy,e'⟩:y.size<=sizeLine/\n=y.size:=e
  subst e'
  exact PySem.W.len_bytes (by omega) ⟨.int _,H,I.tok _,⟨_,rfl⟩,q⟩
 | ref p =>
  cases rx
  have e':(∃xs,SqL X.K H p xs/\n=xs.length)\/∃xs,SqT X.K H p xs/\n=xs.length:=e
  rcases e' with ⟨xs,hx,e'⟩|⟨xs,hx,e'⟩
  ·subst e'
   obtain ⟨its,r',pl,hz⟩:=I.list hx
   have hlen:=r'.length
   exact Calls.call_len_list pl.isList (by simp only [List.size_toArray];omega) ⟨.int xs.length,H,I.tok _,⟨_,by simp only [List.size_toArray];rw [hlen]⟩,q⟩
  ·subst e'
   obtain ⟨its,r',pl,hz⟩:=I.tuple hx
   have hlen:=r'.length
   exact len_tuple pl (by simp only [List.size_toArray];omega) ⟨.int xs.length,H,I.tok _,⟨_,by simp only [List.size_toArray];rw [hlen]⟩,q⟩
 | _=>exact (show False from e).elim
end
structure ObjM (h:Heap) (x dx C:Addr) (mA:Str->Option Value):Prop where
 obj:h.get? x=some (PySem.W.instObj C dx)
 ns:h.Ns1 dx mA
 ne:dx≠x
theorem zdT {h:Heap}{dx:Addr}{mA:Str->Option Value}(n:h.Ns1 dx mA):∃od,h.get? dx=some od/\∀name,PySem.W.lookIn name od=some (mA name):=by
 obtain ⟨o,es,ep,ho,hd,hk,_,hm⟩:=n
 refine ⟨o,ho,fun name=>?_⟩
 have e:=hm name
 unfold nsFind findBy at e
 rw [<-Array.find?_toList] at e
 unfold PySem.W.lookIn
 rw [hd]
 dsimp only
 split
 ·rename_i y q
  rw [q] at e
  exact congrArg some e
 ·rename_i q
  rw [q] at e
  have a:es.toList.any (·.refKey)=false:=by
   rw [List.any_eq_false]
   intro y hy
   obtain ⟨z,t,hkey⟩:=hk y (Array.mem_toList_iff.mp hy)
   simp [DictEntry.refKey,hkey]
  have a':¬es.toList.any (·.refKey)=true:=by rw [a];exact Bool.false_ne_true
  rw [if_neg a']
  exact congrArg some e
theorem ObjM.look {h:Heap}{x dx C:Addr}{mA:Str->Option Value}(I:ObjM h x dx C mA):∃od,PySem.W.InstAt h x (PySem.W.instObj C dx) C (some od)/\∀name,PySem.W.lookIn name od=some (mA name) :=
 let ⟨od,ho,hl⟩:=zdT I.ns
 ⟨od,⟨I.obj,rfl,rfl,ho⟩,hl⟩
section
variable {prog:Program}{w:World}{A:Around}{E:Value->Shared->Prop}{s:Shared}{K:PySem.W.Frag}{x dx C f:Addr}{mA:Str->Option Value}{name:Str}{v:Value}
theorem ziN {expr:Bool}{Q:Value->Shared->Prop}(X:K.In s.heap) (I:ObjM s.heap x dx C mA) (hg:PySem.W.plainGet K C name=true) (hh:PySem.W.hasDictIn K C=true)
  (ha:PySem.W.findIn K (.ref C) name=some none) (hv:mA name=some v) (hv':PySem.W.handedIn v=true) (h:Q v { s with toks:=s.toks+1 }) :
  wpAny (model prog w) A (getAttr (.ref x) name expr) Q E s:=by
 obtain ⟨od,J,hl⟩:=I.look
 exact PySem.W.get_value X J (PySem.W.plainGet_of hg).1 (PySem.W.findObj_own hh ha rfl (by rw [hl,hv])) hv' h
theorem ziO {pl:Sem Bool}{Q:Value×List Value->Shared->Prop}(X:K.In s.heap) (I:ObjM s.heap x dx C mA) (hg:PySem.W.plainGet K C name=true)
  (hf:PySem.W.findIn K (.ref C) name=some (some (.ref f))) (ht:PySem.W.isFn K (.ref f)=true) (hv:mA name=none) (h:Q (.ref f,[.ref x]) s) :
  wpAny (model prog w) A (getMethod (.ref x) name pl) Q E s:=by
 obtain ⟨od,J,hl⟩:=I.look
 exact PySem.W.method_fn X J (PySem.W.plainGet_of hg).1 (PySem.W.plainGet_of hg).2 hf (beq_iff_eq.mp ht) (by show (PySem.W.lookIn name od).map (·.isSome)=some false;rw [hl,hv];rfl) h
theorem ziP {ns:List Str}{Q:Unit->Shared->Prop}(X:K.In s.heap) (I:ObjM s.heap x dx C mA)
  (hs:PySem.W.findIn K (.ref C) "__setattr__" = some (some (.builtin "object.__setattr__"))) (hp:PySem.W.plainOver K C=true) (ht:PySem.W.takerIn K C name=some none) (hh:PySem.W.hasDictIn K C=true)
  (hw:PySem.Within mA ns) (hsz:ns.length<=sizeLine)
  (h:∀h',ObjM h' x dx C (fun y=>if y=name then some v else mA y)->Heap.SameBut dx s.heap h'->Q () { s with heap:=h',toks:=s.toks+2 }) :
  wpAny (model prog w) A (setAttr (.ref x) name v) Q E s:=by
 obtain ⟨od,J,hl⟩:=I.look
 refine PySem.W.set_plain X J hs (PySem.W.osa_open (s:={ s with toks:=s.toks+1 }) (r:=none) X J hp ht fun b=>?_)
 obtain ⟨cd,hc,hd'⟩:=PySem.W.any_some hh
 have hx:s.heap.get? x=some ⟨.ref C,some dx,.plain,#[]⟩:=I.obj
 refine wpAny_bind (wpAny_pure (wpAny_bind (wpAny_bind (wpAny_loadPart hx (wpAny_bind (PySem.W.Looks.here (s:={ s with toks:=s.toks+1 }) (PySem.W.looks_clsIn X hc) ?_))))))
 rw [hd']
 refine wpAny_pure (a:=some dx) (wpAny_bind (wpAny_pure (wpAny_bind ?_)))
 refine wpAny_nsSet1 (s:={ s with toks:=s.toks+1 }) I.ns fun h' hn2 hs2=>?_
 obtain ⟨oD,esD,epD,hoD,hdD,hcD⟩:=hn2.count (PySem.Within.cons name v hw)
 refine wpAny_bind (wpAny_lookBehind hoD (by rw [hdD];exact pastItsLine_dict (Nat.le_trans hcD (by rw [List.length_cons];omega))) ?_)
 exact wpAny_pure (h _ ⟨(hs2.2 _ (Ne.symm I.ne)).trans I.obj,hn2,I.ne⟩ hs2)
theorem ziQ {R:Result->Shared->Prop}{vs:List Value}{kw:List (Str×Value)}(X:K.In s.heap) (hm:PySem.W.makesIn K C=true)
  (hi:PySem.W.findIn K (.ref C) "__init__" = some (some (.ref f))) (hf:PySem.W.typeIn K (.ref f)=some (.type "function"))
  (h:codeAny (model prog w) (A.under (.builtin "type.__call__" ⟨.ref C::vs,kw⟩)) (.call (.ref f) ⟨.ref (s.heap.objs.size+1)::vs,kw⟩) (PySem.W.InitBack (s.heap.objs.size+1) R)
   { s with heap:=(s.heap.push PySem.W.emptyDict).push (PySem.W.instObj C s.heap.objs.size) }) :
  codeAny (model prog w) A (.call (.ref C) ⟨vs,kw⟩) R s:=by
 obtain ⟨hh,g,d,t,os⟩:=s
 exact PySem.W.make_core (PySem.W.makes_of X hm) (PySem.W.looks_findIn X hi) (fun self=>PySem.W.bind_fn X self hf) (.inl rfl) h
end
def putF (f:Str) (v:V):List (Str×V)->List (Str×V)
 | []=>[(f,v)]
 | (g,x)::r=>if g=f then (g,v)::r else (g,x)::putF f v r
theorem zdU (f g:Str) (v:V):∀fs:List (Str×V),(putF f v fs).lookup g=if g=f then some v else fs.lookup g
 | []=>by
  show List.lookup g [(f,v)]=_
  by_cases h:g=f
  ·have hb:(g==f)=true:=beq_iff_eq.mpr h
   simp only [List.lookup,hb,if_pos h]
  ·have hb:(g==f)=false:=beq_eq_false_iff_ne.mpr h
   simp only [List.lookup,hb,if_neg h]
 | (k,x)::r=>by
  have ih:=zdU f g v r
  rw [show putF f v ((k,x)::r)=(if k=f then (k,v)::r else (k,x)::putF f v r) from rfl]
  by_cases hk:k=f
  ·rw [if_pos hk]
   by_cases h:g=k
   ·have hb:(g==k)=true:=beq_iff_eq.mpr h
    simp only [List.lookup,hb,if_pos (h.trans hk)]
   ·have hb:(g==k)=false:=beq_eq_false_iff_ne.mpr h
    simp only [List.lookup,hb,if_neg (fun e:g=f=>h (e.trans hk.symm))]
  ·rw [if_neg hk]
   by_cases h:g=k
   ·have hb:(g==k)=true:=beq_iff_eq.mpr h
    simp only [List.lookup,hb,if_neg (fun e:g=f=>hk (h.symm.trans e))]
   ·have hb:(g==k)=false:=beq_eq_false_iff_ne.mpr h
    simp only [List.lookup,hb]
    exact ih
theorem zbU (f:Str) (v:V):∀fs:List (Str×V),f∈(putF f v fs).map (·.1)/\∀g,g∈fs.map (·.1)->g∈(putF f v fs).map (·.1)
 | []=>⟨by simp [putF],fun g h=>by simp at h⟩
 | (k,x)::r=>by
  obtain ⟨i1,i2⟩:=zbU f v r
  rw [show putF f v ((k,x)::r)=(if k=f then (k,v)::r else (k,x)::putF f v r) from rfl]
  by_cases hk:k=f
  ·rw [if_pos hk]
   subst hk
   exact ⟨by simp,fun g h=>by simpa using h⟩
  ·rw [if_neg hk]
   refine ⟨?_,fun g h=>?_⟩
   ·rw [List.map_cons]
    exact List.mem_cons_of_mem _ i1
   ·rw [List.map_cons] at h ⊢
    rcases List.mem_cons.mp h with e|e
    ·exact List.mem_cons.mpr (.inl e)
    ·exact List.mem_cons_of_mem _ (i2 g e)
theorem zdV (f:Str) (v:V):∀fs:List (Str×V),(putF f v fs).length<=fs.length+1
 | []=>by simp [putF]
 | (k,x)::r=>by
  have ih:=zdV f v r
  rw [show putF f v ((k,x)::r)=(if k=f then (k,v)::r else (k,x)::putF f v r) from rfl]
  by_cases hk:k=f
  ·rw [if_pos hk,List.length_cons,List.length_cons];omega
  ·rw [if_neg hk,List.length_cons,List.length_cons];omega
theorem RelO.some_of {v:V}{o:Option Value}(r:RelO (some v) o):∃u,o=some u/\RelV v u:=by
 cases o with
 | none=>exact (show False from r).elim
 | some u=>exact ⟨u,rfl,r⟩
theorem RelO.none_of {o:Option Value}(r:RelO none o):o=none:=by
 cases o with
 | none=>rfl
 | some u=>exact (show False from r).elim
theorem zdW {v:V}{u:Value}(r:RelV v u):PySem.W.handedIn u=true:=by
 cases v with
 | non=>cases (show u=Value.none from r);rfl
 | bl b=>cases (show u=Value.bool b from r);rfl
 | int i=>obtain ⟨t,e⟩:=(show ∃t,u=Value.int i t from r);cases e;rfl
 | str x=>obtain ⟨t,e⟩:=(show ∃t,u=Value.str x t from r);cases e;rfl
 | byt b=>obtain ⟨t,e⟩:=(show ∃t,u=Value.bytes b t from r);cases e;rfl
 | flt b=>obtain ⟨t,e⟩:=(show ∃t,u=Value.float b t from r);cases e;rfl
 | ref a=>cases (show u=Value.ref a from r);rfl
 | ty n=>cases (show u=Value.type n from r);rfl
section
variable {P:Program}{w:World}{H H':Hp}{h h':Heap}{a C dx:Addr}{fs fs':List (Str×V)}
theorem zaJ (hok:HOk P w H h) (e:H a=some (.ins C dx fs)):∃mA,ObjM h a dx C mA/\(∀f,RelO (fs.lookup f) (mA f))/\PySem.Within mA (fs.map (·.1))/\fs.length<=1000/\H dx=some (.own a):=by
 obtain ⟨d,z,ne,ob,mA,n,r,q⟩:=(show ObjOk P w H h a (.ins C dx fs) from hok a _ e)
 exact ⟨mA,⟨ob,n,ne⟩,r,q,z,d⟩
end
structure Cls (K:PySem.W.Frag) (C:Addr):Prop where
 pg:PySem.W.plainGet K C Str.empty=true
 hd:PySem.W.hasDictIn K C=true
 po:PySem.W.plainOver K C=true
 sa:PySem.W.findIn K (.ref C) "__setattr__" = some (some (.builtin "object.__setattr__"))
theorem Cls.get {K:PySem.W.Frag}{C:Addr}(c:Cls K C) (f:Str):PySem.W.plainGet K C f=true:=c.pg
def NoAttr (K:PySem.W.Frag) (C:Addr) (f:Str):Prop:=PySem.W.findIn K (.ref C) f=some none
theorem NoAttr.taker {K:PySem.W.Frag}{C:Addr}{f:Str}(n:NoAttr K C f):PySem.W.takerIn K C f=some none:=by
 unfold PySem.W.takerIn
 rw [show PySem.W.findIn K (.ref C) f=some none from n]
 rfl
structure Con (K:PySem.W.Frag) (C:Addr) (f:Str) (v:V) (u:Value):Prop where
 at_:PySem.W.findIn K (.ref C) f=some (some u)
 rel:RelV v u
 get:PySem.W.specialIn K u "__get__" = some none
 cp:PySem.W.copiedNames.contains f=false
structure Meth (K:PySem.W.Frag) (C:Addr) (m:Str) (f:Addr):Prop where
 at_:PySem.W.findIn K (.ref C) m=some (some (.ref f))
 fn:PySem.W.isFn K (.ref f)=true
 kp:PySem.W.keepIn K (.ref f)=true
section
variable {X:Cx}{pins:List (Addr×Obj)}{U:St}{H:Hp}{s:Shared}{a C dx:Addr}{fs:List (Str×V)}{f:Str}{v:V}{A:Around}{E:Value->Shared->Prop}
theorem ziR {b:Bool}{Q:Value->Shared->Prop}(I:Inv X pins U H s) (e:H a=some (.ins C dx fs)) (c:Cls X.K C) (n:NoAttr X.K C f) (l:fs.lookup f=some v)
  (h:∀u s',Inv X pins U H s'->RelV v u->Q u s'):wpAny (model X.prog X.w) A (getAttr (.ref a) f b) Q E s:=by
 obtain ⟨mA,O,r,_,_,_⟩:=zaJ I.hok e
 obtain ⟨u,hu,ru⟩:=RelO.some_of (v:=v) (o:=mA f) (by rw [<-l];exact r f)
 exact ziN I.kIn O (c.get f) c.hd n hu (zdW ru) (h u _ (I.tok _) ru)
theorem zdX {m:Str}{g:Addr}{pl:Sem Bool}{Q:Value×List Value->Shared->Prop}(I:Inv X pins U H s) (e:H a=some (.ins C dx fs)) (c:Cls X.K C) (k:Meth X.K C m g) (l:fs.lookup m=none)
  (h:Q (.ref g,[.ref a]) s):wpAny (model X.prog X.w) A (getMethod (.ref a) m pl) Q E s:=by
 obtain ⟨mA,O,r,_,_,_⟩:=zaJ I.hok e
 have hn:mA m=none:=RelO.none_of (by rw [<-l];exact r m)
 exact ziO I.kIn O (c.get m) k.at_ k.fn hn h
theorem ziS {y:V}{u:Value}{Q:Unit->Shared->Prop}(I:Inv X pins U H s) (e:H a=some (.ins C dx fs)) (c:Cls X.K C) (n:NoAttr X.K C f) (hl:fs.length<1000) (ry:RelV y u)
  (h:∀s',Inv X pins U (upd H a (.ins C dx (putF f y fs))) s'->Q () s'):wpAny (model X.prog X.w) A (setAttr (.ref a) f u) Q E s:=by
 obtain ⟨mA,O,r,wi,_,ho⟩:=zaJ I.hok e
 have hz:(fs.map (·.1)).length<=sizeLine:=by rw [List.length_map,sizeLine_eq];omega
 refine ziP I.kIn O c.sa c.po n.taker c.hd wi hz fun h' O' sb=>h _ ?_
 have hd:∃o,h'.get? dx=some o:=let ⟨o,_,_,e',_⟩:=O'.ns;⟨o,e'⟩
 refine I.write (x:=a) (e:=dx) (by rw [e];exact True.intro) (.inr ho) (fun b q hb z=>(sb.2 b hb).trans z) hd ?_
 refine ⟨by rw [zp O.ne];exact ho,?_,O.ne,O'.obj,_,O'.ns,fun g=>?_,fun g hg=>?_⟩
 ·have:=zdV f y fs;omega
 ·show RelO ((putF f y fs).lookup g) (if g=f then some u else mA g)
  rw [zdU]
  by_cases q:g=f
  ·rw [if_pos q,if_pos q];exact ry
  ·rw [if_neg q,if_neg q];exact r g
 ·by_cases q:g=f
  ·rw [q];exact (zbU f y fs).1
  ·refine (zbU f y fs).2 g (wi g fun z=>hg ?_)
   show (if g=f then some u else mA g)=none
   rw [if_neg q];exact z
theorem Inv.made (I:Inv X pins U H s):Inv X pins U (upd (upd H s.heap.objs.size (.own (s.heap.objs.size+1))) (s.heap.objs.size+1) (.ins C s.heap.objs.size []))
  { s with heap:=(s.heap.push PySem.W.emptyDict).push (PySem.W.instObj C s.heap.objs.size) }:=by
 have e1:(s.heap.push PySem.W.emptyDict).get? s.heap.objs.size=some PySem.W.emptyDict:=Heap.get?_push_size s.heap rfl
 have e2:((s.heap.push PySem.W.emptyDict).push (PySem.W.instObj C s.heap.objs.size)).get? (s.heap.objs.size+1)=some (PySem.W.instObj C s.heap.objs.size):=by
  have:=Heap.get?_push_size (s.heap.push PySem.W.emptyDict) (o:=PySem.W.instObj C s.heap.objs.size) rfl
  rwa [Heap.size_push] at this
 have e3:(s.heap.push PySem.W.emptyDict).Ns s.heap.objs.size (fun _=>none):=⟨PySem.W.emptyDict,#[],_,e1,rfl,(fun e he=>absurd he (by simp)),fun _=>rfl⟩
 have I1:=I.laid (a:=s.heap.objs.size) (o:=.own (s.heap.objs.size+1)) (h':=s.heap.push PySem.W.emptyDict) (t':=s.toks) (fun b u q=>Heap.get?_push_of_some _ q) (Nat.le_refl _) ⟨_,e1⟩
 refine I1.laid (a:=s.heap.objs.size+1) (o:=.ins C s.heap.objs.size []) (t':=s.toks) (fun b u q=>Heap.get?_push_of_some _ q) (Nat.le_of_eq (Heap.size_push _ _)) ?_
 have ne:s.heap.objs.size≠s.heap.objs.size+1:=Nat.ne_of_lt (Nat.lt_succ_self _)
 refine ⟨by rw [zp ne,zY],Nat.zero_le _,ne,e2,fun _=>none,(Heap.Ns1.of_empty e3).at fun o q=>Heap.get?_push_of_some _ q,fun _=>True.intro,fun y hy=>absurd rfl hy⟩
theorem ziT {prog:Program}{w:World}{env:Env}{e:Expr}{f:Str}{pos:Pos}{s:Shared}{Q:Value->Shared->Prop}(hb:attributeBase e f env (eval e env)=eval e env)
  (h:wpAny (model prog w) A (eval e env) (fun o ah=>wpAny (model prog w) A (getAttr o f true) Q E ah) E s):wpAny (model prog w) A (eval (.Attribute e f pos) env) Q E s :=
 Attribute_any_ h (by rw [arm_eval_Attribute,hb])
end
def sFld (K:PySem.W.Frag) (ta tv:TE) (f:Str):TS:=fun D U H=>tv U H fun y H1=>ta U H1 fun x H2=>∃a C dx fs,x=.ref a/\H2 a=some (.ins C dx fs)/\Cls K C/\NoAttr K C f/\fs.length<1000 /\
 D.nx U (upd H2 a (.ins C dx (putF f y fs)))
section
variable {X:Cx}{o e value:Expr}{f:Str}{pos pos' tpos:Pos}{ta tv:TE}
theorem ziU (ha:PE X o ta) (hv:PE X value tv) (hs:swapsWith value (some (.Attribute o f pos')) pos.line X.env=pure false):PS X (.Assign [.Attribute o f pos'] value pos) (sFld X.K ta tv f):=by
 intro pins s U H D I h
 refine plainObj_wpAny_Assign_Attribute (thn (hv pins s U H _ I h) fun u s1 ⟨y,H1,I1,ry,q⟩=>thn (ha pins s1 U H1 _ I1 q) fun ov s2 ⟨x,H2,I2,rx,a,C,dx,fs,ex,ea,c,n,l,q2⟩=>?_) hs
 subst ex
 obtain rfl:ov=Value.ref a:=rx
 exact ziS I2 ea c n l ry fun s3 I3=>⟨U,_,I3,q2⟩
end
section
variable {X:Cx}{pins:List (Addr×Obj)}{U:St}{H:Hp}{s:Shared}{A:Around}{E:Value->Shared->Prop}{Q:Value->Shared->Prop}{c:Value}{b:Bool}
inductive TyOf (K:PySem.W.Frag) (H:Hp):V->Value->Prop where
 | non:TyOf K H .non (.type "NoneType")
 | bl (x:Bool):TyOf K H (.bl x) (.type "bool")
 | int (i:Int):TyOf K H (.int i) (.type "int")
 | str (x:Str):TyOf K H (.str x) (.type "str")
 | flt (x:UInt64):TyOf K H (.flt x) (.type "float")
 | lst {a:Addr} {xs:List V} (e:H a=some (.lst xs)):TyOf K H (.ref a) (.type "list")
 | frz {a:Addr} {o:Obj} {xs:List V} (e:H a=some (.frz o (.lst xs))):TyOf K H (.ref a) (.type "list")
 | tup {a:Addr} {xs:List V} (e:H a=some (.tup xs)):TyOf K H (.ref a) (.type "tuple")
 | dK {a:Addr} {kvs:List (Key×V)} (e:H a=some (.dK kvs)):TyOf K H (.ref a) (.type "dict")
 | dT {a:Addr} {kvs:List (List Key×V)} (e:H a=some (.dT kvs)):TyOf K H (.ref a) (.type "dict")
 | ins {a C dx:Addr} {fs:List (Str×V)} (e:H a=some (.ins C dx fs)) (cl:Cls K C) (ha:PySem.W.findIn K (.ref C) "__class__" = some (some (.builtin "object.__class__")))
   (hn:PySem.W.specialIn K (.builtin "object.__class__") "__get__" = some (some (.builtin "getset_descriptor.__get__"))) (htk:PySem.W.takesIn K (.builtin "object.__class__")=some true)
   (hm:PySem.W.mroIn K C (.type "object")=some true):TyOf K H (.ref a) (.ref C)
theorem ziV {x:V}{u t:Value}(I:Inv X pins U H s) (rx:RelV x u) (ty:TyOf X.K H x t) (e:PySem.W.kitOne X.K t c=some b) (h:∀tk,Q (.bool b) { s with toks:=tk }) :
  wpAny (model X.prog X.w) A (call (.builtin "isinstance") [u,c]) Q E s:=by
 cases ty with
 | non=>cases (show u=Value.none from rx);exact PySem.W.kia_one PySem.W.kitx_none I.kIn True.intro e (fun z=>nomatch z) h
 | bl y=>cases (show u=Value.bool y from rx);exact PySem.W.kia_one PySem.W.kitx_bool I.kIn True.intro e (fun z=>nomatch z) h
 | int i=>obtain ⟨t,q⟩:=(show ∃t,u=Value.int i t from rx);cases q;exact PySem.W.kia_one PySem.W.kitx_int I.kIn True.intro e (fun z=>nomatch z) h
 | str y=>obtain ⟨t,q⟩:=(show ∃t,u=Value.str y t from rx);cases q;exact PySem.W.kia_one PySem.W.kitx_str I.kIn True.intro e (fun z=>nomatch z) h
 | flt y=>obtain ⟨t,q⟩:=(show ∃t,u=Value.float y t from rx);cases q;exact PySem.W.kia_one PySem.W.kitx_float I.kIn True.intro e (fun z=>nomatch z) h
 | @lst a xs ea =>
  cases (show u=Value.ref a from rx)
  obtain ⟨_,_,n,_,h1⟩:=(show ObjOk X.prog X.w H s.heap a (.lst xs) from I.hok a _ ea)
  exact PySem.W.kia_one PySem.W.kitx_list I.kIn ⟨_,h1,rfl⟩ e (fun z=>nomatch z) h
 | @frz a ob xs ea =>
  cases (show u=Value.ref a from rx)
  obtain ⟨_,_,_,n,_,h1⟩:=(show ObjOk X.prog X.w H s.heap a (.frz ob (.lst xs)) from I.hok a _ ea)
  exact PySem.W.kia_one PySem.W.kitx_list I.kIn ⟨_,h1,rfl⟩ e (fun z=>nomatch z) h
 | @tup a xs ea =>
  cases (show u=Value.ref a from rx)
  obtain ⟨_,_,_,p⟩:=(show ObjOk X.prog X.w H s.heap a (.tup xs) from I.hok a _ ea)
  obtain ⟨o,h1,h2,_⟩:=p
  exact PySem.W.kia_one PySem.W.kitx_tuple I.kIn ⟨o,h1,h2⟩ e (fun z=>nomatch z) h
 | @dK a kvs ea =>
  cases (show u=Value.ref a from rx)
  obtain ⟨_,_,vs,_,p⟩:=(show ObjOk X.prog X.w H s.heap a (.dK kvs) from I.hok a _ ea)
  obtain ⟨o,es,ep,h1,h2,_⟩:=p
  exact PySem.W.kia_one PySem.W.kitx_dict I.kIn ⟨o,h1,h2.1⟩ e (fun z=>nomatch z) h
 | @dT a kvs ea =>
  cases (show u=Value.ref a from rx)
  obtain ⟨_,_,xs,_,o,es,ep,h1,h2,_⟩:=(show ObjOk X.prog X.w H s.heap a (.dT kvs) from I.hok a _ ea)
  exact PySem.W.kia_one PySem.W.kitx_dict I.kIn ⟨o,h1,h2.1⟩ e (fun z=>nomatch z) h
 | @ins a C dx fs ea cl ha hn htk hm =>
  cases (show u=Value.ref a from rx)
  obtain ⟨mA,O,_⟩:=zaJ I.hok ea
  obtain ⟨od,J,_⟩:=O.look
  exact PySem.W.kia_one (PySem.W.kitx_own (cl.get _) cl.hd ha hn htk hm) I.kIn J e (fun z=>nomatch z) h
end
structure Room (k:Nat) (A:Around):Prop where
 hd:A.handled=none
 dp:A.depth+3*k+5<recursionLimit
 un:A.units+16*k+200<cLine
theorem Room.mono {j k:Nat}{A:Around}(r:Room k A) (h:j<=k):Room j A:=⟨r.hd,by have:=r.dp;omega,by have:=r.un;omega⟩
theorem Room.deeper {k:Nat}{A:Around}(r:Room (k+1) A) (env:Env):Room k (A.deeper env) :=
 ⟨r.hd,by have:=r.dp;show A.depth+1+3*k+5<_;omega,by have:=r.un;show A.units+3+16*k+200<_;omega⟩
theorem ziW {A:Around} {C:Addr} {us:List Value} {kw:List (Str×Value)}:(A.under (.builtin "type.__call__" ⟨.ref C::us,kw⟩)).depth=A.depth+1:=by
 first|rfl|simp [Around.under,Code.weight,Code.isCreation,Code.isGuard,Code.isCaller,Code.frames,Code.isFrame,guardIds]
theorem ziX {A:Around} {C:Addr} {us:List Value} {kw:List (Str×Value)}:(A.under (.builtin "type.__call__" ⟨.ref C::us,kw⟩)).units=A.units+1:=by
 first|rfl|simp [Around.under,Code.cUnits,Code.frames,Code.isFrame]
theorem Room.make {k:Nat} {A:Around} (r:Room (k+1) A) (C:Addr) (us:List Value) (kw:List (Str×Value)):Room k (A.under (.builtin "type.__call__" ⟨.ref C::us,kw⟩)) :=
 ⟨r.hd,by have:=r.dp;rw [ziW];omega,by have:=r.un;rw [ziX];omega⟩
theorem Room.depth {k:Nat}{A:Around}(r:Room k A):A.depth<recursionLimit:=by have:=r.dp;omega
def zbV:TA:=fun _ H Q=>Q [] H
def ziY (ta:TE) (tr:TA):TA:=fun U H Q=>ta U H fun x H1=>tr U H1 fun xs H2=>Q (x::xs) H2
section
variable {X:Cx}{e:Expr}{es:List Expr}{te:TE}{t:TA}{pos:Pos}
theorem zbW:PA X [] zbV:=fun _ _ _ _ H Q I h=>Calls.spliced_nil ⟨[],H,I,.nil,h⟩
theorem zbX (ha:PE X e te) (hr:PA X es t) (hs:starEach (e::es) X.env=(false,eval e X.env)::starEach es X.env:=by rfl):PA X (e::es) (ziY te t):=by
 intro pos pins s U H Q I h
 rw [hs]
 show wpAny _ _ (spliced ((false,eval e X.env)::backTo pos (starEach es X.env))) _ _ s
 refine Calls.spliced_cons (thn (ha pins s U H _ I h) fun u s1 ⟨x,H1,I1,r1,q1⟩=>?_)
 exact thn (hr pos pins s1 U H1 _ I1 q1) fun us s2 ⟨xs,H2,I2,r2,q2⟩=>⟨x::xs,H2,I2,.cons r1 r2,q2⟩
def ziZ (t:TA):TE:=fun U H Q=>t U H fun xs H1=>xs.length<=sizeLine/\∀p,H1 p=none->Q (.ref p) (upd H1 p (.tup xs))
def zi0 (t:TA):TE:=fun U H Q=>t U H fun xs H1=>xs.length<=sizeLine/\∀p,H1 p=none->Q (.ref p) (upd H1 p (.lst xs))
theorem zi1 {x1}(h:PA X es t):PE X (.Tuple es x1 pos) (ziZ t):=by
 intro pins s U H Q I hq
 refine wpAny_Tuple_spliced (thn (h pos pins s U H _ I hq) fun us s1 ⟨xs,H1,I1,r,z,q⟩=>⟨by rw [<-r.length];exact z,?_⟩)
 have hf:H1 s1.heap.objs.size=none:=I1.hok.fresh (Nat.le_refl _)
 refine ⟨.ref s1.heap.objs.size,upd H1 s1.heap.objs.size (.tup xs),I1.laid (t':=s1.toks) (fun b u e=>Heap.get?_push_of_some _ e) (Nat.le_refl _) ?_,rfl,q _ hf⟩
 exact ⟨z,us,r,⟨_,Heap.get?_push_size _ rfl,rfl,_,rfl⟩⟩
theorem zi2 (h:PA X es t):PE X (.List es pos) (zi0 t):=by
 intro pins s U H Q I hq
 refine wpAny_List_spliced (thn (h pos pins s U H _ I hq) fun us s1 ⟨xs,H1,I1,r,z,q⟩=>⟨by rw [<-r.length];exact z,?_⟩)
 have hf:H1 s1.heap.objs.size=none:=I1.hok.fresh (Nat.le_refl _)
 refine ⟨.ref s1.heap.objs.size,upd H1 s1.heap.objs.size (.lst xs),I1.laid (t':=s1.toks) (fun b u e=>Heap.get?_push_of_some _ e) (Nat.le_refl _) ?_,rfl,q _ hf⟩
 exact ⟨z,us,0,r,Heap.get?_push_size _ rfl⟩
end
abbrev Sp:=List V->Hp->VK->XK->Prop
abbrev CXT:=List Env->Hp->Shared->XK->Value->Shared->Prop
structure Env0 (P:Program) (w:World) (K:PySem.W.Frag) (mg:Str->Option Value) (base:Heap) (A:Around) (outer:List Env) (s:Shared) (H:Hp):Prop where
 frames:A.frames=some outer
 mod:Mod K mg base
 bs:∀b o,base.get? b=some o->s.heap.get? b=some o/\H b=none
 bsz:base.objs.size<=s.heap.objs.size
 funs:s.heap.FunFrames base outer
 frf:∀b∈frs outer,H b=none
 hok:HOk P w H s.heap
 bare:AllBare s.gens
def CE (outer:List Env) (P:Program) (w:World) (H:Hp) (s:Shared) (Q:VK) (u:Value) (s':Shared):Prop :=
 ∃v H',s'.os=s.os/\AllBare s'.gens/\Un (frs outer) [] H H' s.heap s'.heap/\HOk P w H' s'.heap/\RelV v u/\Q v H'
def CR (CX:CXT) (outer:List Env) (P:Program) (w:World) (H:Hp) (s:Shared) (Q:VK) (E:XK) (r:Result) (s':Shared):Prop :=
 match r with
 | .ok (.ret u)=>CE outer P w H s Q u s'
 | .ok _=>False
 | .error e=>CX outer H s E e s'
structure FnOk (P:Program) (w:World) (K:PySem.W.Frag) (mg:Str->Option Value) (base:Heap) (CX:CXT) (k:Nat) (f:Addr) (fd:FuncData) (ps:List Str) (sp:Sp):Prop where
 len:∀vs H Q E,sp vs H Q E->vs.length=ps.length
 run:∀(A:Around) (outer:List Env) (s:Shared) (H:Hp) (args:Args) (us:List Value) (vs:List V) (Q:VK) (E:XK),Room k A->Env0 P w K mg base A outer s H->BindsTo s fd args (ps.zip us)->Vals vs us->sp vs H Q E ->
  codeAny (model P w) A (.call (.ref f) args) (CR CX outer P w H s Q E) s
theorem FnOk.mono {P:Program}{w:World}{K:PySem.W.Frag}{mg:Str->Option Value}{base:Heap}{CX:CXT}{j k:Nat}{f:Addr}{fd:FuncData}{ps:List Str}{sp:Sp}(F:FnOk P w K mg base CX j f fd ps sp) (h:j<=k) :
  FnOk P w K mg base CX k f fd ps sp:=⟨F.len,fun A outer s H args us vs Q E hr=>F.run A outer s H args us vs Q E (hr.mono h)⟩
theorem FnOk.imp {P:Program}{w:World}{K:PySem.W.Frag}{mg:Str->Option Value}{base:Heap}{CX:CXT}{k:Nat}{f:Addr}{fd:FuncData}{ps:List Str}{sp sp':Sp}(F:FnOk P w K mg base CX k f fd ps sp)
  (h:∀vs H Q E,sp' vs H Q E->sp vs H Q E):FnOk P w K mg base CX k f fd ps sp' :=
 ⟨fun vs H Q E q=>F.len vs H Q E (h _ _ _ _ q),fun A outer s H args us vs Q E hr he hb hv hs=>F.run A outer s H args us vs Q E hr he hb hv (h _ _ _ _ hs)⟩
theorem Env0.make {P:Program}{w:World}{K:PySem.W.Frag}{mg:Str->Option Value}{base:Heap}{A:Around}{outer:List Env}{s:Shared}{H:Hp}(e:Env0 P w K mg base A outer s H) (C:Addr) (us:List Value) (kw:List (Str×Value)) :
  Env0 P w K mg base (A.under (.builtin "type.__call__" ⟨.ref C::us,kw⟩)) outer s H:=⟨by first|exact e.frames|(simpa [Around.under,Code.envs,Code.isFrame,pushEnvs] using e.frames),e.mod,e.bs,e.bsz,e.funs,e.frf,e.hok,e.bare⟩
section
variable {X:Cx}{pins:List (Addr×Obj)}{U:St}{H:Hp}{s s':Shared}
theorem Inv.env0 (I:Inv X pins U H s):Env0 X.prog X.w X.K X.mg X.base X.A X.stack s H :=
 ⟨I.ok.frames,I.ok.mod,I.bs,Nat.le_trans I.ok.bsz I.sz,I.stack,I.stkFree,I.hok,I.bare⟩
theorem Inv.after {Q:VK}{u:Value}(I:Inv X pins U H s) (h:CE X.stack X.prog X.w H s Q u s'):EP X pins U Q u s':=by
 obtain ⟨v,H',os,bare,un,hok,r,q⟩:=h
 obtain ⟨hh,g,d,t,os'⟩:=s'
 obtain rfl:os'=s.os:=os
 exact ⟨v,H',I.call (h':=hh) (g':=g) (d':=d) (t':=t) (ch:=[]) un hok bare (fun b z=>absurd z (by simp)),r,q⟩
end
def zdY (sp:Sp) (dvs:List V) (E:XK) (t:TA):TE:=fun U H Q=>t U H fun vs H1=>sp (vs++dvs) H1 Q E
def zi3 (C:Addr) (sp:Sp) (dvs:List V) (E:XK) (t:TA):TE:=fun U H Q=>t U H fun vs H1=>∀x dx,H1 x=none->H1 dx=none->dx≠x ->
 sp (.ref x::(vs++dvs)) (upd (upd H1 dx (.own x)) x (.ins C dx [])) (fun v H2=>v=.non/\Q (.ref x) H2) E
def Binds (K:PySem.W.Frag) (fd:FuncData) (ps:List Str) (ds:List Value):Prop :=
 ∀(s:Shared) (us:List Value),K.In s.heap->(us++ds).length=ps.length->BindsTo s fd ⟨us,[]⟩ (ps.zip (us++ds))
theorem Binds.all {K:PySem.W.Frag}{fd:FuncData}{ps:List Str}(h:∀us:List Value,us.length=ps.length->bindArgs fd ⟨us,[]⟩=pure (ps.zip us)):Binds K fd ps []:=fun s us _ hl=>by
 rw [List.append_nil] at hl ⊢
 exact .of_eq (h us hl)
def Passes (CX:CXT) (X:Cx) (E:XK):Prop:=∀(pins:List (Addr×Obj)) (U:St) (H:Hp) (s:Shared) (e:Value) (s':Shared),Inv X pins U H s->CX X.stack H s E e s'->X.xe e s'
section
variable {X:Cx}{CX:CXT}{k:Nat}{f C:Addr}{fd:FuncData}{ps:List Str}{sp:Sp}{dvs:List V}{ds:List Value}{E:XK}{x m:Str}{p pos apos:Pos}{e o:Expr}{es:List Expr}{ta:TE}{t:TA}
theorem zaK {pins:List (Addr×Obj)}{U:St}{H:Hp}{s:Shared}{Q:VK}{us:List Value}{vs:List V}(F:FnOk X.prog X.w X.K X.mg X.base CX k f fd ps sp) (hr:Room k X.A) (hb:Binds X.K fd ps ds) (hd:Vals dvs ds) (hx:Passes CX X E)
  (I:Inv X pins U H s) (r:Vals vs us) (h:sp (vs++dvs) H Q E):wpAny (model X.prog X.w) X.A (call (.ref f) us) (EP X pins U Q) X.xe s:=by
 have r2:Vals (vs++dvs) (us++ds):=r.append hd
 have hl:(us++ds).length=ps.length:=by rw [<-r2.length];exact F.len _ _ _ _ h
 refine wpAny_call (codeAny_mono (F.run X.A X.stack s H ⟨us,[]⟩ (us++ds) (vs++dvs) Q E hr I.env0 (hb s us I.kIn hl) r2 h) fun r s' hq=>?_)
 cases r with
 | error e=>exact hx pins U H s e s' I hq
 | ok fl =>
  cases fl with
  | ret u=>exact I.after hq
  | next=>exact False.elim hq
  | brk=>exact False.elim hq
  | cont=>exact False.elim hq
theorem zi4 (F:FnOk X.prog X.w X.K X.mg X.base CX k f fd ps sp) (hr:Room k X.A) (hg:Gl X x) (hm:X.mg x=some (.ref f)) (hk:PySem.W.keepIn X.K (.ref f)=true) (hb:Binds X.K fd ps ds) (hd:Vals dvs ds) (hx:Passes CX X E)
  (ha:PA X (e::es) t) (hdb:(x==("__debug__" : Str))=false:=by decide) (he:starEach (e::es) X.env=(false,eval e X.env)::starEach es X.env:=by rfl) (hpl:(backTo pos (starEach es X.env)).any (·.1)=false:=by rfl) :
  PE X (.Call (.Name x p) (e::es) [] pos) (zdY sp dvs E t):=by
 intro pins s U H Q I h
 refine wpAny_Call_Name_kw (jK I hg hm ?_ hdb)
 refine PySem.W.callWith_K (h₀:=X.base) I.ok.mod.kin hk (thn (ha pos pins s U H _ I h) fun us s1 ⟨vs,H1,I1,r,q⟩=>⟨I1.kIn,?_⟩) he hpl
 exact zaK F hr hb hd hx I1 r q
theorem zi5 (F:FnOk X.prog X.w X.K X.mg X.base CX k f fd ps sp) (hr:Room k X.A) (hg:Gl X x) (hm:X.mg x=some (.ref f)) (hk:PySem.W.keepIn X.K (.ref f)=true) (hb:Binds X.K fd ps ds) (hd:Vals dvs ds) (hx:Passes CX X E)
  (hdb:(x==("__debug__" : Str))=false:=by decide):PE X (.Call (.Name x p) [] [] pos) (zdY sp dvs E zbV):=by
 intro pins s U H Q I h
 refine wpAny_Call_Name_kw (jK I hg hm ?_ hdb)
 exact PySem.W.callWith_K0 I.kIn hk (zaK (us:=[]) F hr hb hd hx I .nil h)
structure Mk (K:PySem.W.Frag) (C f:Addr):Prop where
 makes:PySem.W.makesIn K C=true
 init:PySem.W.findIn K (.ref C) "__init__" = some (some (.ref f))
 fn:PySem.W.isFn K (.ref f)=true
 kp:PySem.W.keepIn K (.ref C)=true
theorem zi6 {pins:List (Addr×Obj)}{U:St}{H:Hp}{s:Shared}{Q:VK}{us:List Value}{vs:List V}(M:Mk X.K C f) (F:FnOk X.prog X.w X.K X.mg X.base CX k f fd ps sp) (hr:Room (k+1) X.A) (hb:Binds X.K fd ps ds) (hd:Vals dvs ds)
  (hx:Passes CX X E) (I:Inv X pins U H s) (r:Vals vs us)
  (h:∀x dx,H x=none->H dx=none->dx≠x->sp (.ref x::(vs++dvs)) (upd (upd H dx (.own x)) x (.ins C dx [])) (fun v H2=>v=.non/\Q (.ref x) H2) E) :
  wpAny (model X.prog X.w) X.A (call (.ref C) us) (EP X pins U Q) X.xe s:=by
 have hq:=h (s.heap.objs.size+1) s.heap.objs.size (I.hok.fresh (Nat.le_succ _)) (I.hok.fresh (Nat.le_refl _)) (Nat.ne_of_lt (Nat.lt_succ_self _))
 have I2:=Inv.made (C:=C) I
 have r2:Vals (V.ref (s.heap.objs.size+1)::(vs++dvs)) (Value.ref (s.heap.objs.size+1)::(us++ds)):=.cons rfl (r.append hd)
 have hl:(Value.ref (s.heap.objs.size+1)::us++ds).length=ps.length:=by
  have e:=r2.length
  rw [F.len _ _ _ _ hq] at e
  exact e.symm
 refine wpAny_call (ziQ (f:=f) I.kIn M.makes M.init (beq_iff_eq.mp M.fn) (codeAny_mono (F.run _ X.stack _ _ ⟨Value.ref (s.heap.objs.size+1)::us,[]⟩ (Value.ref (s.heap.objs.size+1)::(us++ds)) _ _ E (hr.make C us [])
  (I2.env0.make C us []) (hb _ (Value.ref (s.heap.objs.size+1)::us) I2.kIn hl) r2 hq) fun r s' hq'=>?_))
 cases r with
 | error e=>exact hx pins U _ _ e s' I2 hq'
 | ok fl =>
  cases fl with
  | ret u =>
   obtain ⟨v,H',I3,rv,ev,q3⟩:=I2.after hq'
   subst ev
   exact ⟨rv,⟨V.ref (s.heap.objs.size+1),H',I3,rfl,q3⟩⟩
  | next=>exact False.elim hq'
  | brk=>exact False.elim hq'
  | cont=>exact False.elim hq'
theorem zi7 (M:Mk X.K C f) (F:FnOk X.prog X.w X.K X.mg X.base CX k f fd ps sp) (hr:Room (k+1) X.A) (hg:Gl X x) (hm:X.mg x=some (.ref C)) (hb:Binds X.K fd ps ds) (hd:Vals dvs ds) (hx:Passes CX X E)
  (ha:PA X (e::es) t) (hdb:(x==("__debug__" : Str))=false:=by decide) (he:starEach (e::es) X.env=(false,eval e X.env)::starEach es X.env:=by rfl) (hpl:(backTo pos (starEach es X.env)).any (·.1)=false:=by rfl) :
  PE X (.Call (.Name x p) (e::es) [] pos) (zi3 C sp dvs E t):=by
 intro pins s U H Q I h
 refine wpAny_Call_Name_kw (jK I hg hm ?_ hdb)
 refine PySem.W.callWith_K (h₀:=X.base) I.ok.mod.kin M.kp (thn (ha pos pins s U H _ I h) fun us s1 ⟨vs,H1,I1,r,q⟩=>⟨I1.kIn,?_⟩) he hpl
 exact zi6 M F hr hb hd hx I1 r q
end
section
variable {X:Cx}{CX:CXT}{k:Nat}{f C:Addr}{fd:FuncData}{ps ks:List Str}{sp:Sp}{E:XK}{x m:Str}{p pos apos kpos:Pos}{e o:Expr}{es:List Expr}{kws:List Keyword}{te ta:TE}{t tk:TA}{nm:Option Str}
structure KBinds (K:PySem.W.Frag) (fd:FuncData) (ps ks:List Str) (g:List Value->List Value->List Value) (gV:List V->List V->List V):Prop where
 to:∀(s:Shared) (us ws:List Value),K.In s.heap->(g us ws).length=ps.length->BindsTo s fd ⟨us,ks.zip ws⟩ (ps.zip (g us ws))
 rel:∀{vs:List V} {us:List Value} {zs:List V} {ws:List Value},Vals vs us->Vals zs ws->Vals (gV vs zs) (g us ws)
variable {g:List Value->List Value->List Value}{gV:List V->List V->List V}
end
structure FnScope (N P:List Str) (sc:Scope):Prop where
 kind:sc.kind=.function
 co:sc.isCoroutine=false
 gen:sc.isGenerator=false
 nd:N.Nodup
 pre:N.take P.length=P
 par:∀x∈P,sc.names.lookup x=some .local\/sc.names.lookup x=some .cell
 nofree:∀y∈sc.names,y.2 ≠ .free
theorem zdZ {kindOf:Str->Option NameKind}{x:Str}:∀{binds:List (Str×Value)}{m:Str->Option Value},(∀v,(x,v)∉binds)->bindL kindOf binds m x=m x
 | [],_,_=>rfl
 | (n,v)::r,m,h=>by
  unfold bindL
  rw [zdZ fun w hw=>h w (List.mem_cons_of_mem _ hw)]
  split
  ·have:x≠n:=by rintro rfl;exact h v List.mem_cons_self
   simp [this]
  ·rfl
theorem zd0 {kindOf:Str->Option NameKind}{x:Str}:∀{binds:List (Str×Value)}{m:Str->Option Value},(∀v,(x,v)∉binds)->bindC kindOf binds m x=m x
 | [],_,_=>rfl
 | (n,v)::r,m,h=>by
  unfold bindC
  rw [zd0 fun w hw=>h w (List.mem_cons_of_mem _ hw)]
  split
  ·rfl
  ·have:x≠n:=by rintro rfl;exact h v List.mem_cons_self
   simp [this]
theorem zd1 {kindOf:Str->Option NameKind}{x:Str}{v:Value}:∀{P:List Str}{vs:List Value}{i:Nat}{m:Str->Option Value},P.Nodup->P[i]?=some x->vs[i]?=some v->kindOf x=some .local ->
  bindL kindOf (P.zip vs) m x=some v
 | [],_,_,_,_,h,_,_=>by simp at h
 | _::_,[],_,_,_,_,h,_=>by simp at h
 | p::P,w::vs,0,m,nd,h1,h2,hk=>by
  simp at h1 h2;subst h1;subst h2
  show bindL kindOf ((p,w)::P.zip vs) m p=_
  unfold bindL
  rw [zdZ fun v hv=>(List.nodup_cons.mp nd).1 (List.of_mem_zip hv).1,if_pos hk]
  simp
 | p::P,w::vs,i+1,m,nd,h1,h2,hk=>by
  show bindL kindOf ((p,w)::P.zip vs) m x=_
  unfold bindL
  exact zd1 (i:=i) (List.nodup_cons.mp nd).2 (by simpa using h1) (by simpa using h2) hk
theorem zd2 {kindOf:Str->Option NameKind}{x:Str}{v:Value}:∀{P:List Str}{vs:List Value}{i:Nat}{m:Str->Option Value},P.Nodup->P[i]?=some x->vs[i]?=some v->kindOf x≠some .local ->
  bindC kindOf (P.zip vs) m x=some v
 | [],_,_,_,_,h,_,_=>by simp at h
 | _::_,[],_,_,_,_,h,_=>by simp at h
 | p::P,w::vs,0,m,nd,h1,h2,hk=>by
  simp at h1 h2;subst h1;subst h2
  show bindC kindOf ((p,w)::P.zip vs) m p=_
  unfold bindC
  rw [zd0 fun v hv=>(List.nodup_cons.mp nd).1 (List.of_mem_zip hv).1,if_neg hk]
  simp
 | p::P,w::vs,i+1,m,nd,h1,h2,hk=>by
  show bindC kindOf ((p,w)::P.zip vs) m x=_
  unfold bindC
  exact zd2 (i:=i) (List.nodup_cons.mp nd).2 (by simpa using h1) (by simpa using h2) hk
def start (N:List Str) (vs:List V):St:=vs.map some++List.replicate (N.length-vs.length) none
def cxOf (CX:CXT) (P:Program) (w:World) (K:PySem.W.Frag) (mg:Str->Option Value) (base:Heap) (N:List Str) (qual:Str) (scope:Scope) (f:Addr) (cd:Value) (A:Around) (outer:List Env) (s:Shared) (H:Hp) (E:XK):Cx where
 prog:=P
 w:=w
 K:=K
 mg:=mg
 base:=base
 A:=A.deeper (envOfC qual scope s.heap.objs.size f cd)
 N:=N
 s₀:=s
 H₀:=H
 env:=envOfC qual scope s.heap.objs.size f cd
 outer:=outer
 stack:=envOfC qual scope s.heap.objs.size f cd::outer
 ex:=[]
 calm:=true
 fn:=fun _=>true
 pn:=[]
 xe:=fun e s'=>wpAny (model P w) (A.deeper (envOfC qual scope s.heap.objs.size f cd)) (leaving (envOfC qual scope s.heap.objs.size f cd) e) (fun _ s''=>CX outer H s E e s'') (fun e' s''=>CX outer H s E e' s'') s'
theorem zd3 {sc:Scope}{n:Nat}{x:Str}(h:sc.names.lookup x=some .cell):∃c,(cellsFrom n sc.names []).lookup x=some c:=by
 have q:=PySem.W.cellsFrom_some sc.names n [] (.inl h)
 exact Option.isSome_iff_exists.mp q
theorem zi8 {CX:CXT}{P:Program}{w:World}{K:PySem.W.Frag}{mg:Str->Option Value}{base:Heap}{N ps:List Str}{qual:Str}{scope:Scope}{f:Addr}{cd:Value}{A:Around}{outer:List Env}{s s1:Shared}{H:Hp}{E:XK}{us:List Value}{vs:List V}
  (S:FnScope N ps scope) (hd:A.handled=none) (e0:Env0 P w K mg base A outer s H) (hl:vs.length=ps.length) (r:Vals vs us)
  (x:InCallC s s.heap.objs.size (bindL (envOfC qual scope s.heap.objs.size f cd).kindOf (ps.zip us) fun _=>none) (cellsFrom (s.heap.objs.size+1) scope.names []) (bindC (envOfC qual scope s.heap.objs.size f cd).kindOf (ps.zip us) fun _=>none) s1) :
  Inv (cxOf CX P w K mg base N qual scope f cd A outer s H E) [] (start N vs) H s1:=by
 have hpl:ps.length<=N.length:=by have:=congrArg List.length S.pre;rw [List.length_take] at this;omega
 obtain ⟨h1,tk,rfl,hk⟩:=x.done
 have noA:∀b:Addr,b∉(cxOf CX P w K mg base N qual scope f cd A outer s H E).ex:=fun b z=>absurd (show b∈([]:List Addr) from z) (by simp)
 refine ⟨⟨e0.mod,S.kind,rfl,rfl,Nat.le_refl _,fun y z c h1 h2=>?_,fun y hy=>?_,fun y c _ h=>?_,fun _=>hd,Around.frames_deeper e0.frames,.inr ⟨rfl,rfl⟩,fun b z=>absurd z (noA b),e0.bs,e0.bsz,fun b _ _=>noA b,fun b z=>absurd z (noA b),e0.funs,e0.frf⟩,
  rfl,e0.bare,Un.kept hk,⟨_,x.toInCall.ns,fun i y v h1 h2 h3=>?_⟩,fun y c h=>⟨_,x.cell y c h⟩,e0.hok.fresh (Nat.le_refl _),fun y c h=>?_,fun p hp=>absurd (show p∈([]:List (Addr×Obj)) from hp) (by simp),e0.hok.kept hk,?_⟩
 ·exact name_of_addr x.apart (PySem.mem_of_lookup h1) (PySem.mem_of_lookup h2)
 ·have hy:scope.names.lookup y=some .cell\/scope.names.lookup y=some .free:=hy
  rcases hy with hy|hy
  ·exact zd3 hy
  ·exact absurd rfl (S.nofree _ (PySem.mem_of_lookup hy))
 ·exact Nat.le_of_lt (x.above y c (PySem.mem_of_lookup h))
 ·have hi:i<vs.length:=by
   unfold start at h2
   by_cases hi:i<vs.length
   ·exact hi
   ·rw [List.getElem?_append_right (by simpa using hi)] at h2
    rw [List.getElem?_replicate] at h2
    split at h2<;>cases h2
  have ha:vs[i]?=some v:=by
   unfold start at h2
   rw [List.getElem?_append_left (by simpa using hi),List.getElem?_map] at h2
   cases e:vs[i]? with
   | none=>rw [e] at h2;cases h2
   | some a=>rw [e] at h2;cases h2;rfl
  obtain ⟨u,hu,rv⟩:=r.get ha
  have hp:ps[i]?=some y:=by
   rw [<-S.pre,List.getElem?_take_of_lt (by omega)];exact h1
  have ndP:ps.Nodup:=by rw [<-S.pre];exact S.nd.sublist (List.take_sublist _ _)
  refine ⟨u,rv,?_⟩
  rcases S.par y (List.mem_of_getElem? hp) with k|k
  ·exact .inl ⟨k,zd1 ndP hp hu k⟩
  ·obtain ⟨c,e⟩:=zd3 (n:=s.heap.objs.size+1) k
   refine .inr ⟨.inl k,c,e,?_⟩
   have q:=x.cell y c e
   rw [zd2 ndP hp hu (by show scope.names.lookup y≠_;rw [k];decide)] at q
   exact q
 ·exact e0.hok.fresh (Nat.le_of_lt (x.above y c (PySem.mem_of_lookup h)))
 ·unfold start
  show _=N.length
  rw [List.length_append,List.length_map,List.length_replicate]
  omega
theorem zd4 {CX:CXT}{P:Program}{w:World}{K:PySem.W.Frag}{mg:Str->Option Value}{base:Heap}{k:Nat}{f:Addr}{name qual:Str}{params:Arguments}{body:List Stmt}{scope:Scope}{dV kV doc pm cdv ct oc:Value}{an od:Option Addr}
  {osl:Array (Option Value)} {N ps:List Str} {sp:Sp} (lk:K.lookup f=some ⟨oc,od,.func (PySem.W.fnOf name qual params body scope dV kV doc pm an cdv ct),osl⟩) (hcd:PySem.W.codeIn K cdv qual=true) (S:FnScope N ps scope)
  (len:∀vs H Q E,sp vs H Q E->vs.length=ps.length)
  (hbody:∀(A:Around) (outer:List Env) (s:Shared) (H:Hp) (vs:List V) (Q:VK) (E:XK),Room k (A.deeper (envOfC qual scope s.heap.objs.size f cdv))->sp vs H Q E ->
   ∃t,PSs (cxOf CX P w K mg base N qual scope f cdv A outer s H E) body t/\t { nx:=fun _ H'=>Q .non H',rt:=Q } (start N vs) H) :
  FnOk P w K mg base CX (k+1) f (PySem.W.fnOf name qual params body scope dV kV doc pm an cdv ct) ps sp:=by
 refine ⟨len,fun A outer s H args us vs Q E hr e0 hb r hsp=>?_⟩
 have hl:=len _ _ _ _ hsp
 have KX:K.In s.heap:=e0.mod.kin.keeps fun b o e=>(e0.bs b o e).1
 have lim:s.heap.NoLimit:=e0.mod.nolimit.keeps fun b o e=>(e0.bs b o e).1
 have hkind:∀y∈ps.zip us,scope.names.lookup y.1=some .local\/(scope.names.lookup y.1=some .cell/\((cellsFrom (s.heap.objs.size+1) scope.names []).lookup y.1).isSome=true):=fun ⟨n,v⟩ hy=>by
  rcases S.par n (List.of_mem_zip hy).1 with q|q
  ·exact .inl q
  ·exact .inr ⟨q,PySem.W.cellsFrom_some _ _ _ (.inl q)⟩
 refine codeAny_call_function hr.depth (KX _ _ lk) rfl S.co S.gen rfl (PySem.W.codeRec_of KX hcd) (hb _ _ _ _ ?_)
 refine wpAny_newFunctionEnv_cells S.kind hkind fun env he s1 x=>?_
 subst he
 refine ⟨lim.keeps x.toInCall.keep,codeAny_func ?_⟩
 obtain ⟨t,ht,hq⟩:=hbody A outer s H vs Q E (hr.deeper _) hsp
 have I:Inv (cxOf CX P w K mg base N qual scope f cdv A outer s H E) [] (start N vs) H s1:=zi8 S hr.hd e0 hl r x
 refine wpAny_mono (ht [] s1 (start N vs) H _ I hq) (fun fl s' hs=>?_) fun e s' hs=>hs
 have fin:∀{ag:St} {H':Hp} {v:V} {u:Value},Inv (cxOf CX P w K mg base N qual scope f cdv A outer s H E) [] ag H' s'->RelV v u->Q v H'->CE outer P w H s Q u s' :=
  fun {ag H' v u} J rv q=>⟨v,H',J.os,J.bare,J.base,J.hok,rv,q⟩
 cases fl with
 | ret u =>
  obtain ⟨v,ag,H',J,rv,q⟩:=hs
  exact fin J rv q
 | next =>
  obtain ⟨ag,H',J,q⟩:=hs
  exact fin (v:=V.non) (u:=Value.none) J rfl q
 | brk =>
  obtain ⟨_,_,_,q⟩:=hs
  exact False.elim q
 | cont =>
  obtain ⟨_,_,_,q⟩:=hs
  exact False.elim q
section
variable {X:Cx}{x:Str}{p pos:Pos}{e:Expr}{es:List Expr}{t:TA}{id T:String}{r:List V->Hp->VK->Prop}
def tCB (r:List V->Hp->VK->Prop) (t:TA):TE:=fun U H Q=>t U H fun vs H1=>r vs H1 Q
theorem zi9 (hc:CallR X (.builtin id) r) (hg:Gl X x) (hm:X.mg x=none) (hv:bootBuiltins x=some (.builtin id)) (ha:PA X (e::es) t) (hn:x ≠ "__name__" := by decide) (hdb:(x==("__debug__" : Str))=false:=by decide)
  (he:starEach (e::es) X.env=(false,eval e X.env)::starEach es X.env:=by rfl) (hpl:(backTo pos (starEach es X.env)).any (·.1)=false:=by rfl):PE X (.Call (.Name x p) (e::es) [] pos) (tCB r t):=by
 intro pins s U H Q I h
 refine wpAny_Call_Name_kw (we I hg hm hv ?_ hn hdb)
 exact PyProof.Rows.callWith_builtin1 (thn (ha pos pins s U H _ I h) fun us s1 ⟨vs,H1,I1,r1,q1⟩=>hc pins s1 U H1 vs us Q I1 r1 q1) he hpl
theorem zja (hc:CallR X (.type T) r) (hg:Gl X x) (hm:X.mg x=none) (hv:bootBuiltins x=some (.type T)) (ha:PA X (e::es) t) (hn:x ≠ "__name__" := by decide) (hdb:(x==("__debug__" : Str))=false:=by decide)
  (he:starEach (e::es) X.env=(false,eval e X.env)::starEach es X.env:=by rfl) (hpl:(backTo pos (starEach es X.env)).any (·.1)=false:=by rfl):PE X (.Call (.Name x p) (e::es) [] pos) (tCB r t):=by
 intro pins s U H Q I h
 refine wpAny_Call_Name_kw (we I hg hm hv ?_ hn hdb)
 exact PyProof.Rows.callWith_type1 (thn (ha pos pins s U H _ I h) fun us s1 ⟨vs,H1,I1,r1,q1⟩=>hc pins s1 U H1 vs us Q I1 r1 q1) he hpl
end
end L2
namespace HT
open PySem PyProof.Rows
section
open PySem.SeqAt
open PySem.AutoSeq1 (wpAny_loadPart')
open PySem.MeetsSeq PySem.MeetsSeq2 PySem.MeetsSeq3
end
section
variable {prog:Program}{w:World}{A:Around}{E:Value->Shared->Prop}{s:Shared}
theorem cat_tup {t b:Addr}{vs ws:List Value}{Q:Value->Shared->Prop}(ht:IsTup s.heap t vs.toArray) (hb:IsTup s.heap b ws.toArray) (hv:vs≠[])
  (h1:ws=[]->Q (.ref t) s) (h2:ws≠[]->Q (.ref s.heap.objs.size) { s with heap:=s.heap.push { cls:=.type "tuple", data:=.seq (vs++ws).toArray } })
  (hsz:vs.length+ws.length<=sizeLine):wpAny (model prog w) A (binaryOp .Add (.ref t) (.ref b)) Q E s:=by
 obtain ⟨⟨cls,dd,data,sl⟩,ho,hc,n,hd⟩:=id ht
 obtain ⟨⟨cls2,dd2,data2,sl2⟩,ho2,hc2,n2,hd2⟩:=id hb
 simp only at hc hd hc2 hd2
 subst hc hd hc2 hd2
 have e:vs.toArray++ws.toArray=(vs++ws).toArray:=by simp
 by_cases hw:ws=[]
 ·exact concat_meets ⟨_,ho,rfl⟩ ⟨_,ho2,rfl⟩ noFill_tuple_add seq_tuple_add PySem.F.slot_tuple_add PySem.F.entry_tuple_add (PySem.F.args_tuple_add_2 _ _)
   (tuple_addW1 t b vs.toArray ws.toArray n n2 dd dd2 sl sl2 (by simpa using hv) (by simp [hw])) ⟨ho,ho2,h1 hw⟩
 ·refine concat_meets ⟨_,ho,rfl⟩ ⟨_,ho2,rfl⟩ noFill_tuple_add seq_tuple_add PySem.F.slot_tuple_add PySem.F.entry_tuple_add (PySem.F.args_tuple_add_2 _ _)
   (tuple_addW2 t b vs.toArray ws.toArray n n2 dd dd2 sl sl2 (by simpa using hv) (by simpa using hw) (by rw [List.size_toArray,List.size_toArray];exact hsz)) ⟨ho,ho2,?_⟩
  rw [e]
  exact h2 hw
def sIx (n d:Nat):Option Int->Nat
 | none=>d
 | some v=>if v<0 then (v+(n:Int)).toNat else min v.toNat n
theorem zjb (n d:Nat) (hd:d<=n) (o:Option Int):sIx n d o<=n:=by
 cases o with
 | none=>exact hd
 | some v =>
  show (if v<0 then (v+(n:Int)).toNat else min v.toNat n)<=n
  by_cases hv:v<0
  ·rw [if_pos hv];omega
  ·rw [if_neg hv];exact Nat.min_le_right _ _
theorem zd6 (v:Int) (n d:Nat):(if v<0 then max (v+(n:Int)) 0 else min v (n:Int))=((sIx n d (some v):Nat):Int):=by
 show (if v<0 then max (v+(n:Int)) 0 else min v (n:Int))=(((if v<0 then (v+(n:Int)).toNat else min v.toNat n):Nat):Int)
 by_cases hv:v<0
 ·simp only [if_pos hv];omega
 ·simp only [if_neg hv];omega
theorem zjc (lo hi:Option Int) (n:Nat):Builtin.Slice.sliceAdjust lo hi 1 (n:Int)=(((sIx n 0 lo:Nat):Int),((sIx n n hi:Nat):Int)):=by
 have h1:¬((1:Int)<0):=by omega
 unfold Builtin.Slice.sliceAdjust
 simp only [h1,if_false]
 refine Prod.ext ?_ ?_
 ·cases lo with
  | none=>rfl
  | some v=>exact zd6 v n 0
 ·cases hi with
  | none=>rfl
  | some v=>exact zd6 v n n
theorem zjd (i j:Nat):Builtin.Slice.slicePlaces (i:Int) (j:Int) 1=j-i:=by
 unfold Builtin.Slice.slicePlaces
 have h1:(1:Int)>0:=by omega
 simp only [h1,if_true,Int.ediv_one]
 split<;>omega
theorem zd7 {v:Value}{o:Option Int}{Q:Option Int->Shared->Prop}(p:IsPart v o) (h:Q o s):wpAny (model prog w) A (Builtin.Slice.slicePartIndex v) Q E s:=by
 cases p with
 | none=>exact slicePart_none h
 | int i t=>exact slicePart_int h
theorem zd8 {sl:Addr}{vl vu:Value}{lo hi:Option Int}{n:Nat}{Q:Int×Int×Nat->Shared->Prop}(hs:s.heap.IsSliceOf sl vl vu .none) (pl:IsPart vl lo) (pu:IsPart vu hi)
  (h:Q (((sIx n 0 lo:Nat):Int),1,sIx n n hi-sIx n 0 lo) s):wpAny (model prog w) A (Builtin.Slice.sliceApplied (.ref sl) (pure (n:Int))) Q E s:=by
 obtain ⟨os,hos,hcs,hds⟩:=id hs
 unfold Builtin.Slice.sliceApplied Builtin.Slice.sliceFields
 refine wpAny_bind (wpAny_bind (wpAny_field hos hds (x:=vl) rfl (wpAny_bind (wpAny_field hos hds (x:=vu) rfl (wpAny_bind (wpAny_field hos hds (x:=.none) rfl (wpAny_pure ?_)))))))
 refine wpAny_bind (slicePart_none ?_)
 show wpAny _ _ (if ((1:Int)==0)=true then _ else _) _ _ s
 rw [if_neg (by decide)]
 refine wpAny_bind (zd7 pl (wpAny_bind (zd7 pu (wpAny_bind (wpAny_pure ?_)))))
 show wpAny _ _ (match Builtin.Slice.sliceAdjust lo hi 1 (n:Int) with|(lo,hi)=>pure (lo,(1:Int),Builtin.Slice.slicePlaces lo hi 1)) _ _ s
 rw [zjc lo hi n]
 show wpAny _ _ (pure (((sIx n 0 lo:Nat):Int),(1:Int),Builtin.Slice.slicePlaces ((sIx n 0 lo:Nat):Int) ((sIx n n hi:Nat):Int) 1)) _ _ s
 rw [zjd]
 exact wpAny_pure h
theorem zje (xs:Array Value) (i k:Nat):((List.range k).filterMap fun (m:Nat)=>xs[((i:Int)+(m:Int)*1).toNat]?).toArray=((xs.toList.drop i).take k).toArray:=by
 have e:(fun (m:Nat)=>xs[((i:Int)+(m:Int)*1).toNat]?)=fun m=>xs[i+m]?:=by
  funext m
  have:((i:Int)+(m:Int)*1).toNat=i+m:=by omega
  rw [this]
 rw [e]
 have:=pick_run xs i k
 rw [List.filterMap_map] at this
 have e2:((fun x=>xs[x]?)∘fun x=>i+x)=fun m=>xs[i+m]?:=rfl
 rw [e2] at this
 rw [this]
theorem getItem_tuple_cut {t sl:Addr}{items:Array Value}{vl vu:Value}{lo hi:Option Int}{Q:Value->Shared->Prop}(ht:IsTup s.heap t items) (hs:s.heap.IsSliceOf sl vl vu .none) (pl:IsPart vl lo) (pu:IsPart vu hi)
  (hw:¬(sIx items.size 0 lo=0/\sIx items.size items.size hi=items.size))
  (h:Q (.ref s.heap.objs.size) { s with heap:=s.heap.push { cls:=.type "tuple", data:=.seq ((items.toList.drop (sIx items.size 0 lo)).take (sIx items.size items.size hi-sIx items.size 0 lo)).toArray } })
  (hsz:items.size<=sizeLine):wpAny (model prog w) A (getItem (.ref t) (.ref sl)) Q E s:=by
 have htake:sizeOk (.seq ((items.toList.drop (sIx items.size 0 lo)).take (sIx items.size items.size hi-sIx items.size 0 lo)).toArray):=by
  show ((items.toList.drop (sIx items.size 0 lo)).take (sIx items.size items.size hi-sIx items.size 0 lo)).toArray.size<=sizeLine
  rw [List.size_toArray,List.length_take,List.length_drop,Array.length_toList]
  omega
 have hj:sIx items.size items.size hi<=items.size:=zjb _ _ (Nat.le_refl _) hi
 obtain ⟨os,hos,hcs,hds⟩:=id hs
 have hTs:s.TypeIs (.ref sl) "slice" := ⟨os,hos,hcs⟩
 unfold getItem
 try with_reducible refine wpAny_holding ?_
 first|refine wpAny_bind (wpAny_pure ?_)|skip
 refine wpAny_bind (wpAny_sequenceKey ht.typeIs (by decide) ?_)
 refine wpAny_bind (wpAny_callSpecial?_slot (name:=Str.ofString "__getitem__") ht.typeIs PyProof.Rows.slot_tuple_getitem
  (wpAny_call_entry PyProof.Rows.slot_tuple_getitem ht.typeIs entry_tuple_getitem ?_ (args_tuple_getitem _ _)))
 show wpAny _ _ (Builtin.Tuple.tupleItemsOf (.ref t) >>= _) _ _ s
 refine wpAny_bind (tupleItemsOf_ ht ?_)
 refine wpAny_bind (wpAny_typeOf hTs ?_)
 rw [if_pos (by decide)]
 refine wpAny_bind (zd8 hs pl pu ?_)
 have hno:¬((((sIx items.size 0 lo:Nat):Int)==0&&(1:Int)==1&&(sIx items.size items.size hi-sIx items.size 0 lo)==items.size)=true):=by
  intro q
  rw [Bool.and_eq_true,Bool.and_eq_true] at q
  have q1:((sIx items.size 0 lo:Nat):Int)=0:=eq_of_beq q.1.1
  have q2:sIx items.size items.size hi-sIx items.size 0 lo=items.size:=eq_of_beq q.2
  exact hw ⟨by omega,by omega⟩
 show wpAny _ _ (if (((sIx items.size 0 lo:Nat):Int)==0&&(1:Int)==1&&(sIx items.size items.size hi-sIx items.size 0 lo)==items.size)=true then _ else _) _ _ s
 rw [if_neg hno,zje]
 first
  | exact wpAny_bind (m:=Builtin.Tuple.tupleExact _) (wpAny_newObj_type (wpAny_pure ⟨_,rfl,wpAny_pure h⟩) htake)
  | exact wpAny_bind (m:=Builtin.Tuple.tupleExact _) (wpAny_newObj_type (wpAny_bind (wpAny_pure (wpAny_pure ⟨_,rfl,wpAny_pure h⟩))) htake)
  | exact wpAny_bind (wpAny_bind (m:=Builtin.Tuple.tupleExact _) (wpAny_newObj_type (wpAny_pure (wpAny_pure ⟨_,rfl,wpAny_pure h⟩)) htake))
  | exact wpAny_bind (wpAny_bind (m:=Builtin.Tuple.tupleExact _) (wpAny_newObj_type (wpAny_pure ⟨_,rfl,wpAny_pure h⟩) htake))
end
end HT
namespace L2
open PySem PySem.Spec PyProof.Rows
abbrev TO:=St->Hp->(Option Int->Hp->Prop)->Prop
def PO (X:Cx) (e:Option Expr) (t:TO):Prop :=
 ∀(pins:List (Addr×Obj)) (s:Shared) (U:St) (H:Hp) (Q:Option Int->Hp->Prop),Inv X pins U H s->t U H Q ->
  wpAny (model X.prog X.w) X.A (evalPart e X.env) (fun u s'=>∃o H',Inv X pins U H' s'/\IsPart u o/\Q o H') X.xe s
def zjf:TO:=fun _ H Q=>Q none H
def zjg (t:TE):TO:=fun U H Q=>t U H fun x H1=>∃i,x=.int i/\Q (some i) H1
section
variable {X:Cx}{e:Expr}{te:TE}{lo hi:Option Expr}{tl th:TO}{pos p2:Pos}
theorem zjh:PO X none zjf:=by
 intro pins s U H Q I h
 rw [evalPart_none]
 exact wpAny_pure ⟨none,H,I,.none,h⟩
theorem zji (h:PE X e te):PO X (some e) (zjg te):=by
 intro pins s U H Q I hw
 rw [evalPart_some]
 refine thn (h pins s U H _ I hw) fun u s1 ⟨x,H1,I1,r1,q1⟩=>?_
 obtain ⟨i,rfl,q⟩:=q1
 obtain ⟨t,rfl⟩:=r1
 exact ⟨some i,H1,I1,.int i t,q⟩
def SlR (X:Cx) (r:V->Option Int->Option Int->Hp->VK->Prop):Prop :=
 ∀(pins:List (Addr×Obj)) (s:Shared) (U:St) (H:Hp) (x:V) (v vl vu:Value) (lo hi:Option Int) (sl:Addr) (Q:VK),Inv X pins U H s->RelV x v->s.heap.IsSliceOf sl vl vu .none->IsPart vl lo->IsPart vu hi->r x lo hi H Q ->
  ∃T id,typeLookup (.type T) "__getitem__" = pure (some (.builtin id))/\s.TypeIs v T/\wpAny (model X.prog X.w) X.A (getItem v (.ref sl)) (EP X pins U Q) X.xe s
theorem SlR.or {r r':V->Option Int->Option Int->Hp->VK->Prop}(h:SlR X r) (h':SlR X r'):SlR X (fun x lo hi H Q=>r x lo hi H Q\/r' x lo hi H Q):=by
 intro pins s U H x v vl vu lo hi sl Q I rx hs pl pu q
 rcases q with q|q
 ·exact h pins s U H x v vl vu lo hi sl Q I rx hs pl pu q
 ·exact h' pins s U H x v vl vu lo hi sl Q I rx hs pl pu q
def tSl (r:V->Option Int->Option Int->Hp->VK->Prop) (te:TE) (tl th:TO):TE:=fun U H Q=>te U H fun x H1=>tl U H1 fun l H2=>th U H2 fun u H3=>r x l u H3 Q
theorem zjk {r:V->Option Int->Option Int->Hp->VK->Prop}(hr:SlR X r) (he:PE X e te) (hl:PO X lo tl) (hu:PO X hi th):PE X (.Subscript e (.Slice lo hi none p2) pos) (tSl r te tl th):=by
 intro pins s U H Q I h
 refine Subscript_ (thn (he pins s U H _ I h) fun v s1 ⟨x,H1,I1,r1,q1⟩=>?_)
 refine wpAny_Slice (thn (hl pins s1 U H1 _ I1 q1) fun vl s2 ⟨l,H2,I2,pl,q2⟩=>thn (hu pins s2 U H2 _ I2 q2) fun vu s3 ⟨u,H3,I3,pu,q3⟩=>?_)
 rw [evalPart_none]
 refine wpAny_pure ?_
 have I4:Inv X pins U H3 { s3 with heap:=s3.heap.push { cls:=.type "slice", data:=.fields #[vl,vu,.none] } }:=I3.kept (t':=s3.toks) fun b ob q=>Heap.get?_push_of_some _ q
 obtain ⟨T,id,hT,ht,hg⟩:=hr pins { s3 with heap:=s3.heap.push { cls:=.type "slice", data:=.fields #[vl,vu,.none] } } U H3 x v vl vu l u s3.heap.objs.size Q I4 r1 (Heap.IsSliceOf.new ..) pl pu q3
 show wpAny (model X.prog X.w) X.A (subscriptTail e (.Slice lo hi none p2) v (.ref s3.heap.objs.size)) (EP X pins U Q) X.xe { s3 with heap:=s3.heap.push { cls:=.type "slice", data:=.fields #[vl,vu,.none] } }
 exact tail_any (ops:=[.ref s3.heap.objs.size,v]) ht hT hg (by with_unfolding_all rfl)
def cutV (xs:List V) (lo hi:Option Int):List V:=(xs.drop (HT.sIx xs.length 0 lo)).take (HT.sIx xs.length xs.length hi-HT.sIx xs.length 0 lo)
theorem zd9 (xs:List V) (lo hi:Option Int):(cutV xs lo hi).length<=xs.length:=by
 unfold cutV
 rw [List.length_take,List.length_drop]
 omega
def zjl (K:PySem.W.Frag):V->Option Int->Option Int->Hp->VK->Prop:=fun x lo hi H Q=>∃a xs,x=.ref a/\SqT K H a xs /\
 ¬(HT.sIx xs.length 0 lo=0/\HT.sIx xs.length xs.length hi=xs.length)/\∀p,H p=none->Q (.ref p) (upd H p (.tup (cutV xs lo hi)))
theorem zjm:SlR X (zjl X.K):=by
 intro pins s U H x v vl vu lo hi sl Q I rx hs pl pu h
 obtain ⟨a,xs,rfl,hx,hw,q⟩:=h
 cases rx
 obtain ⟨its,r,ht,hz⟩:=I.tuple hx
 have hlen:its.toArray.size=xs.length:=by rw [List.size_toArray];exact r.length.symm
 refine ⟨"tuple", _,PyProof.Rows.slot_tuple_getitem.lookup,ht.typeIs,?_⟩
 refine HT.getItem_tuple_cut ht hs pl pu (by rw [hlen];exact hw) ?_ (by rw [hlen];exact hz)
 rw [hlen]
 refine ⟨.ref s.heap.objs.size,_,I.laid (t':=s.toks) (o:=.tup (cutV xs lo hi)) (fun b ob q=>Heap.get?_push_of_some _ q) (Nat.le_refl _) ?_,rfl,q _ (I.hok.fresh (Nat.le_refl _))⟩
 exact ⟨Nat.le_trans (zd9 xs lo hi) hz,_,(r.drop (HT.sIx xs.length 0 lo)).take (HT.sIx xs.length xs.length hi-HT.sIx xs.length 0 lo),IsTup.new _ _⟩
def zjn (K:PySem.W.Frag):R2:=fun x y H Q=>∃a b xs ys,x=.ref a/\y=.ref b/\SqT K H a xs/\SqT K H b ys/\xs≠[]/\xs.length+ys.length<=sizeLine /\
 (ys=[]->Q (.ref a) H)/\(ys≠[]->∀p,H p=none->Q (.ref p) (upd H p (.tup (xs++ys))))
theorem Vals.nil_iff {xs:List V}{us:List Value}(r:Vals xs us):us=[]↔xs=[]:=by
 cases r with
 | nil=>simp
 | cons _ _=>simp
theorem zjo:OpR X (binaryOp .Add) (zjn X.K):=by
 intro pins s U H x y v u Q I rx ry h
 obtain ⟨a,b,xs,ys,rfl,rfl,ha,hb,hx,hz,q1,q2⟩:=h
 cases rx
 cases ry
 obtain ⟨its,r1,p1,_⟩:=I.tuple ha
 obtain ⟨its2,r2,p2,_⟩:=I.tuple hb
 refine HT.cat_tup p1 p2 (fun z=>hx (r1.nil_iff.mp z)) (fun z=>⟨.ref a,H,I,rfl,q1 (r2.nil_iff.mp z)⟩) (fun z=>?_) (by rw [<-r1.length,<-r2.length];exact hz)
 refine ⟨.ref s.heap.objs.size,_,I.laid (t':=s.toks) (o:=.tup (xs++ys)) (fun b ob q=>Heap.get?_push_of_some _ q) (Nat.le_refl _) ?_,rfl,q2 (fun w=>z (r2.nil_iff.mpr w)) _ (I.hok.fresh (Nat.le_refl _))⟩
 exact ⟨by rw [List.length_append];exact hz,_,r1.append r2,IsTup.new _ _⟩
end
def ixN (n:Nat) (i:Int):Option Nat:=if 0<=i then (if i<n then some i.toNat else none) else if -(n:Int)<=i then some (i+n).toNat else none
def atI {α:Type}(xs:List α) (i:Int):Option α:=(ixN xs.length i).bind fun j=>xs[j]?
theorem zjp {n:Nat}{i:Int}{j:Nat}(h:ixN n i=some j):seqIndex? i n=some j/\j<n /\ -(n:Int)<=i/\i<n:=by
 unfold ixN at h
 by_cases h0:0<=i
 ·rw [if_pos h0] at h
  by_cases h1:i<n
  ·rw [if_pos h1] at h
   have e:i.toNat=j:=Option.some.inj h
   exact ⟨by rw [seqIndex_of h0 h1,e],by omega,by omega,h1⟩
  ·rw [if_neg h1] at h;cases h
 ·rw [if_neg h0] at h
  by_cases h1 : -(n:Int)<=i
  ·rw [if_pos h1] at h
   have e:(i+n).toNat=j:=Option.some.inj h
   exact ⟨by rw [seqIndex_neg (by omega) h1,e],by omega,h1,by omega⟩
  ·rw [if_neg h1] at h;cases h
theorem atI_get {α:Type}{xs:List α}{i:Int}{v:α}(h:atI xs i=some v):∃j,seqIndex? i xs.length=some j/\xs[j]?=some v/\j<xs.length /\ -(xs.length:Int)<=i/\i<xs.length:=by
 unfold atI at h
 cases e:ixN xs.length i with
 | none=>rw [e] at h;cases h
 | some j =>
  rw [e] at h
  obtain ⟨h1,h2,h3,h4⟩:=zjp e
  exact ⟨j,h1,h,h2,h3,h4⟩
def PlainIx (b:Expr):Prop:=∀o i,subscripted b false o i=operate [o,i] (getItem o i)
def IxR (X:Cx) (r:R2):Prop :=
 ∀(value slice:Expr) (pins:List (Addr×Obj)) (s:Shared) (U:St) (H:Hp) (x y:V) (v u:Value) (Q:VK),Inv X pins U H s->RelV x v->RelV y u->r x y H Q ->
  subscripted slice false v u=operate [v,u] (getItem v u)->wpAny (model X.prog X.w) X.A (subscriptTail value slice v u) (EP X pins U Q) X.xe s
def MtR (X:Cx) (id:String) (r:V->List V->Hp->VK->Prop):Prop :=
 ∀(pins:List (Addr×Obj)) (s:Shared) (U:St) (H:Hp) (x:V) (xs:List V) (v:Value) (us:List Value) (Q:VK),Inv X pins U H s->RelV x v->Vals xs us->r x xs H Q ->
  wpAny (model X.prog X.w) X.A (call (.builtin id) (v::us)) (EP X pins U Q) X.xe s
section
variable {X:Cx}{a b:Expr}{ta tb:TE}{pos:Pos}
theorem IxR.or {r r':R2}(h:IxR X r) (h':IxR X r'):IxR X (fun x y H Q=>r x y H Q\/r' x y H Q):=by
 intro value slice pins s U H x y v u Q I rx ry q hs
 rcases q with q|q
 ·exact h value slice pins s U H x y v u Q I rx ry q hs
 ·exact h' value slice pins s U H x y v u Q I rx ry q hs
theorem zea {r:R2}(hr:IxR X r) (ha:PE X a ta) (hb:PE X b tb) (hs:PlainIx b):PE X (.Subscript a b pos) (wV r ta tb):=by
 intro pins s U H Q I h
 exact Subscript_ (binT ha hb I h fun v u s2 x y H2 I2 rx ry q=>hr a b pins s2 U H2 x y v u Q I2 rx ry q (hs _ _))
def zeb (K:PySem.W.Frag):R2:=fun x y H Q=>∃p xs i v,x=.ref p/\y=.int i/\SqL K H p xs/\atI xs i=some v/\Q v H
def zec (K:PySem.W.Frag):R2:=fun x y H Q=>∃p xs i v,x=.ref p/\y=.int i/\SqT K H p xs/\atI xs i=some v/\Q v H
def zed:R2:=fun x y H Q=>∃z i c,x=.str z/\y=.int i/\z.length<=sizeLine/\atI z.cps.toList i=some c/\Q (.str ⟨#[c]⟩) H
theorem zjq:IxR X (zeb X.K):=by
 intro value slice pins s U H x y v u Q I rx ry h hs
 obtain ⟨p,xs,i,z,rfl,rfl,hq,he,q⟩:=h
 cases rx
 obtain ⟨t,rfl⟩:=ry
 obtain ⟨its,r,pl,hz⟩:=I.list hq
 obtain ⟨j,h1,h2,h3,h4,h5⟩:=atI_get he
 obtain ⟨w,ew,rw'⟩:=r.get h2
 have hl:=r.length
 have hn:=zaI
 have fin:EP X pins U Q w s:=⟨z,H,I,rw',q⟩
 by_cases h0:0<=i
 ·have hj:i.toNat=j:=by
   rw [seqIndex_of h0 h5] at h1
   exact Option.some.inj h1
  exact item_listR pl.isList h0 (by omega) (by rw [hj];simpa using ew) fin hs
 ·have hj:(i+(its.toArray.size:Int)).toNat=j:=by
   rw [seqIndex_neg (by omega) h4] at h1
   rw [List.size_toArray,<-hl]
   exact Option.some.inj h1
  exact subscriptTail_builtinR (x:=w) pl.isList.typeIs slot_list_getitem.lookup
   (wpAny_getItem_list_neg (Q:=fun r s'=>r=w/\EP X pins U Q r s') pl.isList (by omega) (by rw [List.size_toArray]<;>omega) (by omega) (by rw [hj];simpa using ew) ⟨rfl,fin⟩) hs
theorem zjr:IxR X (zec X.K):=by
 intro value slice pins s U H x y v u Q I rx ry h hs
 obtain ⟨p,xs,i,z,rfl,rfl,hq,he,q⟩:=h
 cases rx
 obtain ⟨t,rfl⟩:=ry
 obtain ⟨its,r,pl,hz⟩:=I.tuple hq
 obtain ⟨j,h1,h2,h3,h4,h5⟩:=atI_get he
 obtain ⟨w,ew,rw'⟩:=r.get h2
 have hl:=r.length
 have hn:=zaI
 have fin:EP X pins U Q w s:=⟨z,H,I,rw',q⟩
 exact subscriptTail_builtinR (x:=w) pl.typeIs slot_tuple_getitem.lookup
  (getItem_tuple (j:=j) (Q:=fun r s'=>r=w/\EP X pins U Q r s') pl (by omega) (by omega) (by rw [List.size_toArray,<-hl];exact h1) (by simpa using ew) ⟨rfl,fin⟩) hs
theorem zjs:IxR X zed:=by
 intro value slice pins s U H x y v u Q I rx ry h hs
 obtain ⟨z,i,c,rfl,rfl,hz,he,q⟩:=h
 obtain ⟨t,rfl⟩:=rx
 obtain ⟨t',rfl⟩:=ry
 obtain ⟨j,h1,h2,h3,h4,h5⟩:=atI_get he
 have hl:z.cps.toList.length=z.length:=by simp [Str.length]
 rw [hl] at h1 h4 h5
 have hn:=zaI
 exact tail_any (typeIs_str s z t) slot_str_getitem.lookup (getItem_str (c:=c) (by
  have e1:decide (i < -(2 ^ 63:Int))=false:=decide_eq_false (by omega)
  have e2:decide (i>=2 ^ 63)=false:=decide_eq_false (by omega)
  rw [e1,e2,Bool.or_false]) (by rw [h1];simpa using h2) ⟨.str ⟨#[c]⟩,H,I.tok _,⟨_,rfl⟩,q⟩) hs
def rIx (K:PySem.W.Frag):R2:=fun x y H Q=>zeb K x y H Q\/zec K x y H Q\/zed x y H Q
theorem zju:IxR X (rIx X.K):=zjq.or (zjr.or zjs)
theorem zjv (lo hi:Option Int) (n:Nat):(sliceBounds lo hi none n).1=((HT.sIx n 0 lo:Nat):Int)/\(sliceBounds lo hi none n).2.1=((HT.sIx n n hi:Nat):Int)/\(sliceBounds lo hi none n).2.2=1:=by
 refine ⟨?_,?_,rfl⟩
 ·cases lo with
  | none=>simp [sliceBounds,HT.sIx]
  | some i =>
   simp only [sliceBounds,HT.sIx,Option.getD_none,show (1:Int)>0 by decide,if_true]
   by_cases h:i<0
   ·simp only [h,if_true]<;>omega
   ·simp only [h,if_false]<;>omega
 ·cases hi with
  | none=>simp [sliceBounds,HT.sIx]
  | some i =>
   simp only [sliceBounds,HT.sIx,Option.getD_none,show (1:Int)>0 by decide,if_true]
   by_cases h:i<0
   ·simp only [h,if_true]<;>omega
   ·simp only [h,if_false]<;>omega
theorem zjw (its:List Value) (lo hi:Option Int):slicePick its.toArray lo hi none=((its.drop (HT.sIx its.length 0 lo)).take (HT.sIx its.length its.length hi-HT.sIx its.length 0 lo)).toArray:=by
 obtain ⟨h1,h2,h3⟩:=zjv lo hi its.toArray.size
 unfold slicePick
 rw [h1,h2,h3]
 simp only [sliceRange_one,pick_run,List.size_toArray]<;>rfl
def zjx (K:PySem.W.Frag):V->Option Int->Option Int->Hp->VK->Prop:=fun x lo hi H Q=>∃a xs,x=.ref a/\SqL K H a xs/\∀p,H p=none->Q (.ref p) (upd H p (.lst (cutV xs lo hi)))
theorem zjy:SlR X (zjx X.K):=by
 intro pins s U H x v vl vu lo hi sl Q I rx hs pl pu h
 obtain ⟨a,xs,rfl,hx,q⟩:=h
 cases rx
 obtain ⟨its,r,ht,hz⟩:=I.list hx
 have hlen:=r.length
 refine ⟨"list", _,slot_list_getitem.lookup,ht.isList.typeIs,?_⟩
 refine wpAny_getItem_list_slice ht.isList hs pl pu .none (by simp) ?_ (by rw [List.size_toArray]<;>omega)
 rw [zjw,<-hlen]
 refine ⟨.ref s.heap.objs.size,_,I.laid (t':=s.toks) (o:=.lst (cutV xs lo hi)) (fun b ob q=>Heap.get?_push_of_some _ q) (Nat.le_refl _) ?_,rfl,q _ (I.hok.fresh (Nat.le_refl _))⟩
 exact ⟨Nat.le_trans (zd9 xs lo hi) hz,_,0,(r.drop (HT.sIx xs.length 0 lo)).take (HT.sIx xs.length xs.length hi-HT.sIx xs.length 0 lo),Heap.get?_push_size _ rfl⟩
theorem zjz:OpR X (compareOp .NotIn) (fun x y H Q=>∃i j,x=.str i/\y=.str j/\Q (.bl (!(!(Builtin.Str.occurrences j i 0 j.length 1).isEmpty))) H):=by
 intro pins s U H x y v u Q I rx ry h
 obtain ⟨i,j,rfl,rfl,q⟩:=h
 obtain ⟨t,rfl⟩:=rx
 obtain ⟨t',rfl⟩:=ry
 exact notIn_str ⟨.bl _,H,I,rfl,q⟩
theorem CallR.or {f:Value}{r r':List V->Hp->VK->Prop}(h:CallR X f r) (h':CallR X f r'):CallR X f (fun xs H Q=>r xs H Q\/r' xs H Q):=by
 intro pins s U H xs us Q I rs q
 rcases q with q|q
 ·exact h pins s U H xs us Q I rs q
 ·exact h' pins s U H xs us Q I rs q
theorem zjA:CallR X (.type "list") (fun xs H Q=>∃p ys,xs=[.ref p]/\(SqL X.K H p ys\/SqT X.K H p ys)/\∀l,H l=none->Q (.ref l) (upd H l (.lst ys))):=by
 intro pins s U H xs us Q I r h
 obtain ⟨p,ys,rfl,hq,q⟩:=h
 obtain ⟨u,rfl,rx⟩:=jx r
 cases rx
 have fin:∀(its:List Value),Vals ys its->ys.length<=sizeLine->∀(h':Heap) (c':Nat),(∀b o',s.heap.get? b=some o'->h'.get? b=some o') ->
   h'.get? s.heap.objs.size=some { cls:=.type "list", dict:=none,data:=.seq its.toArray c',slots:=#[] }->EP X pins U Q (.ref s.heap.objs.size) { s with heap:=h' }:=fun its r' hz h' c' kp e =>
  ⟨.ref s.heap.objs.size,_,I.laid (t':=s.toks) kp (Nat.le_refl _) (show ObjOk X.prog X.w _ h' _ (.lst ys) from ⟨hz,its,c',r',e⟩),rfl,q _ (I.hok.fresh (Nat.le_refl _))⟩
 rcases hq with hq|hq
 ·obtain ⟨its,r',pl,hz⟩:=I.list hq
  have hlen:=r'.length
  obtain ⟨o,ho,hc,n,hd⟩:=pl.isList
  exact call_list_seq p (.inl rfl) ho hc hd (fun h' c' kp e=>fin its r' hz h' c' kp e) (by simp only [List.size_toArray]<;>omega)
 ·obtain ⟨its,r',pl,hz⟩:=I.tuple hq
  have hlen:=r'.length
  obtain ⟨o,ho,hc,n,hd⟩:=pl
  exact call_list_seq p (.inr rfl) ho hc hd (fun h' c' kp e=>fin its r' hz h' c' kp e) (by simp only [List.size_toArray]<;>omega)
theorem zjB:CallR X (.type "tuple") (fun xs H Q=>∃p ys,xs=[.ref p]/\((SqL X.K H p ys/\∀l,H l=none->Q (.ref l) (upd H l (.tup ys)))\/(SqT X.K H p ys/\Q (.ref p) H))):=by
 intro pins s U H xs us Q I r h
 obtain ⟨p,ys,rfl,h⟩:=h
 obtain ⟨u,rfl,rx⟩:=jx r
 cases rx
 rcases h with ⟨hq,q⟩|⟨hq,q⟩
 ·obtain ⟨its,r',pl,hz⟩:=I.list hq
  have hlen:=r'.length
  refine call_tuple_list pl.isList (fun h' kp=>?_) (by simp only [List.size_toArray]<;>omega)
  have I1:Inv X pins U H { s with heap:=h' }:=I.kept (t':=s.toks) kp
  have I2:Inv X pins U (upd H h'.objs.size (.tup ys)) { s with heap:=h'.push { cls:=.type "tuple", data:=.seq its.toArray } } :=
   I1.laid (t':=s.toks) (fun b o e=>Heap.get?_push_of_some _ e) (Nat.le_refl _) (show ObjOk X.prog X.w _ _ _ (.tup ys) from ⟨hz,its,r',IsTup.new _ _⟩)
  exact ⟨.ref h'.objs.size,_,I2,rfl,q _ (I1.hok.fresh (Nat.le_refl _))⟩
 ·obtain ⟨its,r',pl,hz⟩:=I.tuple hq
  exact call_tuple_same pl ⟨.ref p,H,I,rfl,q⟩
def tyV (K:PySem.W.Frag) (T:String) (x:V) (H:Hp):Prop:=match x with
 | .str _=>T = "str"
 | .int _=>T = "int"
 | .ref p=>(T = "list" /\ ∃xs,SqL K H p xs)\/(T = "tuple" /\ ∃o,K.lookup p=some o/\o.cls=.type "tuple" /\ o.dict=none) \/
   (T = "dict" /\ ((∃kvs,H p=some (.dK kvs))\/∃kvs,H p=some (.dT kvs)))\/(T = "set" /\ ∃S n,H p=some (.set S n))
 | _=>False
theorem wg {pins:List (Addr×Obj)}{U:St}{H:Hp}{s:Shared}{T:String}{x:V}{v:Value}(I:Inv X pins U H s) (r:RelV x v) (ty:tyV X.K T x H) :
  s.TypeIs v T/\∀a,v=.ref a->∃ob,s.heap.get? a=some ob/\ob.dict=none:=by
 cases x with
 | str z =>
  obtain ⟨t,rfl⟩:=r
  cases (show T = "str" from ty)
  exact ⟨typeIs_str s z t,fun _ e=>nomatch e⟩
 | int i =>
  obtain ⟨t,rfl⟩:=r
  cases (show T = "int" from ty)
  exact ⟨typeIs_int s i t,fun _ e=>nomatch e⟩
 | ref p =>
  cases r
  rcases ty with ⟨rfl,xs,hq⟩|⟨rfl,o,hk,hc,hd⟩|⟨rfl,hk⟩|⟨rfl,S,n,hk⟩
  ·obtain ⟨its,_,pl,_⟩:=I.list hq
   refine ⟨pl.isList.typeIs,fun a e=>?_⟩
   cases e
   obtain ⟨o,n,e,c,hd,_⟩:=pl
   exact ⟨o,e,hd⟩
  ·refine ⟨⟨o,I.kIn p o hk,hc⟩,fun a e=>?_⟩
   cases e
   exact ⟨o,I.kIn _ o hk,hd⟩
  ·have z:∃o,s.heap.get? p=some o/\o.ExactDict:=by
    rcases hk with ⟨kvs,hk⟩|⟨kvs,hk⟩
    ·obtain ⟨_,_,_,_,o,_,_,e,ex,_⟩:=I.hok p _ hk
     exact ⟨o,e,ex⟩
    ·obtain ⟨_,_,_,_,o,_,_,e,ex,_⟩:=I.hok p _ hk
     exact ⟨o,e,ex⟩
   obtain ⟨o,e,ex⟩:=z
   refine ⟨⟨o,e,ex.1⟩,fun a e2=>?_⟩
   cases e2
   exact ⟨o,e,ex.2.1⟩
  ·obtain ⟨o,_,_,_,e,ex,_⟩:=I.hok p _ hk
   refine ⟨⟨o,e,ex.1⟩,fun a e2=>?_⟩
   cases e2
   exact ⟨o,e,ex.2.1⟩
 | _=>exact False.elim ty
def zjC (K:PySem.W.Frag) (T:String) (r:V->List V->Hp->VK->Prop) (to:TE):TE:=fun U H Q=>to U H fun x H1=>tyV K T x H1/\r x [] H1 Q
def tBM (K:PySem.W.Frag) (T:String) (r:V->List V->Hp->VK->Prop) (to:TE) (t:TA):TE:=fun U H Q=>to U H fun x H1=>tyV K T x H1/\t U H1 fun xs H2=>r x xs H2 Q
variable {o e:Expr}{es:List Expr}{to:TE}{t:TA}{name:Str}{apos cpos:Pos}{T id:String}{r:V->List V->Hp->VK->Prop}
theorem zjE (pa:PlainAttrs T) (slot:Slot T name id) (hty:typeOf (.builtin id)=pure (.type "method_descriptor")) (hm:MtR X id r) (ho:PE X o to)
  (hbase:attributeBase o name X.env (eval o X.env)=eval o X.env:=by rfl) (hline:(apos.endLine==cpos.line)=true:=by rfl):PE X (.Call (.Attribute o name apos) [] [] cpos) (zjC X.K T r to):=by
 intro pins s U H Q I h
 refine wpAny_Call_method0_late hbase hline (thn (ho pins s U H _ I h) fun v s1 ⟨x,H1,I1,r1,ty,q1⟩=>?_)
 obtain ⟨h1,h2⟩:=wg I1 r1 ty
 exact ⟨T,id,pa,slot,hty,h1,h2,Calls.callWith_builtin rfl (PySem.evalArgs_none (hm pins s1 U H1 x [] v [] Q I1 r1 .nil q1))⟩
theorem zee (pa:PlainAttrs T) (slot:Slot T name id) (hty:typeOf (.builtin id)=pure (.type "method_descriptor")) (hm:MtR X id r) (ho:PE X o to) (ha:PA X (e::es) t)
  (hbase:attributeBase o name X.env (eval o X.env)=eval o X.env:=by rfl)
  (hfew:((backTo cpos (starEach (e::es) X.env)).all (fun x=>!x.1)&&(backToKw cpos (keywordEach [] X.env)).all (fun x=>x.1.isSome)
   && decide ((e::es).length+([]:List Keyword).length+(if ([]:List Keyword).isEmpty then 0 else 1)<30))=true:=by rfl)
  (hline:(apos.endLine==cpos.line)=true:=by rfl) (hs:starEach (e::es) X.env=(false,eval e X.env)::starEach es X.env:=by rfl) (hplain:(backTo cpos (starEach es X.env)).any (·.1)=false:=by rfl) :
  PE X (.Call (.Attribute o name apos) (e::es) [] cpos) (tBM X.K T r to t):=by
 intro pins s U H Q I h
 refine wpAny_Call_method_late hbase hfew hline rfl (thn (ho pins s U H _ I h) fun v s1 ⟨x,H1,I1,r1,ty,q1⟩=>?_)
 obtain ⟨h1,h2⟩:=wg I1 r1 ty
 refine ⟨T,id,pa,slot,hty,h1,h2,?_⟩
 have hA:=ha cpos pins s1 U H1 _ I1 q1
 rw [hs] at hA ⊢
 refine Calls.callWith_builtin (by show (false||(backTo cpos (starEach es X.env)).any (·.1))=false;rw [hplain]<;>rfl) (Calls.evalArgs_plain ?_)
 exact thn hA fun us s2 ⟨vs,H2,I2,r2,q2⟩=>hm pins s2 U H2 x vs v us Q I2 r1 r2 q2
end
def MtM (X:Cx) (id:String) (r:V->List V->Hp->VK->Prop):Prop :=
 ∀(pins:List (Addr×Obj)) (s:Shared) (U:St) (H:Hp) (x:V) (xs:List V) (v:Value) (us:List Value) (Q:VK),Inv X pins U H s->RelV x v->Vals xs us->r x xs H Q ->
  wpAny (model X.prog X.w) X.A (call (.builtin id) (v::us)) (EP X pins U Q) X.xe s
theorem Vals.one:∀{x:V}{us:List Value},Vals [x] us->∃u,us=[u]/\RelV x u
 | _,_,.cons r .nil=>⟨_,rfl,r⟩
section
variable {X:Cx}{pins:List (Addr×Obj)}{U:St}{H:Hp}{s:Shared}{l b:Addr}{xs ys zs:List V}
theorem Inv.lset {its its':List Value}{n:Nat}{f:Array Value->Array Value}{t':Nat}(I:Inv X pins U H s) (hH:H l=some (.lst xs))
  (e:s.heap.get? l=some { cls:=.type "list", data:=.seq its.toArray n }) (hf:f its.toArray=its'.toArray) (hv:Vals ys its') (hz:ys.length<=sizeLine) :
  Inv X pins U (upd H l (.lst ys)) { s with heap:=s.heap.update l (Obj.mapSeq f),toks:=t' }:=by
 have q:=PySem.IsL.update e f
 rw [hf] at q
 refine I.write (x:=l) (e:=l) (by rw [hH];exact trivial) (.inl rfl) (fun b' u hb hu=>(Heap.get?_update_other s.heap (Obj.mapSeq f) (Ne.symm hb)).trans hu) ⟨_,q⟩ ?_
 exact ⟨hz,its',_,hv,q⟩
theorem Inv.lnew {its:List Value}{t':Nat}(I:Inv X pins U H s) (hv:Vals ys its) (hz:ys.length<=sizeLine) :
  Inv X pins U (upd H s.heap.objs.size (.lst ys)) { s with heap:=s.heap.push { cls:=.type "list", data:=.seq its.toArray },toks:=t' } :=
 I.laid (fun _ _ q=>Heap.get?_push_of_some _ q) (Nat.le_refl _) ⟨hz,its,0,hv,Heap.get?_push_size _ rfl⟩
theorem Inv.fresh (I:Inv X pins U H s):H s.heap.objs.size=none:=I.hok.fresh (Nat.le_refl _)
theorem Inv.lstM (I:Inv X pins U H s) (hH:H l=some (.lst xs)):xs.length<=sizeLine/\∃(its:List Value) (n:Nat),Vals xs its/\xs.length=its.length/\s.heap.get? l=some { cls:=.type "list", data:=.seq its.toArray n }:=by
 obtain ⟨z,its,n,r,e⟩:=I.hok l _ hH
 exact ⟨z,its,n,r,r.length,e⟩
theorem notLongL {n:Nat}(h:n<=sizeLine):Builtin.List.listTooLong n=false:=by
 unfold Builtin.List.listTooLong
 exact decide_eq_false (by omega)
end
section
variable {X:Cx}
def zjF:V->List V->Hp->VK->Prop:=fun x vs H Q=>∃l b xs zs,x=.ref l/\vs=[.ref b]/\H l=some (.lst xs)/\H b=some (.lst zs)/\xs.length+zs.length<=sizeLine/\Q .non (upd H l (.lst (xs++zs)))
theorem zjG:MtM X "list.extend" zjF:=by
 intro pins s U H x vs v us Q I rx rv h
 obtain ⟨l,b,xs,zs,rfl,rfl,hH,hB,hz,q⟩:=h
 cases rx
 obtain ⟨u,rfl,ru⟩:=rv.one
 cases ru
 obtain ⟨z,its,n,r,hl,e⟩:=I.lstM hH
 obtain ⟨z2,its2,n2,r2,hl2,e2⟩:=I.lstM hB
 have hsz:its.toArray.size+its2.toArray.size<=sizeLine:=by rw [List.size_toArray,List.size_toArray];omega
 have hlong:¬(!its.toArray.isEmpty&&Builtin.List.listTooLong (its.toArray.size+its2.toArray.size))=true:=by
  rw [notLongL hsz,Bool.and_false]
  exact Bool.false_ne_true
 refine call_meets F.slot_list_extend ⟨_,e,rfl⟩ F.entry_list_extend (F.args_list_extend_2 _ _)
  (AutoSeq1.list_extend_list_list_0 l its.toArray n b its2.toArray n2 hlong (by rw [List.size_toArray];omega) (by omega)) ⟨e,e2,?_⟩
 refine ⟨.non,_,I.lset (its':=its++its2) hH e (by simp) (r.append r2) ?_,rfl,q⟩
 rw [List.length_append]
 omega
def zjH:R2:=fun x y H Q=>∃l b xs zs,x=.ref l/\y=.ref b/\H l=some (.lst xs)/\H b=some (.lst zs)/\xs.length+zs.length<=sizeLine/\∀p,H p=none->Q (.ref p) (upd H p (.lst (xs++zs)))
theorem zjI:OpR X (binaryOp .Add) zjH:=by
 intro pins s U H x y v u Q I rx ry h
 obtain ⟨l,b,xs,zs,rfl,rfl,hH,hB,hz,q⟩:=h
 cases rx
 cases ry
 obtain ⟨z,its,n,r,hl,e⟩:=I.lstM hH
 obtain ⟨z2,its2,n2,r2,hl2,e2⟩:=I.lstM hB
 refine PySem.P.add_list e e2 ?_ (by rw [List.size_toArray,List.size_toArray];omega)
 have ea:its.toArray++its2.toArray=(its++its2).toArray:=by simp
 rw [ea]
 exact ⟨.ref _,_,I.lnew (t':=s.toks) (r.append r2) (by rw [List.length_append];omega),rfl,q _ I.fresh⟩
end
section
variable {prog:Program}{w:World}{A:Around}{E:Value->Shared->Prop}{s:Shared}
end
section
variable {X:Cx}
end
end L2
namespace Att
open PySem PySem.W PySem.Calls PyProof.Rows
theorem zjJ {P:Params}{h:Heap}:∀(ns:List Int) (vs:List Value),WellAll P h vs (ns.map WData.int)->IntsAre vs ns:=by
 intro ns
 induction ns with
 | nil =>
  intro vs w
  rw [List.map_nil] at w
  cases w
  exact .nil
 | cons n ns ih =>
  intro vs w
  rw [List.map_cons] at w
  cases w with
  | cons a b =>
   cases a
   exact .cons _ _ (ih _ b)
theorem zjK {l:OpenLaw}{n:Nat}(hn:l.most=some n) {P:Params}{h:Heap}{args:List WData}{vals:List Value}
  (hpre:l.row.toRowW.claim.pre args=true) (hwl:WellAll P h vals args) :
  ∃a vs ns,vals=[Value.ref a]/\args=[WData.list (ns.map WData.int)]/\h.get? a=some { cls:=.type "list", data:=.seq vs.toArray }/\IntsAre vs ns/\ns.length<=n:=by
 have hsh:WShape.hasAll [] args [.list .int]=true:=(pre_splitW hpre).1
 have hc:l.pre.holds [] { args:=args }=true:=(pre_splitW hpre).2
 obtain ⟨d,r,rfl,h1,h2⟩:=hasAllW_cons hsh
 obtain rfl:=hasAllW_nil h2
 obtain ⟨xs,rfl,h3⟩:=hasW_list h1
 obtain ⟨ns,rfl⟩:=items_int h3
 have hlen:ns.length<=n:=by
  unfold OpenLaw.pre at hc
  have h4:(WTm.not (.lt (.lit (.int (n:Int))) (.len (.arg 0)))).holds [] { args:=[.list (ns.map .int)] }=true:=by
   have h4:=(holds_andW hc).1
   rw [hn] at h4
   exact h4
  have h5:=condW_of h4 (w_not (w_lt w_lit (w_len_list (w_arg rfl))))
  rw [List.length_map] at h5
  refine Nat.le_of_not_lt fun q=>?_
  have q':(n:Int)<((ns.length:Nat):Int):=by omega
  first
   | (rw [decide_eq_true q'] at h5;exact absurd h5 (by decide))
   | (simp at h5;omega)
 cases hwl with
 | cons w1 w2 =>
  cases w2
  cases w1 with
  | list ho hall=>exact ⟨_,_,ns,rfl,rfl,ho,zjJ ns _ hall,hlen⟩
theorem zjL (l:OpenLaw) (args:List WData):l.row.toRowW.claim.post args (.bool true) args=true :=
 postW_of (r:=l.row.toRowW) (X:=(true==true))
  (show WShape.has [] (.bool true) .bool=true by first|rfl|decide|simp [WShape.has,WShape.arms,WShape.armsAll])
  (show (WTm.eq .res (.lit (.bool true))).value [] { args:=args,res:=some (.bool true),after:=args }=some (.bool (true==true)) from w_eq_bool (w_res rfl) w_lit) rfl
theorem attach_call {l:OpenLaw}{n:Nat}{q:Program}{loose:List Str}{XP:(Str->Option Value)->Heap->Prop}{YP:World->Heap->Prop}{d:DefRec}
  (hn:l.most=some n) (hdf:d.params.defaults=[])
  (call:∀(w:World) (s₀ ah:Shared) (mg mb:Str->Option Value) (fa:Addr) (o:Obj) (pm cd doc:Value) (a:Addr) (vs:List Value) (ns:List Int),
   Ground q loose [] XP w s₀ mg mb ah.heap->YP w ah.heap ->
   ah.heap.get? fa=some o->o.data=.func (docDef d.name d.params d.body d.scope pm cd doc)->ah.heap.CodeRec cd d.name->mg d.name=some (.ref fa) ->
   ah.heap.get? a=some { cls:=.type "list", data:=.seq vs.toArray }->IntsAre vs ns->ns.length<=n->ah.gens=#[] ->
   codeAny (model l.prog w) callerA (.call (.ref fa) ⟨[.ref a],[]⟩) (fun r s'=>r=.ok (.ret (.bool true))/\OldK ah.heap s'.heap/\s'.os=ah.os/\AllBare s'.gens) ah) :
  WalkO q loose XP YP l.row.toRowW d [] (fun f vs=>PySem.call f vs):=by
 intro w s₀ ah mg mb G Y fa o pm cd doc dV kV ho hd hcd hD hmg hg args vals as hpre hlay hrd hwl hlo
 obtain rfl:dV=.none:=Dflts.none hD hdf
 obtain rfl:kV=.none:=Dflts.noKw hD
 obtain ⟨a,vs,ns,rfl,rfl,hobj,hints,hlen⟩:=zjK hn hpre hwl
 refine enter_call (codeAny_mono (call w s₀ ah mg mb fa o pm cd doc a vs ns G Y ho (fd_plain hd) hcd hmg hobj hints hlen hg) fun r s' hq=>?_)
 obtain ⟨rfl,h2,h3,h4⟩:=hq
 exact ⟨.inl ⟨.bool true,.bool true,[],rfl,fun _=>rfl,.bool true,zjL l _,fun _=>⟨List.Pairwise.nil,fun _ hm=>(nomatch hm)⟩⟩,h2,h3,h4⟩
section
variable {prog:Program}{w:World}{A:Around}{E:Value->Shared->Prop}{s:Shared}{K:Frag}
end
end Att
namespace L2
open PySem PySem.Spec PyProof.Rows
theorem zef:∀{vs:List Value}{ns:List Int},IntsAre vs ns->Vals (ns.map V.int) vs
 | _,_,.nil=>.nil
 | _,_,.cons n t h=>.cons ⟨t,rfl⟩ (zef h)
def Only (H:Hp):Prop:=∀b,H b=none\/∃o xs,H b=some (.frz o (.lst xs))
theorem zjM {P:Program}{w:World}{K:PySem.W.Frag}{mg mb:Str->Option Value}{CX:CXT}{k:Nat}{fa a:Addr}{fd:FuncData}{x:Str}{sp:Sp}{ah:Shared}{vs:List Value}{ns:List Int}
  (KX:K.In ah.heap) (hns:ah.heap.Ns mainGlobals mg) (hb:ah.heap.Ns builtinsNs mb) (hbb:∀x:Str,x ≠ "__name__" -> mb x=bootBuiltins x) (hlim:ah.heap.NoLimit) (hg:ah.gens=#[])
  (ha:ah.heap.get? a=some { cls:=.type "list", data:=.seq vs.toArray }) (hi:IntsAre vs ns) (hl:ns.length<=sizeLine) (hr:Room k callerA)
  (F:∀base:Heap,K.In base->base.Ns mainGlobals mg->FnOk P w K mg base CX k fa fd [x] sp) (hbind:∀(s:Shared) (u:Value),BindsTo s fd ⟨[u],[]⟩ [(x,u)])
  (hsp:∀H:Hp,Only H->SqL K H a (ns.map V.int)->sp [.ref a] H (fun v _=>v=.bl true) fun _ _ _=>False)
  (hCX:∀H e s',CX [] H ah (fun _ _ _=>False) e s'->False) :
  codeAny (model P w) callerA (.call (.ref fa) ⟨[.ref a],[]⟩) (fun r s'=>r=.ok (.ret (.bool true))/\OldK ah.heap s'.heap/\s'.os=ah.os/\AllBare s'.gens) ah:=by
 have rv:=zef hi
 have lenV:=hi.length
 have core:∀H:Hp,Only H->SqL K H a (ns.map V.int)->HOk P w H ah.heap->(∀b,H b≠none->b=a)->(H a≠none->K.lookup a=none) ->
   codeAny (model P w) callerA (.call (.ref fa) ⟨[.ref a],[]⟩) (fun r s'=>r=.ok (.ret (.bool true))/\OldK ah.heap s'.heap/\s'.os=ah.os/\AllBare s'.gens) ah:=by
  intro H hO hS hok hA hK
  have base_of:∀{b:Addr} {o:Obj},ah.heap.get? b=some o->H b=none->(hidT ah.heap H).get? b=some o:=fun e n=>zhF e n
  have noA:∀{b:Addr} {o:Obj} {es:Array DictEntry} {ep:Nat},ah.heap.get? b=some o->o.data=.dict es ep->H b=none:=fun {b o es ep} e d=>by
   cases q:H b with
   | none=>rfl
   | some u =>
    have e':b=a:=hA b (by rw [q];simp)
    subst e'
    rw [ha] at e;cases e
    have d':Data.seq vs.toArray _=Data.dict es ep:=d
    cases d'
  have nsK:∀{b:Addr} {m:Str->Option Value},ah.heap.Ns b m->(hidT ah.heap H).Ns b m:=fun {b m} ⟨o,es,ep,e,d,r⟩=>⟨o,es,ep,base_of e (noA e d),d,r⟩
  have hKb:K.In (hidT ah.heap H):=fun b o e=>base_of (KX b o e) (by
   cases q:H b with
   | none=>rfl
   | some u =>
    have e':b=a:=hA b (by rw [q];simp)
    subst e'
    rw [hK (by rw [q];simp)] at e;cases e)
  have hM:Mod K mg (hidT ah.heap H):=⟨hKb,nsK hns,⟨mb,nsK hb,hbb⟩,let ⟨mc,h1,h2⟩:=hlim;⟨mc,nsK h1,h2⟩⟩
  have e0:Env0 P w K mg (hidT ah.heap H) callerA [] ah H:=⟨rfl,hM,fun b o e=>zhG e,Nat.le_of_eq (zhE _ _),trivial,fun b hb=>absurd (show b∈([]:List Addr) from hb) (by simp),hok,.of_eq hg⟩
  refine codeAny_mono ((F _ hKb (nsK hns)).run callerA [] ah H ⟨[.ref a],[]⟩ [.ref a] [.ref a] _ _ hr e0 (hbind ah (.ref a)) (.cons rfl .nil) (hsp H hO hS)) fun r s' h=>?_
  cases r with
  | error e=>exact (hCX H e s' h).elim
  | ok fl =>
   cases fl with
   | next=>exact False.elim h
   | brk=>exact False.elim h
   | cont=>exact False.elim h
   | ret u =>
    obtain ⟨v,H',os,bare,un,hok',r',q⟩:=h
    have q':v=.bl true:=q
    subst q'
    obtain rfl:u=Value.bool true:=r'
    refine ⟨rfl,OldK.of_keep fun b o e=>?_,os,bare⟩
    cases q:H b with
    | none=>exact un.keep b o e q (by intro z;exact absurd (show b∈([]:List Addr) from z) (by simp)) (by simp)
    | some u =>
     rcases hO b with z|⟨ob,xs,z⟩
     ·rw [q] at z;cases z
     ·have z2:=un.frzs b ob _ z
      obtain ⟨e1,_⟩:=hok b _ z
      obtain ⟨e2,_⟩:=hok' b _ z2
      rw [e] at e1;cases e1
      exact e2
 cases hk:K.lookup a with
 | some o =>
  have e:=KX a o hk
  rw [ha] at e
  cases e
  refine core (fun _=>none) (fun _=>.inl rfl) (.inr ⟨_,vs.toArray,_,hk,rfl,rfl,rfl,by rw [List.size_toArray,lenV];exact hl,by simpa using rv⟩) (fun b u z=>by have z':(none:Option HO)=some u:=z;cases z') (fun b z=>absurd rfl z) fun z=>absurd rfl z
 | none =>
  refine core (fun b=>if b=a then some (.frz { cls:=.type "list", data:=.seq vs.toArray } (.lst (ns.map V.int))) else none) (fun b=>?_) (.inl (.inr ⟨{ cls:=.type "list", data:=.seq vs.toArray },if_pos rfl⟩)) (fun b u z=>?_) (fun b z=>?_) fun _=>hk
  ·by_cases hb:b=a
   ·exact .inr ⟨_,_,if_pos hb⟩
   ·exact .inl (if_neg hb)
  ·by_cases hb:b=a
   ·have z':=(if_pos hb).symm.trans z
    cases z'
    subst hb
    exact ⟨ha,by rw [List.length_map];exact hl,vs,_,rv,ha⟩
   ·have z':=(if_neg hb).symm.trans z
    cases z'
  ·by_cases hb:b=a
   ·exact hb
   ·exact absurd (if_neg hb) z
abbrev KOf {K:PySem.W.Frag}{h:Heap}(_:K.In h):PySem.W.Frag:=K
theorem zjN {l:PySem.W.OpenLaw}{n k:Nat}{q:Program}{loose:List Str}{XP:(Str->Option Value)->Heap->Prop}{YP:World->Heap->Prop}{d:DefRec}{K:Params->PySem.W.Frag}{CX:World->CXT}{sp:World->Sp}{x:Str}
  (hn:l.most=some n) (hn2:n<=sizeLine) (hdf:d.params.defaults=[]) (hr:Room k callerA)
  (hY:∀(w:World) (h:Heap),YP w h->(K w.params).In h)
  (F:∀(w:World) (mg:Str->Option Value) (fa:Addr) (h:Heap),(K w.params).In h->h.Ns mainGlobals mg->mg d.name=some (.ref fa) ->
   ∃fd:FuncData,(∀(s:Shared) (u:Value),BindsTo s fd ⟨[u],[]⟩ [(x,u)]) /\
    ∀base:Heap,(K w.params).In base->base.Ns mainGlobals mg->FnOk l.prog w (K w.params) mg base (CX w) k fa fd [x] (sp w))
  (hsp:∀(w:World) (H:Hp) (a:Addr) (ns:List Int),ns.length<=n->Only H->SqL (K w.params) H a (ns.map V.int)->sp w [.ref a] H (fun v _=>v=.bl true) fun _ _ _=>False)
  (hCX:∀(w:World) (H:Hp) (s:Shared) (e:Value) (s':Shared),CX w [] H s (fun _ _ _=>False) e s'->False) :
  PySem.W.WalkO q loose XP YP l.row.toRowW d [] (fun f vs=>PySem.call f vs):=by
 refine Att.attach_call hn hdf fun w s₀ ah mg mb fa o pm cd doc a vs ns G Y ho hd hcd hmg hobj hints hlen hg=>?_
 have KX:=hY w _ Y
 obtain ⟨fd,hb,hF⟩:=F w mg fa _ KX G.T.g hmg
 exact zjM KX G.T.g G.T.b G.T.builtins G.T.nolimit hg hobj hints (Nat.le_trans hlen hn2) hr hF hb (fun H hO hS=>hsp w H a ns hlen hO hS) fun H e s'=>hCX w H ah e s'
def inClass (s:Stmt) (j:Nat):Stmt:=match s with
 | .ClassDef _ _ _ body _ _ _ _ _ _ _=>body.getD j (.Pass ⟨0,0,0,0⟩)
 | _=>.Pass ⟨0,0,0,0⟩
def yN (s:Stmt):Arguments:=match s with
 | .FunctionDef _ a _ _ _ _ _ _ _ _=>a
 | _=>{ posonlyargs:=[],args:=[],vararg:=none,kwonlyargs:=[],kw_defaults:=[],kwarg:=none,defaults:=[] }
def yt (s:Stmt):List Stmt:=match s with
 | .FunctionDef _ _ b _ _ _ _ _ _ _=>b
 | _=>[]
def zw (s:Stmt):Scope:=match s with
 | .FunctionDef _ _ _ _ _ _ sc _ _ _=>sc
 | _=>{ kind:=.function,names:=[],isGenerator:=false,isCoroutine:=false }
abbrev CX0:CXT:=fun _ _ _ _ _ _=>False
abbrev E0:XK:=fun _ _ _=>False
structure Fun (K:PySem.W.Frag) (x qual:Str) (st:Stmt) (f:Addr) (fd:FuncData):Prop where
 ex:∃(oc:Value) (od:Option Addr) (kV doc pm:Value) (an:Option Addr) (cdv ct:Value) (osl:Array (Option Value)),
  fd=PySem.W.fnOf x qual (yN st) (yt st) (zw st) .none kV doc pm an cdv ct/\K.lookup f=some ⟨oc,od,.func fd,osl⟩/\PySem.W.codeIn K cdv qual=true
 kp:PySem.W.keepIn K (.ref f)=true
section
variable {P:Program}{w:World}{K:PySem.W.Frag}{mg:Str->Option Value}{base:Heap}
theorem Fun.ok {x qual:Str}{st:Stmt}{f:Addr}{fd:FuncData}{N ps:List Str}{k:Nat}{sp:Sp}(F:Fun K x qual st f fd) (S:FnScope N ps (zw st)) (len:∀vs H Q E,sp vs H Q E->vs.length=ps.length)
  (hbody:∀(cdv:Value) (A:Around) (outer:List Env) (s:Shared) (H:Hp) (vs:List V) (Q:VK) (E:XK),Room k (A.deeper (envOfC qual (zw st) s.heap.objs.size f cdv))->sp vs H Q E ->
   ∃t,PSs (cxOf CX0 P w K mg base N qual (zw st) f cdv A outer s H E).nox (yt st) t/\t { nx:=fun _ H'=>Q .non H',rt:=Q } (start N vs) H):FnOk P w K mg base CX0 (k+1) f fd ps sp:=by
 obtain ⟨oc,od,kV,doc,pm,an,cdv,ct,osl,rfl,lk,hcd⟩:=F.ex
 refine zd4 lk hcd S len fun A outer s H vs Q E hr hsp=>?_
 obtain ⟨t,h,q⟩:=hbody cdv A outer s H vs Q E hr hsp
 exact ⟨t,h.nox,q⟩
theorem Fun.binds {x qual:Str}{st:Stmt}{f:Addr}{fd:FuncData}{ps:List Str}(F:Fun K x qual st f fd)
  (h:∀(kV doc pm:Value) (an:Option Addr) (cdv ct:Value) (us:List Value),us.length=ps.length->bindArgs (PySem.W.fnOf x qual (yN st) (yt st) (zw st) .none kV doc pm an cdv ct) ⟨us,[]⟩=pure (ps.zip us)):Binds K fd ps []:=by
 obtain ⟨oc,od,kV,doc,pm,an,cdv,ct,osl,rfl,lk,hcd⟩:=F.ex
 exact .all (h kV doc pm an cdv ct)
theorem jL {x qual:Str}{st:Stmt}{f:Addr}{oc:Value}{od an:Option Addr}{osl:Array (Option Value)}{kV doc pm cdv ct:Value}(l:K.lookup f=some ⟨oc,od,.func (PySem.W.fnOf x qual (yN st) (yt st) (zw st) .none kV doc pm an cdv ct),osl⟩)
  (c:PySem.W.codeIn K cdv qual=true) (k:PySem.W.keepIn K (.ref f)=true):Fun K x qual st f (PySem.W.fnOf x qual (yN st) (yt st) (zw st) .none kV doc pm an cdv ct):=⟨⟨oc,od,kV,doc,pm,an,cdv,ct,osl,rfl,l,c⟩,k⟩
end
section
variable {X:Cx}
theorem pv (i:Nat) {x:Str} {pos:Pos} (hN:X.N[i]?=some x:=by rfl) (hv:Vis X.env.scope x:=by first|exact Or.inl rfl|exact Or.inr (Or.inl rfl)|exact Or.inr (Or.inr rfl)) (hd:(x==("__debug__" : Str))=false:=by decide)
  (hcd:(x==("__classdict__" : Str))=false:=by decide):PE X (.Name x pos) (zaH i):=zdM hN hv hd hcd
end
def Same (H H':Hp):Prop:=∀b o,H b=some o->H' b=some o
theorem Same.free {H H':Hp}(e:Same H H') {l:Addr}(h:H' l=Option.none):H l=Option.none:=by
 cases q:H l with
 | none=>rfl
 | some o =>
  rw [e l o q] at h
  cases h
end L2
set_option maxHeartbeats 4000000
namespace L2
open PySem PySem.Spec PyProof.Rows
theorem ar1 {l z D b:Nat}(h1:l<z) (h2:z=D) (h3:D<=b) (h4:b=l):False:=by omega
theorem jY {b D C:Nat}(h1:b<D) (h2:C=D+1) (h3:b=C):False:=by omega
theorem ar3 {b e d:Nat}(h1:b<e) (h2:e<=d) (h3:d<=b):False:=by omega
theorem ar4 {b D p:Nat}(h1:b<D) (h2:p=D) (h3:p=b):False:=by omega
theorem zbY (env:Env):∀(l:List (Str×NameKind)) (acc:List (Str×Addr)),(∀p∈l,p.2=.free->∃c,env.cells.lookup p.1=some c) ->
  ∃cl,(forIn l acc (fun (x:Str×NameKind) (cs:List (Str×Addr))=>if (x.snd==NameKind.free)=true then do
            let a <-cellOf env x.fst
            pure (ForInStep.yield ((x.fst,a)::cs))
      else pure (ForInStep.yield cs)):Sem (List (Str×Addr)))=pure cl /\
   (∀y c,(y,c)∈cl->(y,c)∈acc\/(env.cells.lookup y=some c/\(y,NameKind.free)∈l))/\(∀p∈acc,p∈cl)/\(∀y,(y,NameKind.free)∈l->∃c,(y,c)∈cl)
 | [],acc,_=>⟨acc,rfl,fun _ _ h=>.inl h,fun _ h=>h,fun _ h=>nomatch h⟩
 | (n,k)::r,acc,hall=>by
  by_cases hk:k=.free
  ·subst hk
   obtain ⟨c,hc⟩:=hall (n,.free) List.mem_cons_self rfl
   obtain ⟨cl,e,h1,h2,h3⟩:=zbY env r ((n,c)::acc) fun p hp=>hall p (List.mem_cons_of_mem _ hp)
   refine ⟨cl,?_,fun y d hy=>?_,fun p hp=>h2 p (List.mem_cons_of_mem _ hp),fun y hy=>?_⟩
   ·rw [List.forIn_cons]
    simp only [beq_self_eq_true,if_true]
    have:cellOf env n=pure c:=by unfold cellOf;rw [hc]
    rw [this]
    exact e
   ·rcases h1 y d hy with q|q
    ·rcases List.mem_cons.mp q with q|q
     ·cases q
      exact .inr ⟨hc,List.mem_cons_self⟩
     ·exact .inl q
    ·exact .inr ⟨q.1,List.mem_cons_of_mem _ q.2⟩
   ·rcases List.mem_cons.mp hy with q|q
    ·cases q
     exact ⟨c,h2 _ List.mem_cons_self⟩
    ·exact h3 y q
  ·obtain ⟨cl,e,h1,h2,h3⟩:=zbY env r acc fun p hp=>hall p (List.mem_cons_of_mem _ hp)
   refine ⟨cl,?_,fun y d hy=>?_,h2,fun y hy=>?_⟩
   ·rw [List.forIn_cons]
    have:(k==NameKind.free)=false:=by simpa using hk
    simp only [this,Bool.false_eq_true,if_false]
    exact e
   ·rcases h1 y d hy with q|q
    ·exact .inl q
    ·exact .inr ⟨q.1,List.mem_cons_of_mem _ q.2⟩
   ·rcases List.mem_cons.mp hy with q|q
    ·cases q
     exact absurd rfl hk
    ·exact h3 y q
theorem zek {β:Type}{y:Str}:∀{l:List (Str×β)}{c:β},(y,c)∈l->∃d,l.lookup y=some d
 | (n,b)::r,c,h=>by
  rw [List.lookup_cons]
  cases e:y==n with
  | true=>exact ⟨b,rfl⟩
  | false =>
   rcases List.mem_cons.mp h with q|q
   ·cases q
    simp at e
   ·exact zek q
theorem zel (env:Env) (scope:Scope) (hall:∀p∈scope.names,p.2=.free->∃c,env.cells.lookup p.1=some c) :
  ∃cl,closureFor scope env=pure cl/\(∀y c,cl.lookup y=some c->env.cells.lookup y=some c)/\(∀y,(y,NameKind.free)∈scope.names->∃c,cl.lookup y=some c):=by
 obtain ⟨cl,e,h1,_,h3⟩:=zbY env scope.names [] hall
 refine ⟨cl,?_,fun y c hy=>?_,fun y hy=>?_⟩
 ·simp only [closureFor]
  rw [e]
  rfl
 ·rcases h1 y c (PySem.mem_of_lookup hy) with z|z
  ·cases z
  ·exact z.1
 ·obtain ⟨c,hc⟩:=h3 y hy
  exact zek hc
structure CompSc (sc scope:Scope) (x:Str):Prop where
 kind:scope.kind=.function
 ncell:∀y∈scope.names,y.2 ≠ .cell
 names:∀y∈scope.names,y.2=.local->scope.names.lookup y.1=some .local/\(y.1=x\/y.1 = ".0")
 hx:scope.names.lookup x=some .local
 free:∀y∈scope.names,y.2=.free->sc.names.lookup y.1=some .cell
def cxH (X:Cx) (M:List Str) (scope:Scope) (cl:List (Str×Addr)) (x:Str) (C:Addr) (ae:Shared) (aj:Hp) (fp:List Addr) (E:Value->Shared->Prop):Cx :=
 { X with N:=x::M,s₀:=ae,H₀:=aj,env:=compEnvC scope cl C X.env,outer:=X.stack,ex:=fp,fn:=fun _=>false,pn:=[],xe:=E }
def Hid (scope:Scope) (M N:List Str):Prop:=M.length=N.length/\∀p∈M.zip N,p.1=p.2\/p.1∉scope.names.map Prod.fst
theorem Hid.refl {scope:Scope}{N:List Str}:Hid scope N N:=⟨rfl,fun p hp=>.inl (by
 obtain ⟨i,hi,e⟩:=List.getElem_of_mem hp
 rw [List.getElem_zip] at e
 rw [<-e])⟩
theorem Hid.get {scope:Scope}{M N:List Str}(h:Hid scope M N) {i:Nat}{y:Str}(e:M[i]?=some y):N[i]?=some y\/y∉scope.names.map Prod.fst:=by
 obtain ⟨hi,ei⟩:=List.getElem?_eq_some_iff.mp e
 have hj:i<N.length:=h.1▸hi
 have hm:(M[i],N[i])∈M.zip N:=List.mem_of_getElem? (i:=i) (by rw [List.getElem?_zip_eq_some];exact ⟨List.getElem?_eq_getElem hi,List.getElem?_eq_getElem hj⟩)
 rcases h.2 _ hm with q|q
 ·exact .inl (by rw [List.getElem?_eq_getElem hj,<-ei];exact congrArg some q.symm)
 ·exact .inr (by rw [<-ei];exact q)
def cxC (X:Cx) (scope:Scope) (cl:List (Str×Addr)) (x:Str) (C:Addr) (ae:Shared) (aj:Hp) (fp:List Addr) (E:Value->Shared->Prop):Cx :=
 { X with N:=x::X.N,s₀:=ae,H₀:=aj,env:=compEnvC scope cl C X.env,outer:=X.stack,ex:=fp,fn:=fun _=>false,pn:=[],xe:=E }
section
variable {X:Cx}{scope:Scope}{cl:List (Str×Addr)}{x:Str}
theorem jM {env:Env}{y:Str}{k:NameKind}(h:(relabel scope env).names.lookup y=some k):∃k0,(y,k0)∈scope.names/\((k0=.free/\env.kindOf y=some .cell/\k=.cell)\/(k=k0/\¬(k0=.free/\env.scope.kind=.function/\env.kindOf y=some .cell))):=by
 have hm:=PySem.mem_of_lookup h
 obtain ⟨⟨n,k0⟩,hn,e⟩:=List.mem_map.mp hm
 by_cases hc:(k0==NameKind.free&&env.scope.kind == .function&&env.kindOf n==some .cell)=true
 ·have e':(n,NameKind.cell)=(y,k):=by rw [<-e];simp only [hc,if_true]
  cases e'
  simp only [Bool.and_eq_true,beq_iff_eq] at hc
  exact ⟨_,hn,.inl ⟨hc.1.1,hc.2,rfl⟩⟩
 ·have e':(n,k0)=(y,k):=by rw [<-e];simp only [hc,if_false];rfl
  cases e'
  refine ⟨_,hn,.inr ⟨rfl,fun ⟨a,b,c⟩=>hc ?_⟩⟩
  simp [a,b,c]
theorem zem (S:CompSc X.env.scope scope x) {y:Str} (h:(relabel scope X.env).names.lookup y=some .local):y=x\/y = ".0" := by
 obtain ⟨k0,hm,⟨_,_,e⟩|⟨e,_⟩⟩:=jM h
 ·cases e
 ·subst e
  exact (S.names _ hm rfl).2
theorem zbZ (S:CompSc X.env.scope scope x) (hk:X.env.scope.kind=.function) {y:Str}(h:(relabel scope X.env).names.lookup y=some .cell\/(relabel scope X.env).names.lookup y=some .free):(y,NameKind.free)∈scope.names:=by
 rcases h with h|h
 ·obtain ⟨k0,hm,⟨e,_,_⟩|⟨e,_⟩⟩:=jM h
  ·subst e;exact hm
  ·subst e;exact absurd rfl (S.ncell _ hm)
 ·obtain ⟨k0,hm,⟨_,_,e⟩|⟨e,n⟩⟩:=jM h
  ·cases e
  ·subst e
   exact hm
end
theorem zjO {P:Program}{wd:World}{B:Around}{Z:Result->Shared->Prop}{u0:Shared}{el tg iter:Expr}{sc:Scope}{ps:Pos}{iv ac:Value}{ev:Env}(J0:Nat->Shared->Prop)
  (turn:∀k u,J0 k u->wpAny (model P wd) B (pyNext iv) (fun r u1=>match r with|none=>Z (.ok .next) u1|some v=>wpAny (model P wd) B (letOwnedTupleGo tg iv v) (fun _ u2 =>
   wpAny (model P wd) B (assign tg ev v) (fun _ u3=>wpAny (model P wd) B (eval el ev) (fun y u4=>wpAny (model P wd) B (call (.builtin "list.append") [ac,y]) (fun _ u5=>∃m,m<k/\J0 m u5)
    (notedBy (model P wd) B ev fun e u=>Z (.error e) u) u4) (notedBy (model P wd) B ev fun e u=>Z (.error e) u) u3) (notedBy (model P wd) B ev fun e u=>Z (.error e) u) u2) (notedBy (model P wd) B ev fun e u=>Z (.error e) u) u1)
   (notedBy (model P wd) B ev fun e u=>Z (.error e) u) u)
  (k0:Nat) (start0:J0 k0 u0):codeAny (model P wd) B (.compLoop (.ListComp el [⟨tg,iter,[],0⟩] sc ps) 0 iv ac ev) Z u0:=by
 refine codeAny_loop rfl J0 (fun k u hJ=>wpAny_noted (E:=fun e u=>Z (.error e) u) (env:=ev) (m:=compTurn (.ListComp el [⟨tg,iter,[],0⟩] sc ps) 0 iv ac ev) ?_) k0 start0
 rw [compTurn_list1]
 have one:=turn k u hJ
 refine wpAny_bind (wpAny_standAt (wpAny_bind (wpAny_mono one (fun r u1 q1=>?_) fun _ _ z=>z)))
 cases r with
 | none=>exact wpAny_pure q1
 | some v =>
  refine wpAny_bind (wpAny_mono q1 (fun _ u2 q2=>wpAny_bind (wpAny_mono q2 (fun _ u3 q3=>?_) fun _ _ z=>z)) fun _ _ z=>z)
  exact wpAny_bind (wpAny_bind (wpAny_mono q3 (fun y u4 q4=>wpAny_bind (wpAny_mono q4 (fun _ u5 q5=>wpAny_pure (wpAny_pure ⟨rfl,q5⟩)) fun _ _ z=>z)) fun _ _ z=>z))
def CompW (J:It) (te:TE) (U:St) (Q:VK) (H1:Hp):Prop:=∃W:Nat->Nat->List V->Hp->Prop,(∃m,W 0 m [] H1)/\∀i m ys H,W i m ys H ->
 (J.stop i H/\ys.length<=sizeLine/\∀l,H l=none->Q (.ref l) (upd H l (.lst ys))) \/
 (J.go i H/\ys.length<=sizeLine/\∀z H',J.yld i H z H'->te (some z::U) H' fun y H2=>∃m',m'<m/\W (i+1) m' (ys++[y]) H2)
def zb0 (wi:TI) (te:TE):TE:=fun U H Q=>wi U H fun J H1=>CompW J te U Q H1
end L2
namespace L2
open PySem PySem.Spec PyProof.Rows PySem.W
structure CompSN (sc scope:Scope) (xs:List Str):Prop where
 kind:scope.kind=.function
 ncell:∀y∈scope.names,y.2 ≠ .cell
 names:∀y∈scope.names,y.2=.local->scope.names.lookup y.1=some .local/\(y.1∈xs\/y.1 = ".0")
 free:∀y∈scope.names,y.2=.free->sc.names.lookup y.1=some .cell
def cxNH (X:Cx) (M:List Str) (scope:Scope) (cl:List (Str×Addr)) (xs:List Str) (C:Addr) (ae:Shared) (aj:Hp) (fp:List Addr) (E:Value->Shared->Prop):Cx :=
 { X with N:=xs++M,s₀:=ae,H₀:=aj,env:=compEnvC scope cl C X.env,outer:=X.stack,ex:=fp,fn:=fun _=>false,pn:=[],xe:=E }
section
variable {X:Cx}{scope:Scope}{xs:List Str}
theorem zen (S:CompSN X.env.scope scope xs) {y:Str} (h:(relabel scope X.env).names.lookup y=some .local):y∈xs\/y = ".0" := by
 obtain ⟨k0,hm,⟨_,_,e⟩|⟨e,_⟩⟩:=jM h
 ·cases e
 ·subst e
  exact (S.names _ hm rfl).2
theorem zb1 (S:CompSN X.env.scope scope xs) (hk:X.env.scope.kind=.function) {y:Str}(h:(relabel scope X.env).names.lookup y=some .cell\/(relabel scope X.env).names.lookup y=some .free):(y,NameKind.free)∈scope.names:=by
 rcases h with h|h
 ·obtain ⟨k0,hm,⟨e,_,_⟩|⟨e,_⟩⟩:=jM h
  ·subst e;exact hm
  ·subst e;exact absurd rfl (S.ncell _ hm)
 ·obtain ⟨k0,hm,⟨_,_,e⟩|⟨e,n⟩⟩:=jM h
  ·cases e
  ·subst e
   exact hm
end
def PTs (X:Cx) (ifs:List Expr) (t:TT):Prop:=∀(pins:List (Addr×Obj)) (s:Shared) (U:St) (H:Hp) (Q:Bool->Hp->Prop),Inv X pins U H s->t U H Q ->
 wpAny (model X.prog X.w) X.A (forIn ifs true fun c r=>if r=true then do let ok <-isTrue c X.env (eval c X.env);pure (ForInStep.yield ok) else pure (ForInStep.yield r)) (TP X pins U Q) X.xe s
def zaL:TT:=fun _ H Q=>Q true H
theorem zjP {X:Cx}:PTs X [] zaL:=fun pins s U H Q I h=>wpAny_tests_nil ⟨H,I,h⟩
theorem PTs.nox {X:Cx}{ifs:List Expr}{t:TT}(h:PTs X.nox ifs t):PTs X ifs t:=fun pins s U H Q I hw =>
 wpAny_mono (h pins s U H Q (I.wish _) hw) (fun b s' ⟨H',I',q⟩=>⟨H',I'.unwish,q⟩) fun _ _ z=>z.elim
theorem zjQ {P:Program}{wd:World}{B:Around}{Z:Result->Shared->Prop}{u0:Shared}{el tg iter:Expr}{ifs:List Expr}{sc:Scope}{ps:Pos}{iv ac:Value}{ev:Env}(J0:Nat->Shared->Prop)
  (turn:∀k u,J0 k u->wpAny (model P wd) B (pyNext iv) (fun r u1=>match r with|none=>Z (.ok .next) u1|some v=>wpAny (model P wd) B (letOwnedTupleGo tg iv v) (fun _ u2 =>
   wpAny (model P wd) B (assign tg ev v) (fun _ u3=>wpAny (model P wd) B (forIn ifs true fun c r=>if r=true then do let ok <-isTrue c ev (eval c ev);pure (ForInStep.yield ok) else pure (ForInStep.yield r)) (fun ok u4 =>
    if ok=true then wpAny (model P wd) B (eval el ev) (fun y u5=>wpAny (model P wd) B (call (.builtin "list.append") [ac,y]) (fun _ u6=>∃m,m<k/\J0 m u6)
    (notedBy (model P wd) B ev fun e u=>Z (.error e) u) u5) (notedBy (model P wd) B ev fun e u=>Z (.error e) u) u4 else ∃m,m<k/\J0 m u4) (notedBy (model P wd) B ev fun e u=>Z (.error e) u) u3) (notedBy (model P wd) B ev fun e u=>Z (.error e) u) u2) (notedBy (model P wd) B ev fun e u=>Z (.error e) u) u1)
   (notedBy (model P wd) B ev fun e u=>Z (.error e) u) u)
  (k0:Nat) (start0:J0 k0 u0):codeAny (model P wd) B (.compLoop (.ListComp el [⟨tg,iter,ifs,0⟩] sc ps) 0 iv ac ev) Z u0:=by
 refine codeAny_loop rfl J0 (fun k u hJ=>wpAny_noted (E:=fun e u=>Z (.error e) u) (env:=ev) (m:=compTurn (.ListComp el [⟨tg,iter,ifs,0⟩] sc ps) 0 iv ac ev) ?_) k0 start0
 rw [compTurn_list]
 have one:=turn k u hJ
 refine wpAny_bind (wpAny_standAt (wpAny_bind (wpAny_mono one (fun r u1 q1=>?_) fun _ _ z=>z)))
 cases r with
 | none=>exact wpAny_pure q1
 | some v =>
  refine wpAny_bind (wpAny_mono q1 (fun _ u2 q2=>wpAny_bind (wpAny_mono q2 (fun _ u3 q3=>wpAny_bind (wpAny_mono q3 (fun ok u4 q4=>?_) fun _ _ z=>z)) fun _ _ z=>z)) fun _ _ z=>z)
  cases ok with
  | true=>exact wpAny_bind (wpAny_bind (wpAny_mono q4 (fun y u4 q4=>wpAny_bind (wpAny_mono q4 (fun _ u5 q5=>wpAny_pure (wpAny_pure ⟨rfl,q5⟩)) fun _ _ z=>z)) fun _ _ z=>z))
  | false=>exact wpAny_bind (wpAny_pure (wpAny_pure ⟨rfl,q4⟩))
def CompWN (J:It) (gt:TG) (tt:TT) (te:TE) (n:Nat) (U:St) (Q:VK) (H1:Hp):Prop:=∃W:Nat->Nat->List V->Hp->Prop,(∃m,W 0 m [] H1)/\∀i m ys H,W i m ys H ->
 (J.stop i H/\ys.length<=sizeLine/\∀l,H l=none->Q (.ref l) (upd H l (.lst ys))) \/
 (J.go i H/\ys.length<=sizeLine/\∀z H',J.yld i H z H'->gt z (List.replicate n none++U) H' fun aq H1=>∃own:St,aq=own++U/\own.length=n/\tt aq H1 fun b H2 =>
  if b=true then te aq H2 fun y H3=>∃m',m'<m/\W (i+1) m' (ys++[y]) H3 else ∃m',m'<m/\W (i+1) m' ys H2)
def zjR (wi:TI) (gt:TG) (tt:TT) (te:TE) (n:Nat):TE:=fun U H Q=>wi U H fun J H1=>CompWN J gt tt te n U Q H1
theorem zjS {X:Cx} {elt iter tg:Expr} {ifs:List Expr} {xs:List Str} {pos:Pos} {scope:Scope} {wi:TI} {gt:TG} {tt:TT} {te:TE} {M:List Str} (hc:X.calm=true) (S:CompSN X.env.scope scope xs) (eN:Hid scope M X.N) (hN0:((".0" : Str)::(xs++M)).Nodup)
  (hi:PI X tg iter wi) (hgt:∀cl C ae aj fp E,PG (cxNH X M scope cl xs C ae aj fp E) tg gt) (hif:∀cl C ae aj fp,PTs (cxNH X M scope cl xs C ae aj fp (fun _ _=>False)) ifs tt) (he:∀cl C ae aj fp,PE (cxNH X M scope cl xs C ae aj fp (fun _ _=>False)) elt te)
  (hs:∀v,foldedSetIterable iter X.env v=pure v:=by intro _;rfl):PE X (.ListComp elt [⟨tg,iter,ifs,0⟩] scope pos) (zjR wi gt tt te xs.length):=by
 intro pins s U H Q I h
 have hN:(xs++M).Nodup:=(List.nodup_cons.mp hN0).2
 have h0N:(".0" : Str)∉M:=fun z=>(List.nodup_cons.mp hN0).1 (List.mem_append_right _ z)
 obtain ⟨cl,hclos,hcl1,hcl2⟩:=zel X.env scope fun p hp hf=>I.ok.has p.1 (.inl (S.free p hp hf))
 have hkd:X.env.scope.kind=.function:=I.ok.kind
 rw [eval_ListComp]
 refine wpAny_comprehension_free (use:=none) rfl hs hclos S.kind (fun y hy hl=>(S.names y hy hl).1) ?_
 refine thn (hi pins s U H _ I h) fun v s1 h1=>thn h1 fun itv ae h2=>?_
 obtain ⟨it,fp,tn,J,H2,e,I2,T,st2,f2,W,⟨m0,w0⟩,turn⟩:=h2
 subst e
 refine wpAny_newObj_type (wpAny_newFunctionEnv S.ncell (by intro y hy;simp at hy) (fun aw az ay=>?_) S.kind)
 dsimp only at az ay ⊢
 generalize hH2:ae.heap.push { cls:=.type "list", dict:=none,data:=.seq ([]:List Value).toArray }=G2 at az ay ⊢
 have hC:G2.objs.size=ae.heap.objs.size+1:=by rw [<-hH2,Heap.size_push]
 have hDC:ae.heap.objs.size≠G2.objs.size:=by rw [hC];exact Nat.ne_of_lt (Nat.lt_succ_self _)
 have hCle:ae.heap.objs.size<=G2.objs.size:=by rw [hC];exact Nat.le_succ _
 have old:∀b o,ae.heap.get? b=some o->aw.get? b=some o:=fun b o e=>by
  have hb:b≠G2.objs.size:=by rw [hC];exact Nat.ne_of_lt (Nat.lt_succ_of_lt (Heap.lt_size e))
  exact ay.extBut b o hb (Heap.get?_push_of_some _ (hH2▸Heap.get?_push_of_some _ e))
 have hacc:aw.get? ae.heap.objs.size=some { cls:=.type "list", data:=.seq (#[]:Array Value) 0 }:=ay.extBut _ _ hDC (Heap.get?_push_of_some _ (hH2▸Heap.get?_push_size _ rfl))
 generalize hD:ae.heap.objs.size=D at *
 generalize hCC:G2.objs.size=C at *
 have ltS:∀{b:Nat} {o:Obj},ae.heap.get? b=some o->b<D:=fun e=>by rw [<-hD];exact Heap.lt_size e
 have nofr:∀b,D<=b->b∉frs X.stack:=fun b hb z=>by
  rcases List.mem_cons.mp (I2.stkSub b z) with q|q
  ·exact ar1 I2.lt hD hb q
  ·exact I2.nofs (by rw [hD];exact hb) q
 let E':Value->Shared->Prop:=notedBy (model X.prog X.w) X.A (compEnvC scope cl C X.env) fun e s'=>compPost (model X.prog X.w) X.A X.xe none (EP X pins U Q) (.ref D) C (.error e) s'
 let Y:Cx:=cxNH X M scope cl xs C ae H2 fp E'
 have fpX:∀b∈fp,FpOk X pins H2 b:=f2
 have okY:Y.Ok:=by
  refine ⟨I2.ok.mod,S.kind,I2.ok.glob,I2.ok.blt,(by show ae.heap.objs.size<=C;omega),fun y z c h1 h2=>?_,fun y hy=>?_,fun y c hf=>?_,I2.ok.hd,I2.ok.frames,.inl rfl,fun b hb=>?_,I2.bs,Nat.le_trans I2.ok.bsz I2.sz,fun b o hb hx=>?_,fun b hb hx=>?_,I2.stack,I2.stkFree⟩
  ·exact I2.ok.inj y z c (hcl1 y c h1) (hcl1 z c h2)
  ·exact hcl2 y (zb1 S hkd hy)
  ·cases hf
  ·refine ⟨fun z=>?_,fun y c hy=>(fpX b hb).2.2.2.2.1 y c (hcl1 y c hy)⟩
   obtain ⟨o,ho,_⟩:=T.obj 0 _ st2 b hb
   exact jY (ltS ho) hC z
  ·rcases (fpX b hx).2.2.2.1 with z|z
   ·exact I2.ok.noex b o hb z
   ·exact ar3 (Heap.lt_size hb) I2.ok.bsz z
  ·rcases List.mem_cons.mp (I2.stkSub b hx) with q|q
   ·exact (fpX b hb).2.1 q
   ·exact (fpX b hb).2.2.1 q
 have hpinD:∀{s':Shared} {H':Hp} {o:Obj},s'.heap.get? D=some o->H' D=none->(∀v,o.data ≠ .cell v)->∀p∈[(D,o)],s'.heap.get? p.1=some p.2/\H' p.1=none/\p.1≠Y.env.locals/\p.1∉Y.fs/\∀v,p.2.data ≠ .cell v:=fun {s' H' o} e1 e2 e3 p hp=>by
  have ep:p=(D,o):=by simpa using hp
  subst ep
  exact ⟨e1,e2,hDC,nofr D (Nat.le_refl _),e3⟩
 have I0:Inv Y [(D,{ cls:=.type "list", data:=.seq (#[]:Array Value) 0 })] (List.replicate xs.length none++U) H2 { ae with heap:=aw,toks:=ae.toks+([]:List (Str×Value)).length }:=by
  have fresh:∀b,D<=b->H2 b=none:=fun b hb=>I2.hok.fresh (by rw [hD];exact hb)
  refine ⟨okY,rfl,I2.bare,Un.kept old,⟨_,az,fun i y v e1 e2 e3=>?_⟩,fun y c hy=>?_,fresh C (by omega),fun y c hy=>I2.freeC y c (hcl1 y c hy),fun p hp=>hpinD hacc (fresh D (Nat.le_refl _)) (fun v z=>by cases z) p hp,I2.hok.kept old,?_⟩
  ·by_cases hlt:i<xs.length
   ·rw [List.getElem?_append_left (by simpa using hlt),List.getElem?_replicate] at e2
    simp [hlt] at e2
   ·obtain ⟨j,rfl⟩:∃j,i=xs.length+j:=⟨i-xs.length,by omega⟩
    have e0':M[j]?=some y:=by
     have:(xs++M)[xs.length+j]?=some y:=e1
     rw [List.getElem?_append_right (by omega)] at this
     simpa using this
    have e1':X.N[j]?=some y:=by
     rcases eN.get e0' with q|q
     ·exact q
     ·refine absurd ?_ q
      rcases e3 with e3|e3|e3<;>(obtain ⟨k0,hm,_⟩:=jM e3;exact List.mem_map.mpr ⟨_,hm,rfl⟩)
    have e2':U[j]?=some (some v):=by
     rw [List.getElem?_append_right (by simp)] at e2
     simpa using e2
    have hyx:¬(y∈xs\/y = ".0"):=fun z=>by
     have hm:=List.mem_of_getElem? e0'
     rcases z with z|z
     ·exact (List.nodup_append.mp hN).2.2 y z y hm rfl
     ·rw [z] at hm
      exact h0N hm
    have hfr:(y,NameKind.free)∈scope.names:=by
     rcases e3 with e3|e3|e3
     ·exact absurd (zen S e3) hyx
     ·exact zb1 S hkd (.inl e3)
     ·exact zb1 S hkd (.inr e3)
    have hkc:X.env.scope.names.lookup y=some .cell:=S.free _ hfr rfl
    obtain ⟨m,hn,hl⟩:=I2.loc
    obtain ⟨u,r,l⟩:=hl j y v e1' e2' (.inr (.inl hkc))
    refine ⟨u,r,?_⟩
    rcases l with ⟨hk,_⟩|⟨_,c,hcc,hcell⟩
    ·have:X.env.kindOf y=some .cell:=hkc
     rw [this] at hk;cases hk
    ·obtain ⟨c',hc'⟩:=hcl2 y hfr
     have:=hcl1 y c' hc'
     rw [hcc] at this
     cases this
     refine .inr ⟨?_,c,hc',?_⟩
     ·rcases e3 with e3|e3|e3
      ·exact absurd (zen S e3) hyx
      ·exact .inl e3
      ·exact .inr e3
     ·obtain ⟨o,ho,hd⟩:=hcell
      exact ⟨o,old c o ho,hd⟩
  ·obtain ⟨v,o,ho,hd⟩:=I2.cell y c (hcl1 y c hy)
   exact ⟨v,o,old c o ho,hd⟩
  ·show (List.replicate xs.length none++U).length=(xs++M).length
   simp [I2.len,eN.1]
 have fpY:∀{pl:List (Addr×Obj)} {H':Hp},(∀p∈pl,p.1=D)->(∀b∈fp,H' b=none)->∀b∈fp,FpOk Y pl H' b:=fun {pl H'} hpl hn b hb=>by
  obtain ⟨o,ho,_⟩:=T.obj 0 _ st2 b hb
  refine ⟨hn b hb,fun z=>?_,?_,.inl hb,(okY.exf b hb).2,fun p hp z=>?_⟩
  ·exact jY (ltS ho) hC z
  ·exact okY.exfs b hb
  ·have hp':p∈pl:=by simpa [Y,cxNH] using hp
   exact ar4 (ltS ho) (hpl p hp') z
 have loop:codeAny (model X.prog X.w) X.A (.compLoop (.ListComp elt [⟨tg,iter,ifs,0⟩] scope pos) 0 (.ref it) (.ref D) (compEnvC scope cl C X.env))
   (compPost (model X.prog X.w) X.A X.xe none (EP X pins U Q) (.ref D) C) { ae with heap:=aw,toks:=ae.toks+([]:List (Str×Value)).length }:=by
  refine zjQ (fun n s'=>∃i ys H' its k,Inv Y [(D,{ cls:=.type "list", data:=.seq (its:List Value).toArray k })] (List.replicate xs.length none++U) H' s'/\Vals ys its/\tn i s'.heap/\(∀b∈fp,H' b=none)/\W i n ys H') ?_ m0
   ⟨0,[],H2,[],0,I0,.nil,T.keep 0 _ _ st2 (fun b hb o e=>old b o e),fun b hb=>(fpX b hb).1,w0⟩
  rintro n s3 ⟨i,ys,H3,its,k,I3,rv,st3,fr3,w3⟩
  have pinl:∀{o:Obj},∀p∈[(D,o)],p.1=D:=fun {o} p hp=>by
   have ep:p=(D,o):=by simpa using hp
   rw [ep]
  obtain ⟨gD,nD,_,_,_⟩:=I3.pin (D,_) (List.mem_append_right _ List.mem_cons_self)
  rcases turn i n ys H3 w3 with ⟨stop,hz,q⟩|⟨go,hz,step⟩
  ·refine thn (T.done Y rfl rfl rfl hc i _ s3 _ H3 E' I3 (fpY pinl fr3) st3 stop) fun r s4 ⟨hr,I4⟩=>?_
   subst hr
   obtain ⟨gD4,nD4,_,_,_⟩:=I4.pin (D,_) (List.mem_append_right _ List.mem_cons_self)
   obtain ⟨m4,hn4,_⟩:=id I4.loc
   refine ⟨m4,hn4,fun h' hsb=>?_⟩
   refine ⟨.ref D,upd H3 D (.lst ys),?_,rfl,q D nD4⟩
   have neC:∀{b:Addr} {u:HO},H3 b=some u->b≠C:=fun e z=>by
    have:H3 C=none:=I4.free
    rw [z,this] at e;cases e
   refine I2.call' (s':={ s4 with heap:=h' }) (ch:=fp) (H':=upd H3 D (.lst ys)) I4.os ?_ ?_ I4.bare fun b hb=>⟨(fpX b hb).2.2.2.1,(fpX b hb).2.1,(fpX b hb).2.2.2.2.1,(fpX b hb).2.2.2.2.2⟩
   ·have B:=I4.base
    have ltC:∀{b:Nat} {o:Obj},ae.heap.get? b=some o->b≠C:=fun e z=>jY (ltS e) hC z
    have neD:∀{b:Addr} {u:HO},H3 b=some u->b≠D:=fun e z=>by rw [z,nD4] at e;cases e
    refine ⟨fun b o e nn hb hx=>(hsb.2 b (ltC e)).trans (B.keep b o e nn hb hx),fun b o e nn hb hx=>?_,fun b o e nn hx=>?_,fun b o e hx=>?_,fun b xs e=>?_,fun b o u e=>?_,fun b ps e=>?_⟩
    ·obtain ⟨sl,z⟩:=B.slot b o e nn hb hx
     exact ⟨sl,(hsb.2 b (ltC e)).trans z⟩
    ·have hbD:b≠D:=Nat.ne_of_lt (ltS e)
     rw [zp hbD]
     exact B.free b o e nn hx
    ·obtain ⟨o',z⟩:=B.there b o e hx
     exact ⟨o',(hsb.2 b (ltC e)).trans z⟩
    ·have z:=B.tups b xs e
     rw [zp (neD z)];exact z
    ·have z:=B.frzs b o u e
     rw [zp (neD z)];exact z
    ·obtain ⟨more,z⟩:=B.tbls b ps e
     exact ⟨more,by rw [zp (neD z)];exact z⟩
   ·intro a o e
    by_cases ha:a=D
    ·subst ha
     rw [zY] at e
     cases e
     exact ⟨hz,its,k,rv,(hsb.2 _ hDC).trans gD4⟩
    ·rw [zp ha] at e
     have keepNe:∀b u,H3 b=some u->(upd H3 D (.lst ys)) b=some u:=fun b u z=>by
      have hb:b≠D:=fun w=>by rw [w,nD4] at z;cases z
      rw [zp hb];exact z
     refine (I4.hok a o e).stay (fun b u hb z=>(hsb.2 b ?_).trans z) (fun b z=>keepNe b _ z) fun b xs z=>keepNe b _ z
     rcases hb with hb|hb
     ·rw [hb];exact neC e
     ·exact neC hb
  ·refine thn (T.item Y rfl rfl rfl hc i _ s3 _ H3 E' I3 (fpY pinl fr3) st3 go) fun r s4 ⟨u,hr,h4⟩=>?_
   subst hr
   refine thn h4 fun _ s5 ⟨z,H5,I5,r5,y5,st5,fr5⟩=>?_
   have I5':=I5.pinned (fpY pinl fr5) (T.obj _ _ st5)
   have pgx:PG Y tg gt:=hgt cl C ae H2 fp E'
   have peY:PE Y elt te:=PE.nox (X:=Y) (he cl C ae H2 fp)
   have ptY:PTs Y ifs tt:=PTs.nox (X:=Y) (hif cl C ae H2 fp)
   refine thn (pgx _ s5 (List.replicate xs.length none++U) H5 z u _ I5' r5 (step z _ y5)) fun _ s6 ⟨aG,H6,I6,own,e1,e2,q6⟩=>?_
   subst e1
   have wk:∀(j:Nat) v,(List.replicate xs.length none++U)[j]?=some (some v)->(own++U)[j]?=some (some v):=fun j v e=>by
    by_cases hlt:j<xs.length
    ·rw [List.getElem?_append_left (by simpa using hlt),List.getElem?_replicate] at e
     simp [hlt] at e
    ·rw [List.getElem?_append_right (by simp;omega)] at e
     rw [List.getElem?_append_right (by omega),e2]
     simpa using e
   have wl:(List.replicate xs.length none++U).length=(own++U).length:=by simp [e2]
   refine thn (ptY _ s6 _ _ _ I6 q6) fun b s7 ⟨H7,I7,q7⟩=>?_
   cases b with
   | true =>
    refine thn (peY _ s7 _ _ _ I7 q7) fun uy s7 ⟨y,H7,I7,ry,m',hm,w7⟩=>?_
    obtain ⟨gD7,nD7,_,_,_⟩:=I7.pin (D,_) (List.mem_append_right _ (List.mem_append_left _ List.mem_cons_self))
    refine wpAny_list_append_plain ⟨k,gD7⟩ (fun h' hpl hsb=>?_) (by rw [List.size_toArray,<-rv.length];exact hz)
    obtain ⟨k',gD'⟩:=hpl
    have I8:Inv Y [] (own++U) H7 { s7 with heap:=h' }:=(I7.pins_of (pins':=[]) (fun p hp=>nomatch hp)).turned (it:=D) (t':=s7.toks) (fun b o hb e=>(hsb.2 b hb).trans e) nD7 hDC
     (.inr (by show ae.heap.objs.size<=D;omega)) (fun a c hy hz'=>by
      obtain ⟨v',o',ho',_⟩:=I2.cell a c (hcl1 a c hy)
      exact Nat.ne_of_lt (ltS ho') hz') (fun p hp=>by simp [Y,cxNH] at hp)
    have I9:Inv Y [] (List.replicate xs.length none++U) H7 { s7 with heap:=h' }:=I8.weak wl wk
    have pinOf:∀b∈fp,∃o,s5.heap.get? b=some o/\s7.heap.get? b=some o/\H7 b=none:=fun b hb=>by
     obtain ⟨o,e,_⟩:=T.obj _ _ st5 b hb
     have q:=I7.pin (b,o) (List.mem_append_right _ (List.mem_append_right _ (wU hb e)))
     exact ⟨o,e,q.1,q.2.1⟩
    have fpD:∀b∈fp,b≠D:=fun b hb=>by
     obtain ⟨o,ho,_⟩:=T.obj 0 _ st2 b hb
     exact Nat.ne_of_lt (ltS ho)
    have eT:its.toArray.push uy=(its++[uy]).toArray:=by simp
    rw [eT] at gD'
    refine ⟨m',hm,i+1,ys++[y],H7,its++[uy],k',I9.pins_of (hpinD gD' nD7 fun v e=>by cases e),rv.append (.cons ry .nil),T.keep (i+1) _ _ st5 fun b hb o e=>?_,fun b hb=>?_,w7⟩
    ·obtain ⟨o',e1,e2,_⟩:=pinOf b hb
     rw [e] at e1
     cases e1
     exact (hsb.2 b (fpD b hb)).trans e2
    ·obtain ⟨_,_,_,q⟩:=pinOf b hb
     exact q
   | false =>
    obtain ⟨m',hm,w7⟩:=q7
    obtain ⟨gD7,nD7,_,_,_⟩:=I7.pin (D,_) (List.mem_append_right _ (List.mem_append_left _ List.mem_cons_self))
    have I9:Inv Y [] (List.replicate xs.length none++U) H7 s7:=(I7.pins_of (pins':=[]) (fun p hp=>nomatch hp)).weak wl wk
    have pinOf:∀b∈fp,∃o,s5.heap.get? b=some o/\s7.heap.get? b=some o/\H7 b=none:=fun b hb=>by
     obtain ⟨o,e,_⟩:=T.obj _ _ st5 b hb
     have q:=I7.pin (b,o) (List.mem_append_right _ (List.mem_append_right _ (wU hb e)))
     exact ⟨o,e,q.1,q.2.1⟩
    refine ⟨m',hm,i+1,ys,H7,its,k,I9.pins_of (hpinD gD7 nD7 fun v e=>by cases e),rv,T.keep (i+1) _ _ st5 fun b hb o e=>?_,fun b hb=>?_,w7⟩
    ·obtain ⟨o',e1,e2,_⟩:=pinOf b hb
     rw [e] at e1
     cases e1
     exact e2
    ·obtain ⟨_,_,_,q⟩:=pinOf b hb
     exact q
 exact codeAny_compStart_list loop (T.self X.A 0 _ _ _ (T.keep 0 _ _ st2 (fun b hb o e=>old b o e)) loop)
theorem zeo {X:Cx} {elt iter:Expr} {x:Str} {px pos:Pos} {scope:Scope} {wi:TI} {te:TE} {M:List Str} (hc:X.calm=true) (S:CompSc X.env.scope scope x) (eN:Hid scope M X.N) (hN0:((".0" : Str)::x::M).Nodup)
  (hi:PI X (.Name x px) iter wi) (he:∀cl C ae aj fp,PE (cxH X M scope cl x C ae aj fp (fun _ _=>False)) elt te)
  (hs:∀v,foldedSetIterable iter X.env v=pure v:=by intro _;rfl):PE X (.ListComp elt [⟨.Name x px,iter,[],0⟩] scope pos) (zb0 wi te):=by
 have hN:([x]++M).Nodup:=(List.nodup_cons.mp hN0).2
 have S':CompSN X.env.scope scope [x]:=⟨S.kind,S.ncell,fun y hy h=>⟨(S.names y hy h).1,(S.names y hy h).2.imp (fun e=>by rw [e];exact List.mem_singleton_self _) id⟩,S.free⟩
 have pgx:∀cl C ae aj fp E,PG (cxNH X M scope cl [x] C ae aj fp E) (.Name x px) (wf 0):=fun cl C ae aj fp E=>wS (X:=cxNH X M scope cl [x] C ae aj fp E) (i:=0) hN rfl (.inl (lookup_relabel_local S.hx)) (.inr (lookup_relabel_local S.hx))
 have e:∀U Q,(fun J H1=>CompW J te U Q H1)=fun J H1=>CompWN J (wf 0) zaL te 1 U Q H1:=fun U Q=>by
  funext J H1
  exact propext (exists_congr fun W=>and_congr Iff.rfl (forall_congr' fun i=>forall_congr' fun m=>forall_congr' fun ys=>forall_congr' fun H=>imp_congr Iff.rfl (or_congr Iff.rfl (and_congr Iff.rfl (and_congr Iff.rfl (forall_congr' fun z=>forall_congr' fun H'=>imp_congr Iff.rfl
   ⟨fun h=>⟨[some z],rfl,rfl,h⟩,fun ⟨_,_,_,h⟩=>h⟩))))))
 intro pins s U H Q I h
 refine zjS (te:=te) (tt:=zaL) hc S' eN hN0 hi pgx (fun cl C ae aj fp=>zjP) (fun cl C ae aj fp=>he cl C ae aj fp) hs pins s U H Q I ?_
 show wi U H fun J H1=>CompWN J (wf 0) zaL te 1 U Q H1
 rw [<-e]
 exact h
end L2
namespace L2
open PySem PySem.Spec PyProof.Rows
theorem zjT {X:Cx} {elt iter:Expr} {x:Str} {px pos:Pos} {scope:Scope} {wi:TI} {te:TE} {N:List Str} (hc:X.calm=true) (S:CompSc X.env.scope scope x) (eN:X.N=N) (hN0:((".0" : Str)::x::N).Nodup)
  (hi:PI X (.Name x px) iter wi) (he:∀cl C ae aj fp,PE (cxC X scope cl x C ae aj fp (fun _ _=>False)) elt te)
  (hs:∀v,foldedSetIterable iter X.env v=pure v:=by intro _;rfl):PE X (.ListComp elt [⟨.Name x px,iter,[],0⟩] scope pos) (zb0 wi te) :=
 zeo hc S Hid.refl (eN▸hN0) hi he hs
def Its (z:Str):It:=⟨fun i _=>i<z.cps.size,fun i H v H'=>H'=H/\∃c,z.cps[i]?=some c/\v=.str ⟨#[c]⟩,fun i _=>z.cps.size<=i⟩
theorem zep {P:Program} {w:World} {K:PySem.W.Frag} {tg:Expr} (z:Str) (t:Tok) (it:Addr) (ty:String) (hty:ty = "str_ascii_iterator" \/ ty = "str_iterator"):Turn P w K tg (Its z) [it] it (fun i h=>h.IsStrIter it ty z t i) where
 mem:=by simp
 obj:=fun i h st b hb=>by
  have e:b=it:=by simpa using hb
  subst e
  obtain ⟨o,e,c,d⟩:=st
  exact ⟨o,e,fun v z=>by rw [d] at z;cases z⟩
 keep:=fun i h h' st k=>by
  obtain ⟨o,e,r⟩:=st
  exact ⟨o,k it (by simp) o e,r⟩
 item:=by
  intro X hP hw hK hc i pins s U H E I hf st hg
  subst hP hw hK
  obtain ⟨f0,f1,f2,f3,f4,f5⟩:=hf it (by simp)
  have W:Walks X.prog X.w X.A it [it] [it] z.cps.size (SignAt z) (fun i h=>h.IsStrIter it ty z t i):=by
   rcases hty with e|e
   ·rw [e];exact Walks.strAscii (I.ok.hd hc) it z t
   ·rw [e];exact Walks.strWide (I.ok.hd hc) it z t
  refine W.item i s _ _ hg st fun v h' tk hv st' kk=>?_
  obtain ⟨c,u,hcx,rfl⟩:=hv
  have I1:Inv X pins U H { s with heap:=h',toks:=tk }:=I.turned (fun b o hb e=>kk b o (by simpa using hb) e) f0 f1 f3 f4 f5
  obtain ⟨o,e,cc,d⟩:=id st'
  exact ⟨_,rfl,wT (s:={ s with heap:=h',toks:=tk }) e cc d (by rcases hty with e|e<;>rw [e]<;>decide) ⟨.str ⟨#[c]⟩,H,I1,⟨u,rfl⟩,⟨rfl,c,hcx,rfl⟩,st',fun b hb=>(hf b hb).1⟩⟩
 done:=by
  intro X hP hw hK hc i pins s U H E I hf st hg
  subst hP hw hK
  obtain ⟨f0,f1,f2,f3,f4,f5⟩:=hf it (by simp)
  have hn:z.cps[i]?=none:=by
   have hg':z.cps.size<=i:=hg
   simpa using hg'
  rcases hty with e|e
  ·rw [e] at st
   exact wpAny_pyNext_ascii_end (I.ok.hd hc) st hn fun h' eb=>⟨rfl,I.turned (t':=s.toks) (fun b o hb e=>eb b o hb e) f0 f1 f3 f4 f5⟩
  ·rw [e] at st
   exact wpAny_pyNext_wide_end (I.ok.hd hc) st hn fun h' eb=>⟨rfl,I.turned (t':=s.toks) (fun b o hb e=>eb b o hb e) f0 f1 f3 f4 f5⟩
 self:=fun A i s Q E st h=>by
  rcases hty with e|e
  ·rw [e] at st;exact wpAny_pyIter_striter_ascii st h
  ·rw [e] at st;exact wpAny_pyIter_striter_wide st h
section
variable {X:Cx}
theorem sl_str:SlR X (fun x lo hi H Q=>∃z,x=.str z/\z.length<=sizeLine/\Q (.str (Txt.slice z lo hi)) H):=by
 intro pins s U H x v vl vu lo hi sl Q I rx hs pl pu h
 obtain ⟨z,rfl,hz,q⟩:=h
 obtain ⟨t,rfl⟩:=rx
 refine ⟨"str", _,F.slot_str_getitem.lookup,typeIs_str _ _ _,?_⟩
 have fin:∀t' k,EP X pins U Q (.str (Txt.slice z lo hi) t') { s with toks:=k }:=fun t' k=>⟨.str _,H,I.tok _,⟨_,rfl⟩,q⟩
 cases pl with
 | none =>
  cases pu with
  | none=>exact wpAny_getItem_str_slice (l:=none) (u:=none) (st:=none) hs rfl (post_val_or_str ⟨Nat.le_trans (Txt.slice_le z _ _) hz,fin⟩)
  | int j uj=>exact wpAny_getItem_str_slice (l:=none) (u:=some (j,uj)) (st:=none) hs rfl (post_val_or_str ⟨Nat.le_trans (Txt.slice_le z _ _) hz,fin⟩)
 | int i ui =>
  cases pu with
  | none=>exact wpAny_getItem_str_slice (l:=some (i,ui)) (u:=none) (st:=none) hs rfl (post_val_or_str ⟨Nat.le_trans (Txt.slice_le z _ _) hz,fin⟩)
  | int j uj=>exact wpAny_getItem_str_slice (l:=some (i,ui)) (u:=some (j,uj)) (st:=none) hs rfl (post_val_or_str ⟨Nat.le_trans (Txt.slice_le z _ _) hz,fin⟩)
theorem zeq:∀{bs:List Bool}{us:List Value},Vals (bs.map V.bl) us->us=bs.map Value.bool
 | [],us,r=>by rw [List.map_nil] at r;cases r;rfl
 | b::bs,us,r=>by
  rw [List.map_cons] at r
  cases r with
  | cons r1 r2 =>
   have e:_=Value.bool b:=r1
   rw [List.map_cons,<-zeq r2,e]
theorem vals_strs:∀{ys:List Str}{us:List Value},Vals (ys.map V.str) us->StrsAre us ys
 | [],us,r=>by rw [List.map_nil] at r;cases r;exact .nil
 | y::ys,us,r=>by
  rw [List.map_cons] at r
  cases r with
  | cons r1 r2 =>
   obtain ⟨t,e⟩:=r1
   subst e
   exact .cons y t (vals_strs r2)
theorem zjU:MtR X "str.join" (fun x xs H Q=>∃(z:Str) (a:Addr) (ys:List Str),x=.str z/\xs=[.ref a]/\SqL X.K H a (ys.map V.str)/\(ys.map (·.length)).sum+ys.length*z.length<=16777216/\Q (.str (Txt.join z ys)) H):=by
 intro pins s U H x xs v us Q I rx r h
 obtain ⟨z,a,ys,rfl,rfl,hl,hz,q⟩:=h
 obtain ⟨t,rfl⟩:=rx
 obtain ⟨u,rfl,ru⟩:=jx r
 cases ru
 obtain ⟨its,rv,pl,_⟩:=I.list hl
 exact join_list pl.isList (by simpa using vals_strs rv) hz fun t' k=>⟨.str _,H,I.tok _,⟨_,rfl⟩,q⟩
theorem zjV:OpR X (compareOp .In) (fun x y H Q=>∃(c:Nat) (z:Str),x=.str ⟨#[c]⟩/\y=.str z/\Q (.bl (decide (c∈z.cps.toList))) H):=by
 intro pins s U H x y v u Q I rx ry h
 obtain ⟨c,z,rfl,rfl,q⟩:=h
 refine ziE pins s U H _ _ v u Q I rx ry ⟨_,_,rfl,rfl,?_⟩
 rw [StrLaws.found_one]
 exact q
end
section
variable {κ:Type} [DecidableEq κ]
def valV (kvs:List (κ×V)) (k:κ):Option V:=(kvs.find? fun kv=>decide (kv.1=k)).map (·.2)
def putK (kvs:List (κ×V)) (k:κ) (v:V):List (κ×V) :=
 if (kvs.any fun kv=>decide (kv.1=k))=true then kvs.map (fun kv=>if kv.1=k then (kv.1,v) else kv) else kvs++[(k,v)]
theorem zaM {p:κ×V}{r:List (κ×V)}{k:κ}(e:p.1=k):valV (p::r) k=some p.2:=by simp [valV,List.find?_cons,e]
theorem zaN {p:κ×V}{r:List (κ×V)}{k:κ}(e:¬p.1=k):valV (p::r) k=valV r k:=by simp [valV,List.find?_cons,e]
theorem zer (k:κ):∀kvs:List (κ×V),(kvs.any fun kv=>decide (kv.1=k))=(valV kvs k).isSome
 | []=>rfl
 | p::r=>by
  rw [List.any_cons]
  by_cases e:p.1=k
  ·simp only [zaM e,decide_eq_true e,Bool.true_or,Option.isSome_some]
  ·rw [zaN e,decide_eq_false e,Bool.false_or];exact zer k r
theorem zb2 (kvs:List (κ×V)) (k:κ) (v:V):(putK kvs k v).length<=kvs.length+1:=by
 unfold putK
 split
 ·rw [List.length_map];omega
 ·rw [List.length_append,List.length_cons,List.length_nil];omega
theorem RelO.isSome_eq {o:Option V}{u:Option Value}(r:RelO o u):o.isSome=u.isSome:=by
 cases o with
 | none=>cases u with
  | none=>rfl
  | some _=>exact (show False from r).elim
 | some _=>cases u with
  | none=>exact (show False from r).elim
  | some _=>rfl
theorem KV.val {kvs:List (κ×V)}{vs:List (κ×Value)}(r:KV kvs vs) (k:κ):RelO (valV kvs k) (valueAt vs k):=by
 unfold KV at r
 induction r with
 | nil=>exact True.intro
 | @cons p q ps qs h t ih =>
  obtain ⟨h1,h2⟩:=h
  by_cases e:p.1=k
  ·have e':q.1=k:=h1.symm.trans e
   have b:valueAt (q::qs) k=some q.2:=by simp [valueAt,List.find?_cons,e']
   rw [zaM e,b];exact h2
  ·have e':¬q.1=k:=fun z=>e (h1.trans z)
   have b:valueAt (q::qs) k=valueAt qs k:=by simp [valueAt,List.find?_cons,e']
   rw [zaN e,b];exact ih
theorem KV.any {kvs:List (κ×V)}{vs:List (κ×Value)}(r:KV kvs vs) (k:κ):(kvs.any fun kv=>decide (kv.1=k))=vs.any fun kv=>decide (kv.1=k):=by
 unfold KV at r
 induction r with
 | nil=>rfl
 | cons h t ih=>rw [List.any_cons,List.any_cons,ih,h.1]
theorem KV.repl {kvs:List (κ×V)}{vs:List (κ×Value)}(r:KV kvs vs) (k:κ) {y:V}{u:Value}(ry:RelV y u) :
  KV (kvs.map fun kv=>if kv.1=k then (kv.1,y) else kv) (vs.map fun kv=>if kv.1=k then (kv.1,u) else kv):=by
 unfold KV at r ⊢
 induction r with
 | nil=>exact .nil
 | @cons p q ps qs h t ih =>
  rw [List.map_cons,List.map_cons]
  refine .cons ?_ ih
  obtain ⟨h1,h2⟩:=h
  by_cases e:p.1=k
  ·rw [if_pos e,if_pos (h1.symm.trans e)];exact ⟨h1,ry⟩
  ·rw [if_neg e,if_neg (fun z=>e (h1.trans z))];exact ⟨h1,h2⟩
theorem KV.put {kvs:List (κ×V)}{vs:List (κ×Value)}(r:KV kvs vs) (k:κ) {y:V}{u:Value}(ry:RelV y u):KV (putK kvs k y) (stored vs k u):=by
 unfold putK stored
 rw [r.any k]
 by_cases e:(vs.any fun kv=>decide (kv.1=k))=true
 ·rw [if_pos e,if_pos e];exact r.repl k ry
 ·rw [if_neg e,if_neg e];exact Paired.snoc r ⟨rfl,ry⟩
theorem KV.keys {kvs:List (κ×V)}{vs:List (κ×Value)}(r:KV kvs vs):kvs.map (·.1)=vs.map (·.1):=by
 unfold KV at r
 induction r with
 | nil=>rfl
 | cons h t ih=>rw [List.map_cons,List.map_cons,ih,h.1]
theorem KV.length {kvs:List (κ×V)}{vs:List (κ×Value)}(r:KV kvs vs):kvs.length=vs.length:=Paired.length r
end
theorem wj {P:Program}{w:World}{k:Key}{u:Value}(r:RelV (kV k) u):(mixKind P w).is k u=true:=by
 cases k with
 | inl i=>obtain ⟨t,e⟩:=(show ∃t,u=Value.int i t from r);subst e;exact zhA P w i t
 | inr x=>obtain ⟨t,e⟩:=(show ∃t,u=Value.str x t from r);subst e;exact zhB P w x t
theorem zes {P:Program}{w:World}:∀{ks:List Key}{us:List Value},Vals (ks.map kV) us->ItemsAre (mixKind P w) ks us
 | [],_,r=>by rw [List.map_nil] at r;cases r;exact .nil
 | k::ks,_,r=>by
  rw [List.map_cons] at r
  cases r with
  | cons h t=>exact .cons (wj h) (zes t)
abbrev KT (H:Hp):List (List Key×V)->List (List Key×Addr×Value)->Prop:=Paired fun p q=>p.1=q.1/\H q.2.1=some (.tup (p.1.map kV))/\RelV p.2 q.2.2
theorem KT.val {H:Hp}{kvs:List (List Key×V)}{xs:List (List Key×Addr×Value)}(r:KT H kvs xs) (k:List Key):RelO (valV kvs k) ((atKey xs k).map (·.2)):=by
 induction r with
 | nil=>exact True.intro
 | @cons p q ps qs h t ih =>
  obtain ⟨h1,_,h2⟩:=h
  by_cases e:p.1=k
  ·have e':q.1=k:=h1.symm.trans e
   have b:atKey (q::qs) k=some q.2:=by simp [atKey,List.find?_cons,e']
   rw [zaM e,b];exact h2
  ·have e':¬q.1=k:=fun z=>e (h1.trans z)
   have b:atKey (q::qs) k=atKey qs k:=by simp [atKey,List.find?_cons,e']
   rw [zaN e,b];exact ih
theorem KT.repl {H:Hp}{kvs:List (List Key×V)}{xs:List (List Key×Addr×Value)}(r:KT H kvs xs) (k:List Key) {y:V}{u:Value}(ry:RelV y u) :
  KT H (kvs.map fun kv=>if kv.1=k then (kv.1,y) else kv) (xs.map (putAt k u)):=by
 induction r with
 | nil=>exact .nil
 | @cons p q ps qs h t ih =>
  rw [List.map_cons,List.map_cons]
  refine .cons ?_ ih
  obtain ⟨h1,h2,h3⟩:=h
  unfold putAt
  by_cases e:p.1=k
  ·rw [if_pos e,if_pos (h1.symm.trans e)];exact ⟨h1,h2,ry⟩
  ·rw [if_neg e,if_neg (fun z=>e (h1.trans z))];exact ⟨h1,h2,h3⟩
theorem KT.put {H:Hp}{kvs:List (List Key×V)}{xs:List (List Key×Addr×Value)}(r:KT H kvs xs) (k:List Key) {b:Addr}{y:V}{u:Value}(hb:H b=some (.tup (k.map kV))) (ry:RelV y u) :
  KT H (putK kvs k y) (storedH xs k b u):=by
 have e:(kvs.any fun kv=>decide (kv.1=k))=(atKey xs k).isSome:=by
  rw [zer,(r.val k).isSome_eq,Option.isSome_map]
 unfold putK storedH
 rw [e]
 by_cases q:(atKey xs k).isSome=true
 ·rw [if_pos q,if_pos q];exact r.repl k ry
 ·rw [if_neg q,if_neg q];exact Paired.snoc r ⟨rfl,hb,ry⟩
theorem KT.keeps {H H':Hp}{kvs:List (List Key×V)}{xs:List (List Key×Addr×Value)}(r:KT H kvs xs) (ht:∀b ys,H b=some (.tup ys)->H' b=some (.tup ys)):KT H' kvs xs :=
 Paired.mapP r fun _ _ z=>⟨z.1,ht _ _ z.2.1,z.2.2⟩
section
variable {P:Program}{w:World}{H:Hp}{h:Heap}{a:Addr}
theorem zet {u:HO}(ok:HOk P w H h) (e:Rd H a u):ObjOk P w H h a u:=e.ok ok
theorem yA {kvs:List (Key×V)}(ok:HOk P w H h) (e:Rd H a (.dK kvs)):kvs.length<=sizeLine/\(a==sysModules)=false/\∃vs,KV kvs vs/\h.DictOf (mixKind P w) a vs :=
 show ObjOk P w H h a (.dK kvs) from zet ok e
theorem zeu {kvs:List (Key×V)}(ok:HOk P w H h) (e:H a=some (.dK kvs)):kvs.length<=sizeLine/\(a==sysModules)=false/\∃vs,KV kvs vs/\h.DictOf (mixKind P w) a vs:=yA ok (.inl e)
theorem wW {ks:List Key}(ok:HOk P w H h) (e:H a=some (.tup (ks.map kV))):(tupleKind (mixKind P w)).is h ks a:=by
 obtain ⟨_,its,r,o,h1,h2,n,h3⟩:=(show ObjOk P w H h a (.tup (ks.map kV)) from ok a _ e)
 exact ⟨o,its.toArray,n,h1,h2,h3,by simpa using zes r⟩
theorem wX {kvs:List (List Key×V)}(ok:HOk P w H h) (e:Rd H a (.dT kvs)):kvs.length<=sizeLine/\(a==sysModules)=false /\
  ∃xs,KT H kvs xs/\h.DictOfH (tupleKind (mixKind P w)) a xs:=by
 obtain ⟨z,y,xs,r,o,es,ep,h1,h2,h3,h4,h5⟩:=(show ObjOk P w H h a (.dT kvs) from zet ok e)
 refine ⟨z,y,xs,r,o,es,ep,h1,h2,h3,h4,fun x hx=>?_,h5⟩
 have all:∀{l:List (List Key×V)} {m:List (List Key×Addr×Value)},KT H l m->∀x∈m,(tupleKind (mixKind P w)).is h x.1 x.2.1:=by
  intro l m q
  induction q with
  | nil=>intro x hx;exact nomatch hx
  | @cons p q ps qs hq t ih =>
   intro x hx
   rcases List.mem_cons.mp hx with e|hx
   ·subst e
    exact wW ok (by rw [<-hq.1];exact hq.2.1)
   ·exact ih x hx
 exact all r x hx
theorem zjW {kvs:List (List Key×V)}(ok:HOk P w H h) (e:H a=some (.dT kvs)):kvs.length<=sizeLine/\(a==sysModules)=false /\
  ∃xs,KT H kvs xs/\h.DictOfH (tupleKind (mixKind P w)) a xs:=wX ok (.inl e)
end
def DGet (H:Hp) (a:Addr) (y:V) (r:Option V):Prop :=
 (∃kvs k,Rd H a (.dK kvs)/\y=kV k/\r=valV kvs k)\/∃kvs k b,Rd H a (.dT kvs)/\y=.ref b/\H b=some (.tup (k.map kV))/\r=valV kvs k
def DPut (H:Hp) (a:Addr) (y v:V) (H':Hp):Prop :=
 (∃kvs k,H a=some (.dK kvs)/\y=kV k/\kvs.length<sizeLine/\H'=upd H a (.dK (putK kvs k v))) \/
 ∃kvs k b,H a=some (.dT kvs)/\y=.ref b/\H b=some (.tup (k.map kV))/\kvs.length<sizeLine/\H'=upd H a (.dT (putK kvs k v))
theorem DGet.k {H:Hp}{a:Addr}{kvs:List (Key×V)}{k:Key}(e:H a=some (.dK kvs)):DGet H a (kV k) (valV kvs k):=.inl ⟨kvs,k,.inl e,rfl,rfl⟩
theorem DGet.t {H:Hp}{a b:Addr}{kvs:List (List Key×V)}{k:List Key}(e:H a=some (.dT kvs)) (eb:H b=some (.tup (k.map kV))):DGet H a (.ref b) (valV kvs k):=.inr ⟨kvs,k,b,.inl e,rfl,eb,rfl⟩
theorem DPut.k {H:Hp}{a:Addr}{kvs:List (Key×V)}{k:Key}{v:V}(e:H a=some (.dK kvs)) (hl:kvs.length<sizeLine):DPut H a (kV k) v (upd H a (.dK (putK kvs k v))):=.inl ⟨kvs,k,e,rfl,hl,rfl⟩
theorem DPut.t {H:Hp}{a b:Addr}{kvs:List (List Key×V)}{k:List Key}{v:V}(e:H a=some (.dT kvs)) (eb:H b=some (.tup (k.map kV))) (hl:kvs.length<sizeLine) :
  DPut H a (.ref b) v (upd H a (.dT (putK kvs k v))):=.inr ⟨kvs,k,b,e,rfl,eb,hl,rfl⟩
section
variable {X:Cx}{pins:List (Addr×Obj)}{U:St}{H:Hp}{s:Shared}{a:Addr}{y v:V}{u r:Value}{o:Option V}{A:Around}{E:Value->Shared->Prop}
theorem Inv.big (I:Inv X pins U H s):sysModules<s.heap.objs.size:=by
 have h:mainGlobals<s.heap.objs.size:=(I.mod.glob.keeps I.bk).lt
 exact Nat.lt_trans (by decide) h
theorem zjX {Q:Value->Shared->Prop}(hu:A.units+1<cLine) (I:Inv X pins U H s) (g:DGet H a y (some v)) (ry:RelV y u) (h:∀w' s',Inv X pins U H s'->RelV v w'->Q w' s') :
  wpAny (model X.prog X.w) A (getItem (.ref a) u) Q E s:=by
 rcases g with ⟨kvs,k,e,ey,l⟩|⟨kvs,k,b,e,ey,eb,l⟩
 ·subst ey
  obtain ⟨z,hd,vs,rel,dd⟩:=yA I.hok e
  obtain ⟨w',hw,rw'⟩:=RelO.some_of (v:=v) (o:=valueAt vs k) (by rw [l];exact rel.val k)
  exact wpAny_getItem_of (wj ry) dd.mapOf hw (h w' _ (I.tok _) rw')
 ·subst ey
  cases (show u=Value.ref b from ry)
  obtain ⟨z,hd,xs,rel,dd⟩:=wX I.hok e
  obtain ⟨w',hw,rw'⟩:=RelO.some_of (v:=v) (o:=(atKey xs k).map (·.2)) (by rw [l];exact rel.val k)
  obtain ⟨p,hp,hp2⟩:=Option.map_eq_some_iff.mp hw
  refine wpAny_getItem_heap (tupleKind_room_in1 hu) (wW I.hok eb) dd hp ?_
  rw [hp2]
  exact h w' _ (I.tok _) rw'
theorem zjY {Q:Value->Shared->Prop}(hu:A.units+1<cLine) (I:Inv X pins U H s) (g:DGet H a y o) (ry:RelV y u) (h:∀s',Inv X pins U H s'->Q (.bool o.isSome) s') :
  wpAny (model X.prog X.w) A (compareOp .In u (.ref a)) Q E s:=by
 rcases g with ⟨kvs,k,e,ey,l⟩|⟨kvs,k,b,e,ey,eb,l⟩
 ·subst ey
  obtain ⟨z,hd,vs,rel,dd⟩:=yA I.hok e
  refine wpAny_in_of (wj ry) hd dd.mapOf ?_
  rw [<-(rel.val k).isSome_eq,<-l]
  exact h _ (I.tok _)
 ·subst ey
  cases (show u=Value.ref b from ry)
  obtain ⟨z,hd,xs,rel,dd⟩:=wX I.hok e
  refine wpAny_in_heap (tupleKind_room_in1 hu) (wW I.hok eb) hd dd ?_
  have q:=(rel.val k).isSome_eq
  rw [Option.isSome_map] at q
  rw [<-q,<-l]
  exact h _ (I.tok _)
theorem zjZ {Q:Value->Shared->Prop}(hu:A.units+1<cLine) (I:Inv X pins U H s) (g:DGet H a y o) (ry:RelV y u) (h:∀s',Inv X pins U H s'->Q (.bool (!o.isSome)) s') :
  wpAny (model X.prog X.w) A (compareOp .NotIn u (.ref a)) Q E s:=by
 rcases g with ⟨kvs,k,e,ey,l⟩|⟨kvs,k,b,e,ey,eb,l⟩
 ·subst ey
  obtain ⟨z,hd,vs,rel,dd⟩:=yA I.hok e
  refine wpAny_notIn_of (wj ry) hd dd.mapOf ?_
  rw [<-(rel.val k).isSome_eq,<-l]
  exact h _ (I.tok _)
 ·subst ey
  cases (show u=Value.ref b from ry)
  obtain ⟨z,hd,xs,rel,dd⟩:=wX I.hok e
  refine wpAny_notIn_heap (tupleKind_room_in1 hu) (wW I.hok eb) hd dd ?_
  have q:=(rel.val k).isSome_eq
  rw [Option.isSome_map] at q
  rw [<-q,<-l]
  exact h _ (I.tok _)
theorem zb3 {h':Heap}{t':Nat}{ob:HO}(I:Inv X pins U H s) (mu:Mut (H a)) (hs:Heap.SameBut a s.heap h') (he:∃q,h'.get? a=some q) (new:ObjOk X.prog X.w (upd H a ob) h' a ob) :
  Inv X pins U (upd H a ob) { s with heap:=h',toks:=t' } :=
 I.write (x:=a) (e:=a) mu (.inl rfl) (fun b q hb z=>(hs.2 b hb).trans z) he new
theorem zev {P:Program}{w:World}{H':Hp}{h':Heap}{kvs:List (Key×V)}{vs:List (Key×Value)}(z:kvs.length<=sizeLine) (hd:(a==sysModules)=false) (rel:KV kvs vs) (dd:h'.DictOf (mixKind P w) a vs) :
  ObjOk P w H' h' a (.dK kvs):=⟨z,hd,vs,rel,dd⟩
theorem zj0 {H':Hp}{Q:Unit->Shared->Prop}(hu:A.units+1<cLine) (I:Inv X pins U H s) (g:DPut H a y v H') (ry:RelV y u) (rv:RelV v r) (h:∀s',Inv X pins U H' s'->Q () s') :
  wpAny (model X.prog X.w) A (setItem (.ref a) u r) Q E s:=by
 rcases g with ⟨kvs,k,e,ey,l,eH⟩|⟨kvs,k,b,e,ey,eb,l,eH⟩
 ·subst ey eH
  obtain ⟨z,hd,vs,rel,dd⟩:=zeu I.hok e
  have hz:vs.length<=sizeLine:=by rw [<-rel.length];exact z
  have hl:(putK kvs k v).length<=sizeLine:=by have:=zb2 kvs k v;omega
  refine wpAny_setItem_pairs (hsz:=hz) (wj ry) dd fun h' dd' hs=>h _ ?_
  have he:∃q,h'.get? a=some q:=let ⟨q,_,_,hq,_⟩:=dd';⟨q,hq⟩
  exact zb3 I (by rw [e];exact True.intro) hs he (zev hl hd (rel.put k rv) dd')
 ·subst ey eH
  cases (show u=Value.ref b from ry)
  obtain ⟨z,hd,xs,rel,dd⟩:=zjW I.hok e
  have hz:xs.length<=sizeLine:=by rw [<-Paired.length rel];exact z
  have hl:(putK kvs k v).length<=sizeLine:=by have:=zb2 kvs k v;omega
  refine wpAny_setItem_heap (hsz:=hz) (tupleKind_room_in1 hu) (wW I.hok eb) dd fun h' dd' hs=>h _ ?_
  obtain ⟨q,es,ep,hq,h2,h3,h4,_,h5⟩:=dd'
  refine zb3 I (by rw [e];exact True.intro) hs ⟨q,hq⟩ ⟨hl,hd,_,(rel.put k eb rv).keeps fun c ys ec=>?_,q,es,ep,hq,h2,h3,h4,h5⟩
  rw [zp (zhD ec e (fun z=>nomatch z))]
  exact ec
end
section
variable {X:Cx}{pins:List (Addr×Obj)}{U:St}{H:Hp}{s:Shared}{a:Addr}{kvs:List (Key×V)}{k:Key}{u:Value}{A:Around}{E:Value->Shared->Prop}
theorem zj1 {Q:Value->Shared->Prop} (I:Inv X pins U H s) (e:Rd H a (.dK kvs)) (h:∀t s',Inv X pins U H s'->Q (.int kvs.length t) s'):wpAny (model X.prog X.w) A (call (.builtin "len") [.ref a]) Q E s:=by
 obtain ⟨z,hd,vs,rel,dd⟩:=yA I.hok e
 refine call_len_dict hd dd (by rw [<-rel.length];rw [sizeLine_eq] at z;omega) ?_
 rw [<-rel.length]
 exact h _ _ (I.tok _)
end
theorem zj2 {X:Cx} {pins:List (Addr×Obj)} {U:St} {H:Hp} {s:Shared} {a:Addr} {y:V} {o:Option V} (I:Inv X pins U H s) (g:DGet H a y o):s.TypeIs (.ref a) "dict" := by
 rcases g with ⟨kvs,k,e,_,_⟩|⟨kvs,k,b,e,_,_,_⟩
 ·obtain ⟨_,_,vs,_,dd⟩:=yA I.hok e
  exact dd.typeIs
 ·obtain ⟨_,_,xs,_,dd⟩:=wX I.hok e
  exact dd.typeIs
def zj3 (td ty tv:TE):TS:=fun D U H=>tv U H fun v H1=>td U H1 fun x H2=>ty U H2 fun y H3=>∃a H4,x=.ref a/\DPut H3 a y v H4/\D.nx U H4
section
variable {X:Cx}{o i e value:Expr}{pos pos' tpos:Pos}{td ty tv:TE}
theorem zj4 (hu:X.A.units+1<cLine) (ho:PE X o td) (hi:PE X i ty) (hv:PE X value tv) (hs:swapsWith value (some (.Subscript o i pos')) pos.line X.env=pure false) :
  PS X (.Assign [.Subscript o i pos'] value pos) (zj3 td ty tv):=by
 intro pins s U H D I h
 refine wpAny_Assign_Subscript (thn (hv pins s U H _ I h) fun r s1 ⟨v,H1,I1,rv,q1⟩=>thn (ho pins s1 U H1 _ I1 q1) fun u s2 ⟨x,H2,I2,rx,q2⟩=>thn (hi pins s2 U H2 _ I2 q2) fun iv s3 ⟨y,H3,I3,ry,a,H4,ex,g,q3⟩=>?_) hs
 subst ex
 obtain rfl:u=Value.ref a:=rx
 exact zj0 hu I3 g ry rv fun s4 I4=>⟨U,H4,I4,q3⟩
end
theorem zew {P:Program} {w:World} {H:Hp} (h:Heap) (hb:sysModules<h.objs.size):ObjOk P w H (h.push { cls:=.type "dict", data:=.dict #[] }) h.objs.size (.dK []) :=
 ⟨Nat.zero_le _,beq_eq_false_iff_ne.mpr (Ne.symm (Nat.ne_of_lt hb)),[],.nil,Heap.DictOf.new h⟩
def zj5:TE:=fun _ H Q=>∀p,H p=none->Q (.ref p) (upd H p (.dK []))
section
variable {X:Cx}{pos:Pos}
theorem zj6:PE X (.Dict [] [] pos) zj5:=fun pins s U H Q I h =>
 wpAny_Dict_empty ⟨.ref s.heap.objs.size,_,I.laid (a:=s.heap.objs.size) (o:=.dK []) (t':=s.toks) (fun _ _ q=>Heap.get?_push_of_some _ q) (Nat.le_refl _) (zew s.heap I.big),rfl,h _ (I.hok.fresh (Nat.le_refl _))⟩
end
def zaO:List (TE×TE)->St->Hp->(List (V×V)->Hp->Prop)->Prop
 | [],_,H,Q=>Q [] H
 | (tk,tv)::r,U,H,Q=>tk U H fun x H1=>tv U H1 fun y H2=>zaO r U H2 fun ps H3=>Q ((x,y)::ps) H3
abbrev VV:List (V×V)->List (Value×Value)->Prop:=Paired fun p q=>RelV p.1 q.1/\RelV p.2 q.2
def PPs (X:Cx) (pos:Pos) (keys:List (Option Expr)) (values:List Expr) (trs:List (TE×TE)):Prop :=
 ∀(pins:List (Addr×Obj)) (s:Shared) (U:St) (H:Hp) (Q:List (V×V)->Hp->Prop),Inv X pins U H s->zaO trs U H Q ->
  wpAny (model X.prog X.w) X.A (evalPairs (pairTrees keys values X.env pos)) (fun vs s'=>∃ps H',Inv X pins U H' s'/\VV ps vs/\Q ps H') X.xe s
theorem zj7 {X:Cx}{pos:Pos}:PPs X pos [] [] []:=fun pins s U H Q I h=>pairTrees_nil_walk ⟨[],H,I,.nil,h⟩
theorem zj8 {X:Cx}{pos:Pos}{k v:Expr}{ks:List (Option Expr)}{vs:List Expr}{tk tv:TE}{trs:List (TE×TE)}(hk:PE X k tk) (hv:PE X v tv) (hr:PPs X pos ks vs trs) :
  PPs X pos (some k::ks) (v::vs) ((tk,tv)::trs):=fun pins s U H Q I h =>
 pairTrees_cons_walk (thn (hk pins s U H _ I h) fun u s1 ⟨x,H1,I1,rx,q1⟩=>thn (hv pins s1 U H1 _ I1 q1) fun w2 s2 ⟨y,H2,I2,ry,q2⟩ =>
  thn (hr pins s2 U H2 _ I2 q2) fun ws s3 ⟨ps,H3,I3,rel,q3⟩=>⟨(x,y)::ps,H3,I3,.cons ⟨rx,ry⟩ rel,q3⟩)
def mergeK (kvs more:List (Key×V)):List (Key×V):=more.foldl (fun acc kv=>putK acc kv.1 kv.2) kvs
theorem KV.merge:∀{more:List (Key×V)}{rs:List (Key×Value)}{kvs:List (Key×V)}{vs:List (Key×Value)},KV more rs->KV kvs vs->KV (mergeK kvs more) (merged vs rs):=by
 intro more rs kvs vs r
 unfold KV at r
 induction r generalizing kvs vs with
 | nil=>intro q;exact q
 | @cons p q ps qs h t ih =>
  intro r0
  have e:KV (putK kvs p.1 p.2) (stored vs q.1 q.2):=by
   have:=r0.put p.1 h.2
   rw [<-h.1];exact this
  exact ih e
theorem zex:∀(more kvs:List (Key×V)),(mergeK kvs more).length<=kvs.length+more.length
 | [],kvs=>by show kvs.length<=kvs.length+0;omega
 | p::r,kvs=>by
  have h1:=zex r (putK kvs p.1 p.2)
  have h2:=zb2 kvs p.1 p.2
  show (mergeK (putK kvs p.1 p.2) r).length<=_
  rw [List.length_cons];omega
theorem zey {P:Program}{w:World}:∀{kvs:List (Key×V)}{ws:List (Value×Value)},VV (kvs.map fun kv=>(kV kv.1,kv.2)) ws->∃rs,Carries (mixKind P w) ws rs/\KV kvs rs
 | [],_,r=>by rw [List.map_nil] at r;cases r;exact ⟨[],True.intro,.nil⟩
 | p::kvs,_,r=>by
  rw [List.map_cons] at r
  cases r with
  | @cons a b as bs h t =>
   obtain ⟨rs,c,q⟩:=zey (P:=P) (w:=w) t
   obtain ⟨b1,b2⟩:=b
   exact ⟨(p.1,b2)::rs,⟨wj h.1,rfl,c⟩,.cons ⟨rfl,h.2⟩ q⟩
def zj9 (trs:List (TE×TE)):TE:=fun U H Q=>∀p,H p=none->zaO trs U (upd H p (.dK [])) fun ps H2=>H2 p=some (.dK [])/\∃kvs:List (Key×V),ps=kvs.map (fun kv=>(kV kv.1,kv.2))/\kvs.length<=15/\Q (.ref p) (upd H2 p (.dK (mergeK [] kvs)))
theorem zka {X:Cx}{pos:Pos}{keys:List (Option Expr)}{values:List Expr}{trs:List (TE×TE)}(h:PPs X pos keys values trs) (hall:keys.all (·.isSome)=true) (hl:keys.length=values.length) (h0:keys≠[])
  (h15:keys.length<=15):PE X (.Dict keys values pos) (zj9 trs):=by
 intro pins s U H Q I q
 have hn:=I.hok.fresh (Nat.le_refl s.heap.objs.size)
 have I1:=I.laid (a:=s.heap.objs.size) (o:=.dK []) (h':=s.heap.push { cls:=.type "dict", data:=.dict #[] }) (t':=s.toks) (fun _ _ q=>Heap.get?_push_of_some _ q) (Nat.le_refl _) (zew s.heap I.big)
 refine wpAny_Dict_walk (knd:=mixKind X.prog X.w) hall hl h0 h15 (thn (h pins _ U _ _ I1 (q _ hn)) fun ws s2 ⟨ps,H2,I2,rel,e,kvs,ep,lk,q2⟩=>?_)
 subst ep
 obtain ⟨rs,c,rk⟩:=zey (P:=X.prog) (w:=X.w) rel
 obtain ⟨z,hd,vs0,r0,dd⟩:=zeu I2.hok e
 cases r0
 refine ⟨rs,c,dd,fun h' dd' hs=>⟨.ref s.heap.objs.size,_,?_,rfl,q2⟩⟩
 have hz:(mergeK [] kvs).length<=sizeLine:=by
  have h1:=zex kvs []
  rw [List.length_nil] at h1
  rw [sizeLine_eq];omega
 have he:∃q,h'.get? s.heap.objs.size=some q:=let ⟨q,_,_,hq,_⟩:=dd';⟨q,hq⟩
 exact zb3 I2 (by rw [e];exact True.intro) hs he (zev hz hd (rk.merge .nil) dd')
structure M1 (X:Cx) (o:Expr) (m:Str) (apos:Pos) (e:Expr) (cpos:Pos):Prop where
 base:attributeBase o m X.env (eval o X.env)=eval o X.env
 few:((backTo cpos (starEach [e] X.env)).all (fun x=>!x.1)&&(backToKw cpos (keywordEach [] X.env)).all (fun x=>x.1.isSome)
  && decide (([e]:List Expr).length+([]:List Keyword).length+(if ([]:List Keyword).isEmpty then 0 else 1)<30))=true
 line:(apos.endLine==cpos.line)=true
 trees:backTo cpos (starEach [e] X.env)=[(false,eval e X.env)]
structure M2 (X:Cx) (o:Expr) (m:Str) (apos:Pos) (e f:Expr) (cpos:Pos):Prop where
 base:attributeBase o m X.env (eval o X.env)=eval o X.env
 few:((backTo cpos (starEach [e,f] X.env)).all (fun x=>!x.1)&&(backToKw cpos (keywordEach [] X.env)).all (fun x=>x.1.isSome)
  && decide (([e,f]:List Expr).length+([]:List Keyword).length+(if ([]:List Keyword).isEmpty then 0 else 1)<30))=true
 line:(apos.endLine==cpos.line)=true
 trees:backTo cpos (starEach [e,f] X.env)=[(false,eval e X.env),(false,eval f X.env)]
section
variable {X:Cx}{pins:List (Addr×Obj)}{U:St}{H:Hp}{s:Shared}{a:Addr}{y d:V}{u r:Value}{o:Option V}{A:Around}{E:Value->Shared->Prop}
end
section
variable {X:Cx}{o e f:Expr}{apos cpos:Pos}{td ty tx:TE}
end
section
variable {X:Cx}{pins:List (Addr×Obj)}{U:St}{H:Hp}{s:Shared}{a:Addr}{kvs:List (Key×V)}{A:Around}{E:Value->Shared->Prop}
end
section
variable {X:Cx}{pins:List (Addr×Obj)}{U:St}{H:Hp}{s:Shared}{a:Addr}{y:V}{u:Value}{A:Around}{E:Value->Shared->Prop}
end
def XO (h:Heap) (a:Addr) (C:Value) (d:Option Addr) (head:Value):Prop :=
 ∃oe vs,h.get? a=some oe/\oe.cls=C/\oe.dict=d/\oe.data=.fields vs/\vs.size=6/\vs[1]?=some head
def TB (h:Heap) (T:Addr) (fl:Value):Prop:=∃oT ts,h.get? T=some oT/\oT.data=.fields ts/\ts[3]?=some fl
theorem zkb (o:Obj) (f):(o.mapFields f).dict=o.dict:=by
 obtain ⟨c,d,dt,sl⟩:=o
 cases dt<;>rfl
theorem XO.keeps {h h':Heap}{a:Addr}{C:Value}{d:Option Addr}{head:Value}(x:XO h a C d head) (k:∀o,h.get? a=some o->h'.get? a=some o):XO h' a C d head:=by
 obtain ⟨oe,vs,e,r⟩:=x
 exact ⟨oe,vs,k _ e,r⟩
theorem TB.keeps {h h':Heap}{T:Addr}{fl:Value}(x:TB h T fl) (k:∀o,h.get? T=some o->h'.get? T=some o):TB h' T fl:=by
 obtain ⟨oT,ts,e,r⟩:=x
 exact ⟨oT,ts,k _ e,r⟩
theorem XO.set1 {h:Heap}{a:Addr}{C:Value}{d:Option Addr}{head:Value}(x:XO h a C d head) (u:Value):XO (h.update a (Obj.mapFields (·.setIfInBounds 1 u))) a C d u:=by
 obtain ⟨oe,vs,e,hc,hdi,hd,hz,h1⟩:=x
 have hd':=Obj.data_mapFields hd (·.setIfInBounds 1 u)
 refine ⟨_,_,Heap.get?_update_self _ e (Obj.isFreed_of_fields hd'),(Obj.cls_mapFields _ _).trans hc,(zkb _ _).trans hdi,hd',?_,?_⟩
 ·rw [Array.size_setIfInBounds];exact hz
 ·have:1<vs.size:=by omega
  simp [this]
theorem TB.set3 {h:Heap}{T:Addr}{fl:Value}(x:TB h T fl) (u:Value):TB (h.update T (Obj.mapFields (·.setIfInBounds 3 u))) T u:=by
 obtain ⟨oT,ts,e,hd,h3⟩:=x
 have hd':=Obj.data_mapFields hd (·.setIfInBounds 3 u)
 refine ⟨_,_,Heap.get?_update_self _ e (Obj.isFreed_of_fields hd'),hd',?_⟩
 have:3<ts.size:=(Array.getElem?_eq_some_iff.mp h3).1
 simp [this]
section
variable {M:Model}{A:Around}{E:Value->Shared->Prop}{s:Shared}{base:Heap}{env:Env}{outer:List Env}{L a:Addr}{C:Value}{d:Option Addr}{head:Value}{Q:Unit->Shared->Prop}
theorem zez {b2:Bool}(hfr:A.frames=some (env::outer)) (hl:s.heap.FunFrames base (env::outer)) (hf:env.frame=some L) (x:XO s.heap a C d head)
  (h:∀h' T,s.heap.objs.size<=T->XO h' a C d (.ref T)->TB h' T (rawInt L)->(∀b o,b≠a->b∉frs (env::outer)->s.heap.get? b=some o->h'.get? b=some o) ->
   (∀b o,b≠a->b∈frs (env::outer)->s.heap.get? b=some o->∃sl,h'.get? b=some { o with slots:=sl })->Q () { s with heap:=h' }) :
  wpAny M A (do let fr <-frameOf env;let pl <-entryPlaceOf L b2;let tb <-EntryCells.newEntry head fr .none (rawInt L) .none pl;setField (.ref a) 1 tb) Q E s:=by
 obtain ⟨oe,vs,e,hc,hdi,hd,hz,h1⟩:=id x
 have aN:a∉frs (env::outer):=fun hm=>by
  obtain ⟨_,o,ho,nf⟩:=hl.mem hm
  rw [e] at ho
  cases ho
  exact nf vs hd
 refine wpAny_bind (wpAny_frameOf_fun hfr hl hf fun g1 sl1=>wpAny_bind (wpAny_entryPlaceOf fun pl ipl=>?_))
 unfold EntryCells.newEntry newFields
 refine wpAny_bind (wpAny_newObj_type ?_ (ipl.sizeOk5 _ _ _ _ _))
 have x1:XO g1 a C d head:=⟨oe,vs,(sl1.2.1 a aN).trans e,hc,hdi,hd,hz,h1⟩
 generalize hob:({ cls:=.type "traceback", dict:=none,data:=.fields ([head,.ref L,.none,rawInt L,.none]++(if pl.isEmpty then List.replicate 6 Value.none else pl)).toArray }:Obj)=ob
 have x2:XO (g1.push ob) a C d head:=x1.keeps fun o q=>Heap.get?_push_of_some _ q
 obtain ⟨oe2,vs2,e2,_,_,hd2,hz2,_⟩:=id x2
 refine wpAny_setField e2 hd2 (by omega) ?_
 have aT:g1.objs.size≠a:=fun z=>by
  obtain ⟨_,_,q,_⟩:=x1
  have:=Heap.lt_size q
  rw [<-z] at this
  exact Nat.lt_irrefl _ this
 have szle:s.heap.objs.size<=g1.objs.size:=Nat.le_of_eq sl1.1.symm
 refine h _ g1.objs.size szle (x2.set1 _) ?_ (fun b o nb nf q=>?_) (fun b o nb nf q=>?_)
 ·have t0:TB (g1.push ob) g1.objs.size (rawInt L):=by
   refine ⟨ob,_,Heap.get?_push_size _ (by rw [<-hob];rfl),by rw [<-hob],?_⟩
   rcases ipl with rfl|⟨_,_,_,_,_,_,_,rfl⟩<;>simp
  exact t0.keeps fun o q=>(Heap.get?_update_other _ _ (Ne.symm aT)).trans q
 ·exact (Heap.get?_update_other _ _ (Ne.symm nb)).trans (Heap.get?_push_of_some _ ((sl1.2.1 b nf).trans q))
 ·obtain ⟨sl,z⟩:=sl1.2.2 b o q
  exact ⟨sl,(Heap.get?_update_other _ _ (Ne.symm nb)).trans (Heap.get?_push_of_some _ z)⟩
theorem zkc (hfr:A.frames=some (env::outer)) (hl:s.heap.FunFrames base (env::outer)) (hf:env.frame=some L) (x:XO s.heap a C d head)
  (ht:head=.none\/∃T0,head=.ref T0/\T0≠a/\TB s.heap T0 .none)
  (h:∀h' T,s.heap.objs.size<=T->XO h' a C d (.ref T)->TB h' T (rawInt L)->(∀b o,b≠a->.ref b≠head->b∉frs (env::outer)->s.heap.get? b=some o->h'.get? b=some o) ->
   (∀b o,b∈frs (env::outer)->s.heap.get? b=some o->∃sl,h'.get? b=some { o with slots:=sl })->Q () { s with heap:=h' }) :
  wpAny M A (noteFrame (.ref a) env) Q E s:=by
 obtain ⟨oe,vs,e,hc,hdi,hd,hz,h1⟩:=id x
 have aN:a∉frs (env::outer):=fun hm=>by
  obtain ⟨_,o,ho,nf⟩:=hl.mem hm
  rw [e] at ho
  cases ho
  exact nf vs hd
 unfold noteFrame
 simp only [hf]
 refine wpAny_bind (wpAny_field e hd h1 ?_)
 rcases ht with rfl|⟨T0,rfl,nT,t0⟩
 ·rw [if_neg (by decide)]
  exact zez hfr hl hf x fun h' T k1 k2 k3 k4 k5=>h h' T k1 k2 k3 (fun b o nb _ nf q=>k4 b o nb nf q) fun b o hb q=>k5 b o (fun z=>aN (z▸hb)) hb q
 ·obtain ⟨oT,ts,eT,hdT,h3⟩:=id t0
  have TN:T0∉frs (env::outer):=fun hm=>by
   obtain ⟨_,o,ho,nf⟩:=hl.mem hm
   rw [eT] at ho
   cases ho
   exact nf ts hdT
  rw [if_pos (show (Value.ref T0 != Value.none)=true from by simp)]
  refine wpAny_bind (wpAny_field eT hdT h3 ?_)
  rw [if_neg (show ¬((Value.none==rawInt L)=true) from by simp [rawInt])]
  refine wpAny_bind (wpAny_setField eT hdT (Array.getElem?_eq_some_iff.mp h3).1 ?_)
  have oth:∀b,b≠T0->(s.heap.update T0 (Obj.mapFields (·.setIfInBounds 3 Value.none))).get? b=s.heap.get? b:=fun b hb=>Heap.get?_update_other _ _ (Ne.symm hb)
  refine zez (s:={ s with heap:=s.heap.update T0 (Obj.mapFields (·.setIfInBounds 3 Value.none)) }) hfr (hl.of_keeps fun b o hb nf=>⟨o,(oth b fun q=>?_).trans hb,rfl⟩) hf (x.keeps fun o q=>(oth a (Ne.symm nT)).trans q) fun h' T k1 k2 k3 k4 k5 =>
   h h' T (by simpa using k1) k2 k3 (fun b o nb nh nf q=>k4 b o nb nf ((oth b fun z=>nh (by rw [z])).trans q)) fun b o hb q=>k5 b o (fun z=>aN (z▸hb)) hb ((oth b fun z=>TN (z▸hb)).trans q)
  rw [q,eT] at hb
  cases hb
  exact nf ts hdT
theorem zkd {T:Addr}{fl:Value}(x:XO s.heap a C d (.ref T)) (t:TB s.heap T fl) (ne:T≠a)
  (h:∀h',XO h' a C d (.ref T)->TB h' T .none->(∀b o,b≠T->s.heap.get? b=some o->h'.get? b=some o)->h'.objs.size=s.heap.objs.size->Q () { s with heap:=h' }):wpAny M A (setFlight (.ref a) none) Q E s:=by
 obtain ⟨oe,vs,e,_,_,hd,_,h1⟩:=id x
 obtain ⟨oT,ts,eT,hdT,h3⟩:=id t
 unfold setFlight
 refine wpAny_bind (wpAny_field e hd h1 ?_)
 rw [if_pos (show (Value.ref T != Value.none)=true from by simp)]
 refine wpAny_setField eT hdT (Array.getElem?_eq_some_iff.mp h3).1 ?_
 exact h _ (x.keeps fun o q=>(Heap.get?_update_other _ _ ne).trans q) (t.set3 _) (fun b o nb q=>(Heap.get?_update_other _ _ (Ne.symm nb)).trans q) (by simp)
end
def OwnRec (X:Cx) (pins:List (Addr×Obj)) (H:Hp) (b:Addr):Prop :=
 H b=none/\X.s₀.heap.objs.size<=b/\b≠X.env.locals/\(∀x c,X.env.cells.lookup x=some c->c≠b)/\∀p∈X.pn++pins,p.1≠b
theorem OwnRec.new {X:Cx}{pins:List (Addr×Obj)}{U:St}{H H':Hp}{s:Shared}{b:Addr}(I:Inv X pins U H s) (hb:s.heap.objs.size<=b) (hn:H' b=none):OwnRec X pins H' b:=by
 obtain ⟨f0,f1,f2,f3,f4,f5⟩:=I.fpOk (H':=H') hb hn
 exact ⟨hn,Nat.le_trans I.sz hb,f1,f4,f5⟩
def Fly (X:Cx) (pins:List (Addr×Obj)) (H:Hp) (h:Heap) (a C:Addr) (d:Option Addr):Prop :=
 ∃head,XO h a (.ref C) d head/\OwnRec X pins H a/\(head=.none\/∃T,head=.ref T/\T≠a/\TB h T .none/\OwnRec X pins H T)
def Throws (X:Cx) (E:XK):Prop:=∀(pins:List (Addr×Obj)) (U:St) (H:Hp) (s:Shared) (a C:Addr) (d:Option Addr),Inv X pins U H s->Fly X pins H s.heap a C d->E (.ref C) d H->X.xe (.ref a) s
def CXe (P:Program) (w:World):CXT:=fun outer H s E e s'=>∃(a C T:Addr) (d:Option Addr) (H':Hp),e=.ref a/\s'.os=s.os/\AllBare s'.gens/\Un (frs outer) [] H H' s.heap s'.heap/\HOk P w H' s'.heap /\
 XO s'.heap a (.ref C) d (.ref T)/\T≠a/\TB s'.heap T .none/\(s.heap.objs.size<=a/\H' a=none)/\(s.heap.objs.size<=T/\H' T=none)/\E (.ref C) d H'
theorem zke {X:Cx}{E:XK}(t:Throws X E):Passes (CXe X.prog X.w) X E:=by
 rintro pins U H s e s' I ⟨a,C,T,d,H',rfl,os,bare,un,hok,x,ne,tb,⟨a1,a2⟩,⟨t1,t2⟩,q⟩
 have I':Inv X pins U H' s':=I.call' (ch:=[]) os un hok bare fun b z=>absurd z (by simp)
 exact t pins U H' s' a C d I' ⟨_,x,OwnRec.new I a1 a2,.inr ⟨T,rfl,ne,tb,OwnRec.new I t1 t2⟩⟩ q
def chOf (a:Addr):Value->List Addr
 | .ref T0=>[a,T0]
 | _=>[a]
theorem zeA (a:Addr) (v:Value):a∈chOf a v:=by cases v<;>simp [chOf]
theorem zeB (a T0:Addr):T0∈chOf a (.ref T0):=by simp [chOf]
section
variable {X:Cx}{pins:List (Addr×Obj)}{U:St}{H:Hp}{s:Shared}{a C:Addr}{d:Option Addr}{A:Around}{E:Value->Shared->Prop}{Q:Unit->Shared->Prop}
theorem zb4 (I:Inv X pins U H s) (hfr:A.frames=some X.stack) (hst:X.stack=X.env::X.outer) (hf:X.env.frame=some X.env.locals) (F:Fly X pins H s.heap a C d)
  (h:∀s' T,Inv X pins U H s'->XO s'.heap a (.ref C) d (.ref T)->T≠a->TB s'.heap T (rawInt X.env.locals)->OwnRec X pins H a->OwnRec X pins H T->Q () s'):wpAny (model X.prog X.w) A (noteFrame (.ref a) X.env) Q E s:=by
 obtain ⟨head,x,oa,ht⟩:=F
 have hl:s.heap.FunFrames X.base (X.env::X.outer):=hst▸I.stack
 have hfr':A.frames=some (X.env::X.outer):=hfr.trans (congrArg some hst)
 have efr:frs (X.env::X.outer)=X.env.locals::X.fs:=by
  unfold frs
  rw [List.filterMap_cons,hf]
  rfl
 have hfree:∀b∈X.env.locals::X.fs,H b=none:=fun b hb=>I.stkFree b (by rw [hst,efr];exact hb)
 have headN:∀b u,H b=some u->Value.ref b≠head:=fun b u e z=>by
  rcases ht with rfl|⟨T0,rfl,_,_,r⟩
  ·cases z
  ·cases z
   rw [r.1] at e
   cases e
 refine zkc hfr' hl hf x (ht.imp id fun ⟨T0,e1,e2,e3,_⟩=>⟨T0,e1,e2,e3⟩) fun h' T k1 k2 k3 k4 k5=>?_
 rw [efr] at k4 k5
 have oT:OwnRec X pins H T:=OwnRec.new I k1 (I.hok.fresh k1)
 have neT:T≠a:=fun z=>by
  obtain ⟨_,_,e,_⟩:=x
  have:=Heap.lt_size e
  rw [<-z] at this
  exact Nat.lt_irrefl _ (Nat.lt_of_lt_of_le this k1)
 refine h { s with heap:=h' } T ?_ k2 neT k3 oa oT
 refine I.step (g':=s.gens) (t':=s.toks) (d':=s.drawn) (ch:=chOf a head) (fun b hb=>?_) (fun b o n1 n2 n3 e n=>k4 b o (fun z=>n3 ?_) (fun z=>n3 ?_) (fun z=>(List.mem_cons.mp z).elim n1 n2) e)
  (fun b o n1 n2 n3 e n=>k5 b o (List.mem_cons_of_mem _ n2) e) (fun _ _ _ _ n=>n) (fun b o n3 e=>?_) (fun _ _ e=>e) (fun _ _ _ e=>e) (fun b ps e=>⟨#[],by rw [e];simp⟩) (fun m hm=>?_) (fun b u e=>?_) I.bare
 ·have own:OwnRec X pins H b:=by
   rcases ht with rfl|⟨T0,rfl,_,_,r⟩
   ·have z:b=a:=by simpa [chOf] using hb
    rw [z];exact oa
   ·have z:b=a\/b=T0:=by simpa [chOf] using hb
    rcases z with z|z
    ·rw [z];exact oa
    ·rw [z];exact r
  exact ⟨.inr own.2.1,own.2.2.1,own.2.2.2.1,own.2.2.2.2⟩
 ·rw [z]
  exact zeA a head
 ·rw [<-z]
  exact zeB a b
 ·by_cases hb:b∈X.env.locals::X.fs
  ·obtain ⟨sl,z⟩:=k5 b o hb e
   exact ⟨_,z⟩
  ·exact ⟨o,k4 b o (fun z=>n3 (by rw [z];exact zeA a head)) (fun z=>n3 (by rw [<-z];exact zeB a b)) hb e⟩
 ·obtain ⟨o,es,ep,ho,r⟩:=hm
  obtain ⟨sl,z⟩:=k5 _ o List.mem_cons_self ho
  exact ⟨_,es,ep,z,r⟩
 ·refine (I.hok b u e).stay (fun c v hc q=>?_) (fun _ q=>q) fun _ _ q=>q
  have tr:∃u',H c=some u':=by
   rcases hc with z|z
   ·exact ⟨u,by rw [z];exact e⟩
   ·exact ⟨_,z⟩
  obtain ⟨u',eu⟩:=tr
  exact k4 c v (fun z=>by rw [z,oa.1] at eu;cases eu) (headN c u' eu) (fun z=>by rw [hfree c z] at eu;cases eu) q
theorem wY {T:Addr}{fl:Value}(I:Inv X pins U H s) (x:XO s.heap a (.ref C) d (.ref T)) (ne:T≠a) (tb:TB s.heap T fl) (oa:OwnRec X pins H a) (oT:OwnRec X pins H T)
  (h:∀s',Inv X pins U H s'->XO s'.heap a (.ref C) d (.ref T)->TB s'.heap T .none->Q () s'):wpAny (model X.prog X.w) A (setFlight (.ref a) none) Q E s:=by
 refine zkd x tb ne fun h' k1 k2 k3 _=>h { s with heap:=h' } ?_ k1 k2
 exact I.turned (t':=s.toks) (it:=T) (fun b o nb e=>k3 b o nb e) oT.1 oT.2.2.1 (.inr oT.2.1) oT.2.2.2.1 oT.2.2.2.2
end
section
variable {P:Program}{w:World}{K:PySem.W.Frag}{mg:Str->Option Value}{base:Heap}
theorem Fun.okX {x qual:Str}{st:Stmt}{f:Addr}{fd:FuncData}{N ps:List Str}{k:Nat}{sp:Sp}(F:Fun K x qual st f fd) (S:FnScope N ps (zw st)) (len:∀vs H Q E,sp vs H Q E->vs.length=ps.length)
  (hbody:∀(cdv:Value) (A:Around) (outer:List Env) (s:Shared) (H:Hp) (vs:List V) (Q:VK) (E:XK),Room k (A.deeper (envOfC qual (zw st) s.heap.objs.size f cdv))->sp vs H Q E ->
   ∃t,PSs (cxOf (CXe P w) P w K mg base N qual (zw st) f cdv A outer s H E) (yt st) t/\t { nx:=fun _ H'=>Q .non H',rt:=Q } (start N vs) H):FnOk P w K mg base (CXe P w) (k+1) f fd ps sp:=by
 obtain ⟨oc,od,kV,doc,pm,an,cdv,ct,osl,rfl,lk,hcd⟩:=F.ex
 exact zd4 lk hcd S len fun A outer s H vs Q E hr hsp=>hbody cdv A outer s H vs Q E hr hsp
end
end L2
namespace L2
open PySem PySem.Spec PyProof.Rows PySem.W PySem.Builtin PySem.Builtin.ObjectAttr
theorem zkf (self:Value):refuseLoop self "__setattr__" [.type "ValueError", .type "Exception", .type "BaseException", .type "object"]=pure ():=by kernel_rfl
def valLine:List Value->Bool
 | [.type a,.type b,.type c,.type d]=>a == "ValueError" && b == "Exception" && c == "BaseException" && d == "object"
 | .ref _::r=>valLine r
 | _=>false
theorem zeC (self:Value):∀{l:List Value},valLine l=true->refuseLoop self "__setattr__" l=pure ()
 | [.type a,.type b,.type c,.type d],e=>by
  simp only [valLine,Bool.and_eq_true,beq_iff_eq] at e
  obtain ⟨⟨⟨rfl,rfl⟩,rfl⟩,rfl⟩:=e
  exact zkf self
 | .ref c::r,e=>by
  rw [refuseLoop_ref]
  exact zeC self (by cases r<;>first|exact e|cases e)
theorem zeD:∀{l:List Value},valLine l=true->l.contains (.type "object")=true
 | [.type a,.type b,.type c,.type d],e=>by
  simp only [valLine,Bool.and_eq_true,beq_iff_eq] at e
  obtain ⟨⟨⟨rfl,rfl⟩,rfl⟩,rfl⟩:=e
  simp
 | .ref c::r,e=>by
  rw [List.contains_cons,zeD (l:=r) (by cases r<;>first|exact e|cases e),Bool.or_true]
def lineIn (K:Frag) (C:Addr):Bool:=(clsIn K C).any fun cd=>valLine cd.mro
section
variable {prog:Program}{w:World}{A:Around}{E:Value->Shared->Prop}{K:Frag}{x C:Addr}{s:Shared}{R:Result->Shared->Prop}
theorem zkg {ox:Obj}{od:Option Obj}{name:Str}{tk:Tok}{v:Value}(X:K.In s.heap) (I:InstAt s.heap x ox C od) (hp:lineIn K C=true) (ht:takerIn K C name=some none)
  (h:∀b,wpAny (model prog w) A.in1 (storeInOwnDict (.ref x) (.ref C) (.str name tk) name v b)
   (fun fin s'=>match fin with | .done f=>R (.ok f) s' | .again c'=>c'.quiet=true/\codeAny (model prog w) A c' R s') (fun e s'=>R (.error e) s') s) :
  codeAny (model prog w) A (.call (.builtin "object.__setattr__") ⟨[.ref x,.str name tk,v],[]⟩) R s:=by
 have SO:=PySem.F.store_object
 obtain ⟨cd,hc,ho⟩:=any_some hp
 have ne:cd.mro.isEmpty=false:=by
  cases q:cd.mro with
  | nil=>rw [q] at ho;cases ho
  | cons _ _=>rfl
 have isO:Looks (model prog w) s.heap (isInstance (.ref x) (.type "object")) true:=I.type.andThen (looks_mroIn X (by unfold mroIn;rw [hc,Option.bind_some,if_neg (by rw [ne];decide),zeD ho]))
 refine codeAny_call_builtin SO.slot.plain SO.entry (@check_slot (model prog w) _ _ s "object.__setattr__" "object" "__setattr__" (.ref x) [.str name tk,v] [] _ SO.kind SO.split isO (SO.args (.ref x) (.str name tk) v) ?_)
 obtain ⟨attr,ha,hr⟩:=Option.bind_eq_some_iff.mp ht
 have mr:Looks (model prog w) s.heap (mroOf (.ref C)) cd.mro:=(looks_clsIn X hc).andThen .now
 have tk0:Looks (model prog w) s.heap (storeTaker? attr) none:=by
  cases attr with
  | none=>exact .now
  | some a =>
   obtain ⟨b,hb,e⟩:=Option.map_eq_some_iff.mp hr
   refine (looks_takesIn X hb).andThen ?_
   cases b with
   | true=>cases e
   | false=>exact .now
 rw [osa_eq,refuse_eq]
 refine wpAny_bind (wpAny_bind (I.type.here (wpAny_bind (mr.here ?_))))
 rw [zeC _ ho]
 refine wpAny_pure (wpAny_bind (I.type.here (wpAny_bind ((looks_findIn X ha).here (wpAny_bind (tk0.here ?_))))))
 exact h _
theorem zkh {t:Addr}{name:Str}{v:Value}{Q:Unit->Shared->Prop}(X:K.In s.heap) (he:s.heap.get? x=some { cls:=.ref C,data:=.fields #[.ref t,.none,.none,.none,.bool false,.none] })
  (hs:findIn K (.ref C) "__setattr__" = some (some (.builtin "object.__setattr__"))) (hp:lineIn K C=true) (ht:takerIn K C name=some none) (hh:hasDictIn K C=true)
  (h:∀h',h'.get? x=some { cls:=.ref C,dict:=some s.heap.objs.size,data:=.fields #[.ref t,.none,.none,.none,.bool false,.none] }->h'.Ns1 s.heap.objs.size (fun y=>if y=name then some v else none) ->
   (∀b o,b≠x->s.heap.get? b=some o->h'.get? b=some o)->∀tk,Q () { s with heap:=h',toks:=tk }):wpAny (model prog w) A (setAttr (.ref x) name v) Q E s:=by
 have J:InstAt s.heap x { cls:=.ref C,data:=.fields #[.ref t,.none,.none,.none,.bool false,.none] } C none:=⟨he,rfl,rfl,trivial⟩
 refine set_plain X J hs (zkg (s:={ s with toks:=s.toks+1 }) X J hp ht fun b=>?_)
 obtain ⟨cd,hc,hd'⟩:=any_some hh
 have xl:=Heap.lt_size he
 refine wpAny_bind (wpAny_pure (wpAny_bind (wpAny_bind (wpAny_loadPart he (wpAny_bind (Looks.here (s:={ s with toks:=s.toks+1 }) (looks_clsIn X hc) ?_))))))
 rw [hd']
 show wpAny (model prog w) A.in1 (do
  let d <-alloc { cls:=.type "dict", data:=.dict #[] }
  update x fun o=>{ o with dict:=some d }
  dictMade (.ref C) x d) _ _ _
 refine wpAny_bind (wpAny_alloc (wpAny_bind (wpAny_update (Heap.get?_push_of_some _ he) ?_)))
 refine wpAny_pure (a:=some s.heap.objs.size) (wpAny_bind (wpAny_pure (wpAny_bind ?_)))
 have xn:s.heap.objs.size≠x:=Nat.ne_of_gt xl
 have ex:((s.heap.push { cls:=.type "dict", data:=.dict #[] }).update x fun o=>{ o with dict:=some s.heap.objs.size }).get? x=some { cls:=.ref C,dict:=some s.heap.objs.size,data:=.fields #[.ref t,.none,.none,.none,.bool false,.none] } :=
  Heap.get?_update_self _ (Heap.get?_push_of_some _ he) rfl
 have ed:((s.heap.push { cls:=.type "dict", data:=.dict #[] }).update x fun o=>{ o with dict:=some s.heap.objs.size }).get? s.heap.objs.size=some { cls:=.type "dict", data:=.dict #[] } :=
  (Heap.get?_update_other _ _ (Ne.symm xn)).trans (Heap.get?_push_size _ rfl)
 have en:((s.heap.push { cls:=.type "dict", data:=.dict #[] }).update x fun o=>{ o with dict:=some s.heap.objs.size }).Ns1 s.heap.objs.size (fun _=>none) :=
  Heap.Ns1.of_empty ⟨_,#[],_,ed,rfl,(fun e he=>absurd he (by simp)),fun _=>rfl⟩
 refine wpAny_nsSet1 (s:={ s with heap:=(s.heap.push { cls:=.type "dict", data:=.dict #[] }).update x fun o=>{ o with dict:=some s.heap.objs.size },toks:=s.toks+1 }) en fun h' hn2 hs2=>?_
 obtain ⟨oD,esD,epD,hoD,hdD,hcD⟩:=hn2.count (PySem.Within.cons (ns:=[]) name v fun y hy=>absurd rfl hy)
 refine wpAny_bind (wpAny_lookBehind hoD (by rw [hdD];exact pastItsLine_dict (Nat.le_trans hcD (by simp))) ?_)
 refine wpAny_pure (h h' ((hs2.2 x (Ne.symm xn)).trans ex) hn2 (fun b o nb e=>(hs2.2 b (Nat.ne_of_lt (Heap.lt_size e))).trans ((Heap.get?_update_other _ _ (Ne.symm nb)).trans (Heap.get?_push_of_some _ e))) _)
end
section
variable {prog:Program}{w:World}{A:Around}{h:Heap}{g:Array GenState}{d:Drawn}{t:Nat}{os:OsState}{R:Result->Shared->Prop}
variable {nm q:Str}{C N f:Addr}{bs bm bmB:List Value}{hdct:Bool}{sn:List Str}{sub:List Value}{ab:Bool}{col:Option Bool}{dd:Option Addr}{k0 k1 k2 k3 k5:Option Value}{B newId initId:String}
theorem zki (F:ExcBaseFacts B newId initId bmB) (T:OwnTail h bmB bm) {mN:Str->Option Value}{rest:List Value}
  (hC:h.get? C=some (excClassObj nm q C N bs bm hdct sn sub ab col dd k0 k1 k2 k3 k5 newId)) (hn:h.Ns N mN) (hi:mN "__init__" = some (.ref f))
  (hb:∀self,Looks (model prog w) h (bindSpecial (.ref f) self) (.ref f,[self])) (hrest:rest.length<=sizeLine)
  (hq:codeAny (model prog w) (A.under (.builtin "type.__call__" ⟨.ref C::rest,[]⟩)) (.call (.ref f) ⟨.ref (h.objs.size+1)::rest,[]⟩) (InitBack (h.objs.size+1) R)
   ⟨(h.push { cls:=.type "tuple", data:=.seq rest.toArray }).push { cls:=.ref C,data:=.fields #[.ref h.objs.size,.none,.none,.none,.bool false,.none] },g,d,t,os⟩) :
  codeAny (model prog w) A (.call (.ref C) ⟨rest,[]⟩) R ⟨h,g,d,t,os⟩:=by
 have u1:=tc_lookup
 have u2:=tc_bind (.ref C)
 have hT:(⟨h,g,d,t,os⟩:Shared).TypeIs (.ref C) "type" := ⟨_,hC,rfl⟩
 refine codeAny_of_tree ?_
 show wpAny _ _ (callAny (.ref C) _) _ _ _
 repeat (any_goals (first|assumption|with_reducible refine wpAny_loadPart_at hC ?_|wp_step))
 refine ⟨rfl,codeAny_call_builtin_at (Code.quiet_builtin _ (by decide +kernel)) entry_typeCall (wpAny_check_type_call_sub hC ?_)⟩
 repeat (first|with_reducible refine wpAny_loadPart_at hC ?_|with_reducible refine wpAny_madeBy_exc hC ?_|wp_step)
 refine codeAny_call_builtin_code (Code.quiet_builtin _ F.quiet) (wpAny_check_new_subT F T hC (codeAny_exc_new_subT F T hC ?_ hrest))
 change wpAny (model prog w) (A.under (.builtin "type.__call__" ⟨.ref C::rest,[]⟩)) _ _ _ ⟨(h.push { cls:=.type "tuple", data:=.seq rest.toArray }).push { cls:=.ref C,data:=.fields #[.ref h.objs.size,.none,.none,.none,.bool false,.none] },g,d,t,os⟩
 generalize hg2:(h.push { cls:=.type "tuple", data:=.seq rest.toArray }).push { cls:=.ref C,data:=.fields #[.ref h.objs.size,.none,.none,.none,.bool false,.none] }=h2 at hq ⊢
 have kp:∀b o,h.get? b=some o->h2.get? b=some o:=fun b o e=>hg2▸Heap.get?_push_of_some _ (Heap.get?_push_of_some _ e)
 have gx:h2.get? (h.objs.size+1)=some { cls:=.ref C,data:=.fields #[.ref h.objs.size,.none,.none,.none,.bool false,.none] }:=by
  rw [<-hg2]
  heap_get
 have C2:=kp _ _ hC
 have T2:=T.keeps kp
 have n2:=hn.keeps kp
 have cC:(Value.ref C::bm).contains (.ref C)=true:=by simp
 unfold isInstance
 repeat (first|with_reducible refine wpAny_loadPart_at gx ?_|(with_reducible refine wpAny_isSubtype_exc C2 ?_;rw [cC])|wp_step)
 show wpAny _ _ (typeLookup (.ref C) _) _ _ _
 refine wpAny_typeLookup_tail C2 n2 T2 F.mroIs F.init.lookup ?_
 rw [hi]
 refine wpAny_holding (wpAny_bind (((hb _).keeps kp).here (s:=⟨h2,g,d,t,os⟩) (wpAny_bind (wpAny_call (codeAny_mono hq fun r s' z=>?_)))))
 cases r with
 | error e=>exact z
 | ok fl =>
  cases fl with
  | ret v =>
   obtain ⟨rfl,z⟩:=z
   exact wpAny_pure (wpAny_pure z)
  | next=>exact z.elim
  | brk=>exact z.elim
  | cont=>exact z.elim
end
def exO (C t:Addr) (d:Option Addr) (a:Addr):HO:=.ext fun h=>h.get? a=some { cls:=.ref C,dict:=d,data:=.fields #[.ref t,.none,.none,.none,.bool false,.none] }
structure ExCls (K:PySem.W.Frag) (C:Addr) (f:Str):Prop where
 sa:PySem.W.findIn K (.ref C) "__setattr__" = some (some (.builtin "object.__setattr__"))
 line:lineIn K C=true
 no:PySem.W.takerIn K C f=some none
 hd:PySem.W.hasDictIn K C=true
def zeE (K:PySem.W.Frag) (ta tv:TE) (f:Str):TS:=fun D U H=>tv U H fun y H1=>ta U H1 fun x H2=>∃a C t,x=.ref a/\H2 a=some (exO C t none a)/\ExCls K C f /\
 ∀d,H2 d=none->D.nx U (upd (upd H2 d (.xd [(f,y)])) a (exO C t (some d) a))
theorem zeF {X:Cx}{o value:Expr}{f:Str}{pos pos':Pos}{ta tv:TE}(ha:PE X o ta) (hv:PE X value tv) (hs:swapsWith value (some (.Attribute o f pos')) pos.line X.env=pure false):PS X (.Assign [.Attribute o f pos'] value pos) (zeE X.K ta tv f):=by
 intro pins s U H D I h
 refine plainObj_wpAny_Assign_Attribute (thn (hv pins s U H _ I h) fun u s1 ⟨y,H1,I1,ry,q⟩=>thn (ha pins s1 U H1 _ I1 q) fun ov s2 ⟨x,H2,I2,rx,a,C,t,ex,ea,c,q2⟩=>?_) hs
 subst ex
 obtain rfl:ov=Value.ref a:=rx
 have he:s2.heap.get? a=some { cls:=.ref C,dict:=none,data:=.fields #[.ref t,.none,.none,.none,.bool false,.none] }:=(I2.hok a _ ea).1
 refine zkh I2.kIn he c.sa c.line c.no c.hd fun h' g1 g2 g3 tk=>?_
 have fr:H2 s2.heap.objs.size=none:=I2.hok.fresh (Nat.le_refl _)
 have na:a≠s2.heap.objs.size:=Nat.ne_of_lt (Heap.lt_size he)
 refine ⟨U,_,?_,q2 s2.heap.objs.size fr⟩
 have old:∀b o,s2.heap.get? b=some o->b≠s2.heap.objs.size:=fun b o e=>Nat.ne_of_lt (Heap.lt_size e)
 have ne_a:∀b,H2 b=none->b≠a:=fun b n z=>by rw [z,ea] at n;cases n
 have upEq:∀b,b≠a->b≠s2.heap.objs.size->(upd (upd H2 s2.heap.objs.size (.xd [(f,y)])) a (exO C t (some s2.heap.objs.size) a)) b=H2 b:=fun b n1 n2=>by rw [zp n1,zp n2]
 have isN:∀b u,H2 b=some u->b≠s2.heap.objs.size:=fun b u e z=>by rw [z,fr] at e;cases e
 refine I2.un (t':=tk) ⟨fun b o e n _ _=>g3 b o (ne_a b n) e,fun b o e n _ _=>⟨o.slots,g3 b o (ne_a b n) e⟩,fun b o e n _=>by rw [upEq b (ne_a b n) (old b o e)];exact n,fun b o e _=>?_,fun b xs e=>?_,fun b o u e=>?_,fun b ps e=>?_⟩ fun b uo e=>?_
 ·by_cases z:b=a
  ·exact ⟨_,z▸g1⟩
  ·exact ⟨o,g3 b o z e⟩
 ·have z:b≠a:=fun z=>by rw [z,ea] at e;cases e
  rw [upEq b z (isN b _ e)];exact e
 ·have z:b≠a:=fun z=>by rw [z,ea] at e;cases e
  rw [upEq b z (isN b _ e)];exact e
 ·have z:b≠a:=fun z=>by rw [z,ea] at e;cases e
  exact ⟨#[],by rw [upEq b z (isN b _ e),e];simp⟩
 ·by_cases z:b=a
  ·rw [z] at e ⊢
   rw [zY] at e
   cases e
   exact ⟨g1,⟨_,g1⟩,fun h1 h2 p k=>k _ p⟩
  ·rw [zp z] at e
   by_cases z2:b=s2.heap.objs.size
   ·rw [z2] at e ⊢
    rw [zY] at e
    cases e
    refine ⟨_,g2,fun n=>?_⟩
    show RelO (List.lookup n [(f,y)]) (if n=f then some u else none)
    rw [List.lookup_cons]
    by_cases w':n=f
    ·rw [if_pos w',w',beq_self_eq_true]
     exact ry
    ·rw [if_neg w',beq_eq_false_iff_ne.mpr w']
     exact True.intro
   ·rw [zp z2] at e
    refine (I2.hok b uo e).stay (fun c v hc w'=>g3 c v ?_ w') (fun c w'=>?_) fun c xs w'=>?_
    ·rcases hc with w2|w2
     ·rw [w2];exact z
     ·intro w3
      rw [w3,ea] at w2
      cases w2
    ·have n1:c≠a:=fun w3=>by rw [w3,ea] at w';cases w'
     rw [upEq c n1 (isN c _ w')];exact w'
    ·have n1:c≠a:=fun w3=>by rw [w3,ea] at w';cases w'
     rw [upEq c n1 (isN c _ w')];exact w'
abbrev veLine:List Value:=[.type "ValueError", .type "Exception", .type "BaseException", .type "object"]
theorem zkj {K:Frag}{h:Heap}{N:Addr}{mN:Str->Option Value}{n:Str}{v:Value}(X:K.In h) (G:h.Ns N mN) (e:nsIn K N n=some (some v)):mN n=some v:=by
 obtain ⟨o,es,ep,ho,hd,_,hf⟩:=G
 unfold nsIn at e
 split at e
 ·rename_i q
  have:=X _ _ q
  rw [ho] at this
  cases this
  cases hd
  split at e
  ·rename_i he
   cases e
   rw [<-hf]
   unfold nsFind findBy
   rw [<-Array.find?_toList,he]
   rfl
  ·split at e<;>cases e
 ·cases e
structure ExOf (K:Frag) (C:Addr):Prop where
 ob:∃nm q N bs bm hdct sn sub ab col dd k0 k1 k2 k3 k5,K.lookup C=some (excClassObj nm q C N bs bm hdct sn sub ab col dd k0 k1 k2 k3 k5 "ValueError.__new__")/\tailIn K veLine bm=true/\nsOkIn K N=true
 kp:keepIn K (.ref C)=true
structure ExMk (K:Frag) (C f:Addr):Prop where
 ob:∃nm q N bs bm hdct sn sub ab col dd k0 k1 k2 k3 k5,K.lookup C=some (excClassObj nm q C N bs bm hdct sn sub ab col dd k0 k1 k2 k3 k5 "ValueError.__new__")/\tailIn K veLine bm=true/\nsOkIn K N=true/\nsIn K N "__init__" = some (some (.ref f))
 fn:isFn K (.ref f)=true
 kp:keepIn K (.ref C)=true
theorem ExMk.of {K:Frag}{C f:Addr}(x:ExMk K C f):ExOf K C:=by
 obtain ⟨⟨nm,q,N,bs,bm,hdct,sn,sub,ab,col,dd,k0,k1,k2,k3,k5,a,b,c,_⟩,_,k⟩:=x
 exact ⟨⟨nm,q,N,bs,bm,hdct,sn,sub,ab,col,dd,k0,k1,k2,k3,k5,a,b,c⟩,k⟩
def del (H:Hp) (a:Addr):Hp:=fun b=>if b=a then none else H b
theorem zb5 {H:Hp}{a:Addr}:del H a a=none:=if_pos rfl
theorem jZ {H:Hp}{a b:Addr}(h:b≠a):del H a b=H b:=if_neg h
theorem zkk {H:Hp}{a:Addr}{o:HO}(h:H a=none):del (upd H a o) a=H:=by
 funext b
 by_cases z:b=a
 ·rw [z,zb5,h]
 ·rw [jZ z,zp z]
theorem zkl {H:Hp}{a b:Addr}{o o':HO}(n:a≠b):upd (upd H a o) b o'=upd (upd H b o') a o:=by
 funext c
 by_cases z:c=a
 ·rw [z,zp n,zY,zY]
 ·by_cases z2:c=b
  ·rw [z2,zY,zp (Ne.symm n),zY]
  ·rw [zp z2,zp z,zp z,zp z2]
theorem Inv.drop {X:Cx}{pins:List (Addr×Obj)}{U:St}{H:Hp}{s:Shared}{a:Addr}{φ:Heap->Prop}(I:Inv X pins U H s) (ha:H a=some (.ext φ)):Inv X pins U (del H a) s:=by
 have ne:∀b u,H b=some u->(∀φ,u ≠ .ext φ)->b≠a:=fun b u e n z=>by
  rw [z,ha] at e
  cases e
  exact n _ rfl
 have t:Inv X pins U (del H a) { s with heap:=s.heap,toks:=s.toks }:=I.un ⟨fun b o e _ _ _=>e,fun b o e _ _ _=>⟨o.slots,e⟩,fun b o e n _=>?_,fun b o e _=>⟨o,e⟩,fun b xs e=>?_,fun b o u e=>?_,fun b ps e=>?_⟩ fun b u e=>?_
 ·exact t
 ·unfold del
  split<;>first|rfl|exact n
 ·rw [jZ (ne b _ e fun _ z=>by cases z)];exact e
 ·rw [jZ (ne b _ e fun _ z=>by cases z)];exact e
 ·exact ⟨#[],by rw [jZ (ne b _ e fun _ z=>by cases z),e];simp⟩
 ·have z:b≠a:=fun z=>by rw [z,zb5] at e;cases e
  rw [jZ z] at e
  refine (I.hok b u e).stay (fun _ _ _ q=>q) (fun c q=>?_) fun c xs q=>?_
  ·rw [jZ (ne c _ q fun _ z=>by cases z)];exact q
  ·rw [jZ (ne c _ q fun _ z=>by cases z)];exact q
section
variable {M:Model}{A:Around}{E:Value->Shared->Prop}{env:Env}{s:Shared}
theorem zkm {K:Frag}{x:Sem Value}{Q:Flow->Shared->Prop}(hh:A.handled=none)
  (h:wpAny M A x (fun v ah=>∃e C t d,v=.ref e/\K.In ah.heap/\ExOf K C/\ah.heap.get? e=some { cls:=.ref C,dict:=d,data:=.fields #[.ref t,.none,.none,.none,.bool false,.none] }/\E (.ref e) ah) E s):wpAny M A (raiseStmt env (some x) none) Q E s:=by
 unfold raiseStmt
 refine wpAny_bind (wpAny_mono h (fun v ah aw=>?_) fun _ _ x=>x)
 obtain ⟨e,C,tt,dx,rfl,kin,⟨⟨nm,q,N,bs,bm,hdct,sn,sub,ab,col,dd,k0,k1,k2,k3,k5,hC,ht,_⟩,_⟩,he,hE⟩:=aw
 have hC:=kin _ _ hC
 have hbase:bm.contains (.type "BaseException")=true:=(tail_of_in kin ht).hasType (by decide)
 have hcB:(Value.ref C::bm).contains (.type "BaseException")=true:=by rw [List.contains_cons,hbase,Bool.or_true]
 obtain ⟨hp,g,d,tk,os⟩:=ah
 repeat (first|with_reducible refine wpAny_loadPart_at he ?_|with_reducible refine wpAny_loadPart_at hC ?_|(with_reducible refine wpAny_isSubtype_exc hC ?_;rw [hcB])|wp_step)
 exact wpAny_raiseNew_none hh hE
end
section
variable {X:Cx}{CX:CXT}{k:Nat}{f C:Addr}{fd:FuncData}{ps:List Str}{sp:Sp}{E:XK}
theorem zkn {pins:List (Addr×Obj)}{U:St}{H:Hp}{s:Shared}{Q:VK}{us:List Value}{vs:List V}(M:ExMk X.K C f) (F:FnOk X.prog X.w X.K X.mg X.base CX k f fd ps sp) (hr:Room (k+1) X.A) (hb:Binds X.K fd ps [])
  (hx:Passes CX X E) (I:Inv X pins U H s) (r:Vals vs us) (hz:us.length<=sizeLine)
  (h:∀x t,OwnRec X pins H x->sp (.ref x::vs) (upd H x (exO C t none x)) (fun v H2=>v=.non/\Q (.ref x) H2) E) :
  wpAny (model X.prog X.w) X.A (call (.ref C) us) (EP X pins U Q) X.xe s:=by
 obtain ⟨⟨nm,q,N,bs,bm,hdct,sn,sub,ab,col,dd,k0,k1,k2,k3,k5,hC,ht,hok,hi⟩,hfn,_⟩:=M
 have szl:s.heap.objs.size<=s.heap.objs.size+1:=Nat.le_succ _
 have fr1:H (s.heap.objs.size+1)=none:=I.hok.fresh szl
 have hq:=h (s.heap.objs.size+1) s.heap.objs.size (OwnRec.new I szl fr1)
 let o1:Obj:={ cls:=.type "tuple", data:=.seq us.toArray }
 let o2:Obj:={ cls:=.ref C,data:=.fields #[.ref s.heap.objs.size,.none,.none,.none,.bool false,.none] }
 have e2:((s.heap.push o1).push o2).get? (s.heap.objs.size+1)=some o2:=by
  have:=Heap.get?_push_size (s.heap.push o1) (o:=o2) rfl
  rwa [Heap.size_push] at this
 have I1:Inv X pins U H { s with heap:=s.heap.push o1,toks:=s.toks }:=I.kept fun b u q=>Heap.get?_push_of_some _ q
 have I2:Inv X pins U (upd H (s.heap.objs.size+1) (exO C s.heap.objs.size none (s.heap.objs.size+1))) { s with heap:=(s.heap.push o1).push o2 } :=
  I1.laid (a:=s.heap.objs.size+1) (o:=exO C s.heap.objs.size none (s.heap.objs.size+1)) (t':=s.toks) (fun b u q=>Heap.get?_push_of_some _ q) (Nat.le_of_eq (Heap.size_push _ _)) ⟨e2,⟨_,e2⟩,fun h1 h2 p k=>k _ p⟩
 have r2:Vals (V.ref (s.heap.objs.size+1)::vs) (Value.ref (s.heap.objs.size+1)::us):=.cons rfl r
 have hl:(Value.ref (s.heap.objs.size+1)::us++[]).length=ps.length:=by
  have e:=r2.length
  rw [F.len _ _ _ _ hq] at e
  rw [List.append_nil]
  exact e.symm
 have hbd:=hb { s with heap:=(s.heap.push o1).push o2 } (Value.ref (s.heap.objs.size+1)::us) I2.kIn hl
 rw [List.append_nil] at hbd
 obtain ⟨hp,g,d,tk,os⟩:=s
 refine wpAny_call (zki (f:=f) PySem.F.excBase_ValueError (tail_of_in I.kIn ht) (I.kIn _ _ hC) (.of_isNs (isNs_of_in I.kIn hok)) (zkj I.kIn (.of_isNs (isNs_of_in I.kIn hok)) hi)
  (fun self=>bind_fn I.kIn self (beq_iff_eq.mp hfn)) hz (codeAny_mono (F.run _ X.stack _ _ ⟨Value.ref (hp.objs.size+1)::us,[]⟩ (Value.ref (hp.objs.size+1)::us) _ _ E (hr.make C us [])
  (I2.env0.make C us []) hbd r2 hq) fun r s' hq'=>?_))
 cases r with
 | error e=>exact hx pins U _ _ e s' I2 hq'
 | ok fl =>
  cases fl with
  | ret u =>
   obtain ⟨v,H',I3,rv,ev,q3⟩:=I2.after hq'
   subst ev
   exact ⟨rv,⟨V.ref (hp.objs.size+1),H',I3,rfl,q3⟩⟩
  | next=>exact False.elim hq'
  | brk=>exact False.elim hq'
  | cont=>exact False.elim hq'
def zeG (C:Addr) (f:Str):Sp:=fun vs H Q _=>∃a t y,vs=[.ref a,y]/\H a=some (exO C t none a)/\∀d,H d=none->Q .non (upd (upd H d (.xd [(f,y)])) a (exO C t (some d) a))
def zko (C:Addr) (f:Str) (te:TE) (Er:XK):TS:=fun _ U H=>te U H fun y H1=>∀d,H1 d=none->Er (.ref C) (some d) (upd H1 d (.xd [(f,y)]))
theorem zkp {x fld:Str}{e:Expr}{te:TE}{np cpos pos:Pos}{Er:XK}(he:PE X e te) (M:ExMk X.K C f) (F:FnOk X.prog X.w X.K X.mg X.base CX k f fd ps (zeG C fld)) (hr:Room (k+1) X.A) (hg:Gl X x) (hm:X.mg x=some (.ref C))
  (hb:Binds X.K fd ps []) (hx:Passes CX X Er) (ht:Throws X Er) (hc:X.calm=true) (hdb:(x==("__debug__" : Str))=false:=by decide)
  (hs:starEach [e] X.env=(false,eval e X.env)::starEach [] X.env:=by rfl):PS X (.Raise (some (.Call (.Name x np) [e] [] cpos)) none pos) (zko C fld te Er):=by
 intro pins s U H D I h
 rw [arm_exec_Raise]
 refine wpAny_bind (wpAny_standAt ?_)
 refine zkm (K:=X.K) (I.ok.hd hc) ?_
 refine wpAny_bind (thn (Q:=EP X pins U fun v H2=>∃a t d,v=.ref a/\OwnRec X pins (del H2 a) a/\H2 a=some (exO C t (some d) a)/\Er (.ref C) (some d) (del H2 a)) ?_ fun u s1 ⟨v,H2,I2,rv,a,t,d,ev,ow,ha,q⟩=>wpAny_bind (wpAny_standAt (wpAny_pure ?_)))
 ·refine wpAny_Call_Name_kw (jK I hg hm ?_ hdb)
  refine PySem.W.callWith_K (h₀:=X.base) I.ok.mod.kin M.kp (spliced_more (thn (he pins s U H _ I h) fun u s1 ⟨y,H1,I1,ry,q⟩=>?_) hs) hs rfl
  refine spliced_none ⟨I1.kIn,?_⟩
  refine zkn (vs:=[y]) M F hr hb hx I1 (.cons ry .nil) (show 1<=sizeLine by decide) fun a t ow=>⟨a,t,y,rfl,zY,fun d hd=>⟨rfl,a,t,d,rfl,?_,zY,?_⟩⟩
  ·exact ⟨zb5,ow.2⟩
  ·have n:d≠a:=fun z=>by rw [z,zY] at hd;cases hd
   rw [zp n] at hd
   have e1:del (upd (upd (upd H1 a (exO C t none a)) d (.xd [(fld,y)])) a (exO C t (some d) a)) a=upd H1 d (.xd [(fld,y)]):=by
    rw [zkl (Ne.symm n),zhC]
    exact zkk (by rw [zp (Ne.symm n)];exact ow.1)
   rw [e1]
   exact q d hd
 ·subst ev
  obtain rfl:u=Value.ref a:=rv
  have he:s1.heap.get? a=some { cls:=.ref C,dict:=some d,data:=.fields #[.ref t,.none,.none,.none,.bool false,.none] }:=(I2.hok a _ ha).1
  exact ⟨a,C,t,some d,rfl,I2.kIn,M.of,he,ht pins U _ s1 a C (some d) (Inv.drop I2 ha) ⟨.none,⟨_,_,he,rfl,rfl,rfl,rfl,rfl⟩,ow,.inl rfl⟩ q⟩
end
def XP (X:Cx) (pins:List (Addr×Obj)) (U:St) (E:XK) (u:Value) (s':Shared):Prop:=∃(a C:Addr) (d:Option Addr) (H':Hp),u=.ref a/\Inv X pins U H' s'/\Fly X pins H' s'.heap a C d/\E (.ref C) d H'
abbrev TX:=St->Hp->VK->XK->Prop
def PX (X:Cx) (e:Expr) (t:TX):Prop :=
 ∀(pins:List (Addr×Obj)) (s:Shared) (U:St) (H:Hp) (Q:VK) (E:XK),Inv X pins U H s->t U H Q E->wpAny (model X.prog X.w) X.A (eval e X.env) (EP X pins U Q) (XP X pins U E) s
def zkq (sp:Sp) (dvs:List V) (t:TA):TX:=fun U H Q E=>t U H fun vs H1=>sp (vs++dvs) H1 Q E
section
variable {X:Cx}{k:Nat}{f C:Addr}{fd:FuncData}{ps:List Str}{sp:Sp}{dvs:List V}{ds:List Value}{E:XK}{x m:Str}{p pos apos:Pos}{e o:Expr}{es:List Expr}{ta:TE}{t:TA}
theorem zeH {pins:List (Addr×Obj)}{U:St}{H:Hp}{s:Shared}{Q:VK}{us:List Value}{vs:List V}(F:FnOk X.prog X.w X.K X.mg X.base (CXe X.prog X.w) k f fd ps sp) (hr:Room k X.A) (hb:Binds X.K fd ps ds) (hd:Vals dvs ds)
  (I:Inv X pins U H s) (r:Vals vs us) (h:sp (vs++dvs) H Q E):wpAny (model X.prog X.w) X.A (call (.ref f) us) (EP X pins U Q) (XP X pins U E) s:=by
 have r2:Vals (vs++dvs) (us++ds):=r.append hd
 have hl:(us++ds).length=ps.length:=by rw [<-r2.length];exact F.len _ _ _ _ h
 refine wpAny_call (codeAny_mono (F.run X.A X.stack s H ⟨us,[]⟩ (us++ds) (vs++dvs) Q E hr I.env0 (hb s us I.kIn hl) r2 h) fun r s' hq=>?_)
 cases r with
 | error e =>
  obtain ⟨a,C,T,d,H',rfl,os,bare,un,hok,x,ne,tb,⟨a1,a2⟩,⟨t1,t2⟩,q⟩:=hq
  have I':Inv X pins U H' s':=I.call' (ch:=[]) os un hok bare fun b z=>absurd z (by simp)
  exact ⟨a,C,d,H',rfl,I',⟨_,x,OwnRec.new I a1 a2,.inr ⟨T,rfl,ne,tb,OwnRec.new I t1 t2⟩⟩,q⟩
 | ok fl =>
  cases fl with
  | ret u=>exact I.after hq
  | next=>exact False.elim hq
  | brk=>exact False.elim hq
  | cont=>exact False.elim hq
theorem zkr (F:FnOk X.prog X.w X.K X.mg X.base (CXe X.prog X.w) k f fd ps sp) (hr:Room k X.A) (hg:Gl X x) (hm:X.mg x=some (.ref f)) (hk:PySem.W.keepIn X.K (.ref f)=true) (hb:Binds X.K fd ps ds) (hd:Vals dvs ds)
  (ha:PA X.nox (e::es) t) (hdb:(x==("__debug__" : Str))=false:=by decide) (he:starEach (e::es) X.env=(false,eval e X.env)::starEach es X.env:=by rfl) (hpl:(backTo pos (starEach es X.env)).any (·.1)=false:=by rfl) :
  PX X (.Call (.Name x p) (e::es) [] pos) (zkq sp dvs t):=by
 intro pins s U H Q E I h
 refine wpAny_Call_Name_kw (jK I hg hm ?_ hdb)
 refine PySem.W.callWith_K (h₀:=X.base) I.ok.mod.kin hk (wpAny_mono (ha pos pins s U H _ (I.wish _) h) (fun us s1 ⟨vs,H1,I1,r,q⟩=>⟨I1.unwish.kIn,?_⟩) fun _ _ z=>z.elim) he hpl
 exact zeH F hr hb hd I1.unwish r q
end
def exC (C:Addr) (d:Option Addr) (a:Addr):HO:=.ext fun h=>∃T:Addr,XO h a (.ref C) d (.ref T)
abbrev Cx.caught (X:Cx) (a:Addr):Cx:={ X with A:=X.A.mark (some (.ref a)),calm:=false,xe:=fun _ _=>False }
section
variable {X:Cx}{pins:List (Addr×Obj)}{U:St}{H:Hp}{s:Shared}{a C:Addr}{d:Option Addr}
theorem Inv.caught (I:Inv X pins U H s) (a:Addr):Inv (X.caught a) pins U H s :=
 ⟨⟨I.ok.mod,I.ok.kind,I.ok.glob,I.ok.blt,I.ok.above,I.ok.inj,I.ok.has,I.ok.cab,(fun z=>nomatch z),I.ok.frames,I.ok.stk,I.ok.exf,I.ok.bs,I.ok.bsz,I.ok.noex,I.ok.exfs,I.ok.funs,I.ok.frf⟩,I.os,I.bare,I.base,I.loc,I.cell,I.free,I.freeC,I.pin,I.hok,I.len⟩
theorem Inv.uncaught (J:X.Ok) (I:Inv (X.caught a) pins U H s):Inv X pins U H s:=⟨J,I.os,I.bare,I.base,I.loc,I.cell,I.free,I.freeC,I.pin,I.hok,I.len⟩
theorem Inv.track {o:HO}(I:Inv X pins U H s) (ow:OwnRec X pins H a) (new:ObjOk X.prog X.w (upd H a o) s.heap a o):Inv X pins U (upd H a o) s:=by
 have ne:∀b u,H b=some u->b≠a:=fun b u e z=>by rw [z,ow.1] at e;cases e
 have t:=I.step (h':=s.heap) (H':=upd H a o) (g':=s.gens) (t':=s.toks) (d':=s.drawn) (ch:=[a]) (fun b hb=>?_) (fun b u _ _ _ e _=>e) (fun b u _ _ _ e _=>⟨u.slots,e⟩) (fun b u nb e n=>?_) (fun b u _ e=>⟨u,e⟩) (fun b xs e=>?_) (fun b u v e=>?_) (fun b ps e=>?_) (fun m hm=>hm) (fun b u e=>?_) I.bare
 ·exact t
 ·have z:b=a:=by simpa using hb
  rw [z]
  exact ⟨.inr ow.2.1,ow.2.2.1,ow.2.2.2.1,ow.2.2.2.2⟩
 ·rw [zp (fun z=>nb (by simp [z]))];exact n
 ·rw [zp (ne b _ e)];exact e
 ·rw [zp (ne b _ e)];exact e
 ·exact ⟨#[],by rw [zp (ne b _ e),e];simp⟩
 ·by_cases z:b=a
  ·rw [z] at e ⊢
   rw [zY] at e
   cases e
   exact new
  ·rw [zp z] at e
   exact (I.hok b u e).stay (fun _ _ _ q=>q) (fun c q=>by rw [zp (ne c _ q)];exact q) fun c xs q=>by rw [zp (ne c _ q)];exact q
theorem Inv.catch {T:Addr}(I:Inv X pins U H s) (ow:OwnRec X pins H a) (x:XO s.heap a (.ref C) d (.ref T)):Inv X pins U (upd H a (exC C d a)) s :=
 Inv.track I ow ⟨⟨T,x⟩,(let ⟨oe,_,e,_⟩:=x;⟨oe,e⟩),fun h1 h2 p k=>let ⟨T,z⟩:=p;⟨T,z.keeps fun o q=>k o q⟩⟩
theorem zb6 {M:Model}{A:Around}{E:Value->Shared->Prop}{j:Nat}{n:Str}{pos:Pos}{Q:Unit->Shared->Prop}(I:Inv X pins U H s) (hN:X.N.Nodup) (hj:X.N[j]?=some n) (hk:X.env.scope.names.lookup n=some .local)
  (h:∀s',Inv X pins (U.set j none) H s'->Q () s'):wpAny M A (do bindName X.env n .none;unbindBehindTheSuite X.env n pos) Q E s:=by
 obtain ⟨m,hn,hl⟩:=id I.loc
 have hcls:(X.env.scope.kind == .class||(X.env.scope.kind == .module&&X.env.locals != X.env.globals))=false:=by rw [I.ok.kind];rfl
 have aE:j<U.length:=by rw [I.len];exact (List.getElem?_eq_some_iff.mp hj).1
 have cne:=I.cne
 obtain ⟨oL,_,_,hoL,_⟩:=id hn
 refine wpAny_nameGoes_keeps hk hn hcls fun h' v hn' hs=>?_
 refine h _ ⟨I.ok,I.os,I.bare,⟨fun b o e n hb hx=>?_,fun b o e n hb hx=>?_,I.base.free,fun b o e hx=>?_,I.base.tups,I.base.frzs,I.base.tbls⟩,⟨_,hn',fun i y v' e1 e2 e3=>?_⟩,fun y c e=>?_,I.free,I.freeC,fun p hp=>?_,fun b ob e=>?_,by simpa using I.len⟩
 ·exact (hs.2 b (Nat.ne_of_lt (Nat.lt_of_lt_of_le (Heap.lt_size e) I.ok.above))).trans (I.base.keep b o e n hb hx)
 ·obtain ⟨sl,e1⟩:=I.base.slot b o e n hb hx
  exact ⟨sl,(hs.2 b (Nat.ne_of_lt (Nat.lt_of_lt_of_le (Heap.lt_size e) I.ok.above))).trans e1⟩
 ·obtain ⟨o',e1⟩:=I.base.there b o e hx
  exact ⟨o',(hs.2 b (Nat.ne_of_lt (Nat.lt_of_lt_of_le (Heap.lt_size e) I.ok.above))).trans e1⟩
 ·by_cases hi:i=j
  ·subst hi
   rw [List.getElem?_set_self aE] at e2
   cases e2
  ·rw [List.getElem?_set_ne (Ne.symm hi)] at e2
   obtain ⟨u',r',q⟩:=hl i y v' e1 e2 e3
   refine ⟨u',r',?_⟩
   rcases q with ⟨k,e⟩|⟨k,c,e,z⟩
   ·refine .inl ⟨k,?_⟩
    have:y≠n:=fun e=>hi (zbO hN e1 (e▸hj))
    simp [this,e]
   ·exact .inr ⟨k,c,e,z.sameBut hs (cne y c e)⟩
 ·obtain ⟨w',z⟩:=I.cell y c e
  exact ⟨w',z.sameBut hs (cne y c e)⟩
 ·obtain ⟨e,n,ne,nf,d⟩:=I.pin p hp
  exact ⟨(hs.2 p.1 ne).trans e,n,ne,nf,d⟩
 ·refine (I.hok b ob e).stay (fun c w' hc q=>(hs.2 c ?_).trans q) (fun _ q=>q) fun _ _ q=>q
  rintro rfl
  rcases hc with rfl|hc
  ·rw [I.free] at e;cases e
  ·rw [I.free] at hc;cases hc
end
def zks (C:Addr) (i j:Nat) (tv:TX) (tsu:TS):TS:=fun D U H=>tv U H (fun v H1=>D.nx (U.set i (some v)) H1)
 (fun c d H1=>c=.ref C/\∀a,H1 a=none->tsu { nx:=fun ag H'=>D.nx (ag.set j none) H',rt:=fun _ _=>False } (U.set j (some (.ref a))) (upd H1 a (exC C d a)))
theorem zkt {X:Cx}{C:Addr}{i j:Nat}{x n cls:Str}{value:Expr}{tv:TX}{tsu:TS}{b0:Stmt}{suite:List Stmt}{xp ap cp hp pos:Pos}(hN:X.N.Nodup) (hi:X.N[i]?=some x) (hx:Loc X.env.scope x) (hj:X.N[j]?=some n) (hn:X.env.scope.names.lookup n=some .local)
  (hv:PX X value tv) (hg:Gl X cls) (hm:X.mg cls=some (.ref C)) (hC:ExOf X.K C) (hsu:∀a,PSs (X.caught a) (b0::suite) tsu) (hst:X.stack=X.env::X.outer) (hfr:X.env.frame=some X.env.locals)
  (hsw:swapsWith value (some (.Name x xp)) ap.line X.env=pure false:=by rfl) (hf:X.fn x=true\/X.env.scope.names.lookup x=some .local:=by first|exact .inl rfl|exact .inr rfl|assumption) (hdb:(cls==("__debug__" : Str))=false:=by decide) :
  PS X (.Try [.Assign [.Name x xp] value ap] [.ExceptHandler (some (.Name cls cp)) (some n) (b0::suite) hp] [] [] pos) (zks C i j tv tsu):=by
 intro pins s U H D I h
 rw [arm_exec_Try]
 refine wpAny_bind (wpAny_standAt (wpAny_tryStmt_except (wpAny_execs_cons (wpAny_Assign_Name (wpAny_mono (hv pins s U H _ _ I h) (fun v s1 ⟨y,H1,I1,r1,q1⟩=>jX I1 hN hi hx r1 (fun s2 I2=>?_) hf) (fun u s1 ⟨a,C',d,H1,eu,I1,fly,ec,q⟩=>?_)) hsw))))
 ·exact wpAny_execs_nil (wpAny_execs_nil ⟨_,H1,I2,q1⟩)
 subst eu
 cases ec
 refine zb4 I1 I.ok.frames hst hfr fly fun s2 T I2 x2 ne tb2 oa oT=>wY I2 x2 ne tb2 oa oT fun s3 I3 x3 tb3=>?_
 refine wpAny_handleBy_cons (codeAny_handlers_test ?_) (by intro q;cases q)
 refine jK (X:=X.caught a) (Inv.caught I3 a) hg hm ?_ hdb
 obtain ⟨⟨nm,q',N,bs,bm,hdct,sn,sub,ab,col,dd,k0,k1,k2,k3,k5,hl,ht,_⟩,_⟩:=hC
 have hCl:=I3.kIn _ _ hl
 have hbase:bm.contains (.type "BaseException")=true:=(tail_of_in I3.kIn ht).hasType (by decide)
 obtain ⟨oe,vs,he,hcls,_⟩:=id x3
 refine wpAny_excMatches_sub_self (h:=s3.heap) (g:=s3.gens) (d:=s3.drawn) (t:=s3.toks) (os:=s3.os) hCl he hcls hbase ?_
 refine codeAny_handlers_suite_as (wY I3 x3 ne tb3 oa oT fun s4 I4 x4 tb4=>?_)
 have I5:=Inv.catch I4 oa x4
 refine jX I5 hN hj (.inl hn) (v:=.ref a) rfl (fun s5 I6=>?_) (.inr hn)
 refine wpAny_mono (hsu a pins s5 _ _ _ (Inv.caught I6 a) (q a oa.1)) (fun f s6 z=>?_) fun _ _ z=>z.elim
 cases f with
 | next =>
  obtain ⟨ag,H',I7,q7⟩:=z
  exact zb6 (Inv.uncaught I.ok I7) hN hj hn fun s7 I8=>⟨_,H',I8,q7⟩
 | brk=>obtain ⟨_,_,_,z⟩:=z;exact z.elim
 | cont=>obtain ⟨_,_,_,z⟩:=z;exact z.elim
 | ret u=>obtain ⟨_,_,_,_,_,z⟩:=z;exact z.elim
section
variable {X:Cx}{pins:List (Addr×Obj)}{U:St}{H:Hp}{s:Shared}{a C d:Addr}{fs:List (Str×V)}{A:Around}{E:Value->Shared->Prop}
theorem zeI (I:Inv X pins U H s) (ha:H a=some (exC C (some d) a)) (hd:H d=some (.xd fs)):∃ox od,InstAt s.heap a ox C (some od)/\∀n,∃o,lookIn n od=some o/\RelO (fs.lookup n) o:=by
 obtain ⟨T,oe,vs,e,hc,hdi,hdt,_⟩:=(show ObjOk X.prog X.w H s.heap a (exC C (some d) a) from I.hok a _ ha).1
 obtain ⟨mA,hn,r⟩:=(show ObjOk X.prog X.w H s.heap d (.xd fs) from I.hok d _ hd)
 obtain ⟨od,ho,hl⟩:=zdT hn
 refine ⟨oe,od,⟨e,hc,by unfold notCls;rw [hdt],by rw [hdi];exact ho⟩,fun n=>⟨mA n,hl n,r n⟩⟩
end
theorem ExMk.mk' {K:Frag}{C B N f:Addr}{nm q:Str}{bs:List Value}{hdct:Bool}{sn:List Str}{sub:List Value}{ab:Bool}{col:Option Bool}{dd:Option Addr}{k0 k1 k2 k3 k5:Option Value}{c:Value}{d:Option Addr}{es:Array DictEntry}{n:Nat}{sl:Array (Option Value)}
  (hC:K.lookup C=some (excClassObj nm q C N bs (.ref B::veLine) hdct sn sub ab col dd k0 k1 k2 k3 k5 "ValueError.__new__")) (hB:excIn K B veLine "ValueError.__new__" = true)
  (hN:K.lookup N=some ⟨c,d,.dict es n,sl⟩) (he:(es.all fun e=>match e.key with | .str _ _=>true|_=>false)=true) (hi:nsIn K N "__init__" = some (some (.ref f))) (fn:isFn K (.ref f)=true) (kp:keepIn K (.ref C)=true):ExMk K C f:=by
 refine ⟨⟨nm,q,N,bs,_,hdct,sn,sub,ab,col,dd,k0,k1,k2,k3,k5,hC,?_,?_,hi⟩,fn,kp⟩
 ·unfold excIn at hB
  split at hB
  ·rename_i dd cd sl ho
   split at hB
   ·simp only [Bool.and_eq_true,beq_iff_eq,Bool.not_eq_true'] at hB
    obtain ⟨⟨_,hok⟩,hni⟩:=hB
    unfold tailIn
    dsimp only
    rw [ho]
    have t0:tailIn K veLine veLine=true:=by unfold tailIn;rw [beq_self_eq_true,Bool.true_or]
    simp only [hok,hni,beq_self_eq_true,Bool.true_and,t0,Bool.or_true]
   ·cases hB
  ·cases hB
 ·unfold nsOkIn
  rw [hN]
  exact he
def Has (X:Cx) (CX:CXT) (k:Nat) (f:Addr) (sp:Sp):Prop:=∃fd ps,FnOk X.prog X.w X.K X.mg X.base CX k f fd ps sp/\keepIn X.K (.ref f)=true/\Binds X.K fd ps []
def zku (X:Cx) (CX:CXT) (k:Nat) (E:XK) (tf:TE) (t:TA):TE:=fun U H Q=>tf U H fun v H0=>∃f sp,v=.ref f/\Has X CX k f sp/\t U H0 fun vs H1=>sp vs H1 Q E
theorem zkv {X:Cx}{CX:CXT}{k:Nat}{E:XK}{x:Str}{p pos:Pos}{e:Expr}{es:List Expr}{tf:TE}{t:TA}(hf:PE X (.Name x p) tf) (hr:Room k X.A) (hx:Passes CX X E) (ha:PA X (e::es) t)
  (he:starEach (e::es) X.env=(false,eval e X.env)::starEach es X.env:=by rfl) (hpl:(backTo pos (starEach es X.env)).any (·.1)=false:=by rfl):PE X (.Call (.Name x p) (e::es) [] pos) (zku X CX k E tf t):=by
 intro pins s U H Q I h
 refine wpAny_Call_Name_kw (thn (hf pins s U H _ I h) fun u s1 ⟨v,H0,I0,rv,f,sp,ev,⟨fd,ps,F,hk,hb⟩,q⟩=>?_)
 subst ev
 obtain rfl:u=Value.ref f:=rv
 refine PySem.W.callWith_K (h₀:=X.base) I.ok.mod.kin hk (thn (ha pos pins s1 U H0 _ I0 q) fun us s2 ⟨vs,H1,I1,r,q1⟩=>⟨I1.kIn,?_⟩) he hpl
 exact zaK F hr hb .nil hx I1 r (by rw [List.append_nil];exact q1)
section
variable {prog:Program}{w:World}{A:Around}{E:Value->Shared->Prop}{h:Heap}{g:Array GenState}{d:Drawn}{t:Nat}{os:OsState}
variable {nm q:Str}{C N:Addr}{bs bm bmB:List Value}{hdct:Bool}{sn:List Str}{sub:List Value}{ab:Bool}{col:Option Bool}{dd:Option Addr}{k0 k1 k2 k3 k5:Option Value}{B newId initId:String}
end
def sRaise0 (C:Addr) (Er:XK):TS:=fun _ _ H=>Er (.ref C) none H
end L2
namespace L2
open PySem PySem.Spec PyProof.Rows PySem.W
def Noted (X:Cx) (pins:List (Addr×Obj)) (H:Hp) (h:Heap) (a C:Addr) (d:Option Addr):Prop :=
 ∃T,XO h a (.ref C) d (.ref T)/\T≠a/\TB h T (rawInt X.env.locals)/\OwnRec X pins H a/\OwnRec X pins H T
def zb7 (X:Cx) (pins:List (Addr×Obj)) (H:Hp) (h:Heap) (a C:Addr) (d:Option Addr):Prop:=Fly X pins H h a C d\/Noted X pins H h a C d
def yO (X:Cx) (E:XK):Prop:=∀(pins:List (Addr×Obj)) (U:St) (H:Hp) (s:Shared) (a C:Addr) (d:Option Addr),Inv X pins U H s->zb7 X pins H s.heap a C d->E (.ref C) d H->X.xe (.ref a) s
theorem yO.one {X:Cx}{E:XK}(t:yO X E):Throws X E:=fun pins U H s a C d I F q=>t pins U H s a C d I (.inl F) q
def XA (X:Cx) (Er:XK) (e:Value) (s:Shared):Prop:=∃(pins:List (Addr×Obj)) (U:St) (H:Hp) (a C:Addr) (d:Option Addr),e=.ref a/\Inv X pins U H s/\zb7 X pins H s.heap a C d/\Er (.ref C) d H
section
variable {X:Cx}{pins:List (Addr×Obj)}{U:St}{H:Hp}{s:Shared}{a C:Addr}{d:Option Addr}{A:Around}{E:Value->Shared->Prop}{Q:Unit->Shared->Prop}{Er:XK}
theorem zG:yO (X.wish (XA X Er)) Er:=fun pins U H s a C d I F q=>⟨pins,U,H,a,C,d,rfl,I.unwish,F,q⟩
theorem zeJ (I:Inv X pins U H s) (hfr:A.frames=some X.stack) (hst:X.stack=X.env::X.outer) (hf:X.env.frame=some X.env.locals) (F:zb7 X pins H s.heap a C d)
  (h:∀s' T,Inv X pins U H s'->XO s'.heap a (.ref C) d (.ref T)->T≠a->TB s'.heap T (rawInt X.env.locals)->OwnRec X pins H a->OwnRec X pins H T->Q () s'):wpAny (model X.prog X.w) A (noteFrame (.ref a) X.env) Q E s:=by
 rcases F with F|⟨T,x,ne,tb,oa,oT⟩
 ·exact zb4 I hfr hst hf F h
 ·obtain ⟨oe,vs,e,_,_,hd,_,h1⟩:=id x
  obtain ⟨ot,ts,et,hdt,h3⟩:=id tb
  unfold noteFrame
  simp only [hf]
  refine wpAny_bind (wpAny_field e hd h1 ?_)
  rw [if_pos (show (Value.ref T != Value.none)=true by simp)]
  refine wpAny_bind (wpAny_field et hdt h3 ?_)
  rw [if_pos (by simp)]
  exact wpAny_pure (h s T I x ne tb oa oT)
theorem zkw {T f:Addr}{fl:Value}(x:XO s.heap a (.ref C) d (.ref T)) (t:TB s.heap T fl) (ne:T≠a)
  (h:∀h',XO h' a (.ref C) d (.ref T)->TB h' T (rawInt f)->(∀b o,b≠T->s.heap.get? b=some o->h'.get? b=some o)->Q () { s with heap:=h' }) {M:Model}:wpAny M A (setFlight (.ref a) (some f)) Q E s:=by
 obtain ⟨oe,vs,e,_,_,hd,_,h1⟩:=id x
 obtain ⟨oT,ts,eT,hdT,h3⟩:=id t
 unfold setFlight
 refine wpAny_bind (wpAny_field e hd h1 ?_)
 rw [if_pos (show (Value.ref T != Value.none)=true by simp)]
 refine wpAny_setField eT hdT (Array.getElem?_eq_some_iff.mp h3).1 ?_
 exact h _ (x.keeps fun o q=>(Heap.get?_update_other _ _ ne).trans q) (t.set3 _) fun b o nb q=>(Heap.get?_update_other _ _ (Ne.symm nb)).trans q
theorem zaP (hst:X.stack=X.env::X.outer) (hf:X.env.frame=some X.env.locals):PassesOwn (model X.prog X.w) X.A X.env (XA X Er):=by
 rintro e s ⟨pins,U,H,a,C,d,rfl,I,F,q⟩
 unfold notedBy
 refine zeJ I I.ok.frames hst hf F fun s2 T I2 x2 ne tb2 oa oT=>?_
 unfold cameBackBy
 obtain ⟨oe,vs,e2,_,_,hd,_,h1⟩:=id x2
 refine wpAny_bind (wpAny_field e2 hd h1 ?_)
 rw [if_neg (show ¬((Value.ref T==Value.none)=true) by simp),hf]
 refine zkw x2 tb2 ne fun h' x3 tb3 k3=>⟨pins,U,H,a,C,d,rfl,?_,.inr ⟨T,x3,ne,tb3,oa,oT⟩,q⟩
 exact I2.turned (t':=s2.toks) (it:=T) (fun b o nb e=>k3 b o nb e) oT.1 oT.2.2.1 (.inr oT.2.1) oT.2.2.2.1 oT.2.2.2.2
theorem PSs.throwing {st:List Stmt}{t:TS}(h:PSs (X.wish (XA X Er)) st t) (ht:yO X Er):PSs X st t:=fun pins s U H D I hw =>
 wpAny_mono (h pins s U H D (I.wish _) hw) (fun _ _ q=>q.unwish) fun e s' ⟨pins,U,H,a,C,d,ee,I1,F,q⟩=>ee▸ht pins U H s' a C d I1 F q
theorem wm (t:yO X Er):Passes (CXe X.prog X.w) X Er:=zke t.one
end
theorem zkx {P:Program}{w:World}{K:PySem.W.Frag}{mg:Str->Option Value}{base:Heap}{N:List Str}{qual:Str}{scope:Scope}{f:Addr}{cd:Value}{A:Around}{outer:List Env}{s:Shared}{H:Hp}{E:XK} :
  yO (cxOf (CXe P w) P w K mg base N qual scope f cd A outer s H E) E:=by
 intro pins U H1 s1 a C d I F q
 show wpAny (model P w) (A.deeper (envOfC qual scope s.heap.objs.size f cd)) (leaving (envOfC qual scope s.heap.objs.size f cd) (.ref a)) _ _ s1
 unfold leaving
 refine wpAny_bind (zeJ I I.ok.frames rfl rfl F fun s2 T I2 x ne tb oa oT=>wY I2 x ne tb oa oT fun s3 I3 x3 tb3=>?_)
 exact ⟨a,C,T,d,H1,rfl,I3.os,I3.bare,I3.base,I3.hok,x3,ne,tb3,⟨oa.2.1,oa.1⟩,⟨oT.2.1,oT.1⟩,q⟩
section
variable {P:Program}{w:World}{K:PySem.W.Frag}{mg:Str->Option Value}{base:Heap}
theorem Fun.okT {x qual:Str}{st:Stmt}{f:Addr}{fd:FuncData}{N ps:List Str}{k:Nat}{sp:Sp}(F:Fun K x qual st f fd) (S:FnScope N ps (zw st)) (len:∀vs H Q E,sp vs H Q E->vs.length=ps.length)
  (hbody:∀(cdv:Value) (A:Around) (outer:List Env) (s:Shared) (H:Hp) (vs:List V) (Q:VK) (E:XK),Room k (A.deeper (envOfC qual (zw st) s.heap.objs.size f cdv))->sp vs H Q E ->
   ∃t,PSs ((cxOf (CXe P w) P w K mg base N qual (zw st) f cdv A outer s H E).wish (XA (cxOf (CXe P w) P w K mg base N qual (zw st) f cdv A outer s H E) E)) (yt st) t/\t { nx:=fun _ H'=>Q .non H',rt:=Q } (start N vs) H):FnOk P w K mg base (CXe P w) (k+1) f fd ps sp :=
 Fun.okX F S len fun cdv A outer s H vs Q E hr hs=>let ⟨t,h1,h2⟩:=hbody cdv A outer s H vs Q E hr hs;⟨t,PSs.throwing h1 zkx,h2⟩
end
end L2
namespace L2
open PySem PySem.Spec PyProof.Rows PySem.W PySem.Builtin PySem.Builtin.ObjectAttr
section
variable {prog:Program}{w:World}{A:Around}{E:Value->Shared->Prop}{K:Frag}{x C:Addr}{s:Shared}{ox:Obj}{od:Option Obj}{name:Str}{tk:Tok}
structure ExGa (K:Frag) (C:Addr):Prop where
 ga:findIn K (.ref C) "__getattribute__" = some (some (.builtin "BaseException.__getattribute__"))
 hk:findIn K (.ref C) "__getattr__" = some none
 hB:mroIn K C (.type "BaseException")=some true
theorem zeK {fill expr:Bool}{Q:Value->Shared->Prop}(X:K.In s.heap) (I:InstAt s.heap x ox C od) (G:ExGa K C)
  (h:wpAny (model prog w) A.in1 (Builtin.«object.__getattribute__» ⟨[.ref x,.str name tk],[]⟩) (fun fin s'=>∃v,fin=.done (.ret v)/\handedIn v=true/\Q v s') (fun _ _=>False) s) :
  wpAny (model prog w) A (getAttrBy (.ref x) (.str name tk) fill expr) Q E s:=by
 have L0:=I.type (M:=model prog w)
 have L1:=looks_findIn (M:=model prog w) X G.ga
 have L2:=looks_findIn (M:=model prog w) X G.hk
 have isB:Looks (model prog w) s.heap (isInstance (.ref x) (.type "BaseException")) true:=I.type.andThen (looks_mroIn X G.hB)
 unfold getAttrBy
 refine wpAny_holding (wpAny_bind (L0.here (wpAny_bind (L1.here ?_))))
 dsimp only
 rw [if_neg (show ¬((onTheHeap (Value.ref C)&&Value.builtin "BaseException.__getattribute__" == Value.builtin "object.__getattribute__")=true) by
  rw [show (Value.builtin "BaseException.__getattribute__" == Value.builtin "object.__getattribute__")=false by decide +kernel,Bool.and_false];exact Bool.false_ne_true)]
 unfold getAttrByItsOwn hookBefore
 rw [if_pos (show onTheHeap (Value.ref C)=true from rfl)]
 refine wpAny_bind (L2.here (wpAny_bind (wpAny_attempt (wpAny_holding ?_))))
 unfold callGetattribute
 rw [if_neg (show ¬((expr&&onTheHeap (Value.builtin "BaseException.__getattribute__"))=true) by cases expr<;>exact Bool.false_ne_true)]
 unfold boundAndCalled
 refine wpAny_bind (wpAny_of_eq (PySem.F.excAttr_ValueError.ga.bind (.ref x)) ?_)
 refine wpAny_call (codeAny_call_builtin PySem.F.excAttr_ValueError.ga.plain PySem.F.entry_bexc_ga (@check_slot (model prog w) _ _ s "BaseException.__getattribute__" "BaseException" "__getattribute__" (.ref x) [.str name tk] [] _ (by decide +kernel) (by decide +kernel) isB (PySem.F.args_bexc_ga (.ref x) (.str name tk)) ?_))
 refine wpAny_mono h (fun fin s' ⟨v,ef,hv,q⟩=>?_) fun _ _ z=>z.elim
 subst ef
 show wpAny _ _ (handedOut v) _ _ _
 rw [handedOut_of hv]
 exact wpAny_pure q
theorem zky {v:Value}{Q:Fin->Shared->Prop}(X:K.In s.heap) (I:InstAt s.heap x ox C od) (hf:findObj K C od name=some (.value v)) (h:Q (.done (.ret v)) s) :
  wpAny (model prog w) A (Builtin.«object.__getattribute__» ⟨[.ref x,.str name tk],[]⟩) Q E s:=by
 have L0:=I.type (M:=model prog w)
 have L1:=looks_find (M:=model prog w) X I hf
 exact wpAny_bind (wpAny_pure (wpAny_bind (wpAny_pure (wpAny_bind (L0.here (wpAny_bind (L1.here (wpAny_pure h))))))))
theorem zkz {Q:Fin->Shared->Prop} (X:K.In s.heap) (I:InstAt s.heap x ox C od) (hf:findObj K C od "__class__" = some (.bind (.builtin "getset_descriptor.__get__") (.builtin "object.__class__"))) (hm:mroIn K C (.type "object")=some true)
  (h:Q (.done (.ret (.ref C))) s):wpAny (model prog w) A (Builtin.«object.__getattribute__» ⟨[.ref x,.str "__class__" tk],[]⟩) Q E s:=by
 have L0:=I.type (M:=model prog w)
 have L1:=looks_find (M:=model prog w) X I hf
 refine wpAny_bind (wpAny_pure (wpAny_bind (wpAny_pure (wpAny_bind (L0.here (wpAny_bind (L1.here ?_)))))))
 show wpAny _ _ (holding [.builtin "object.__class__"] (call (.builtin "getset_descriptor.__get__") [.builtin "object.__class__", .ref x,.ref C]) >>= ret) _ _ _
 exact wpAny_bind (wpAny_holding (wpAny_call (class_get (ox:=ox) (od:=od) X I hm (wpAny_pure h))))
end
theorem zkA {K:Frag} {x D:Addr} {ox:Obj} {od:Option Obj} (G:ExGa K D) (hcl:(clsIn K D).isSome=true) (hf:findObj K D od "__class__" = some (.bind (.builtin "getset_descriptor.__get__") (.builtin "object.__class__"))) (hm:mroIn K D (.type "object")=some true) :
  KitX K (.ref x) (.ref D) (fun h=>InstAt h x ox D od):=by
 obtain ⟨cd,hc⟩:=Option.isSome_iff_exists.mp hcl
 unfold clsIn at hc
 split at hc
 ·rename_i c' d' cd' sl' ho
  refine ⟨fun _ _ _ I=>I.type,fun M h X _=>?_,fun h tp dd its n sl X htp=>?_,fun {prog w A E Q s} X I k=>?_⟩
  ·intro A' Q' E' s' k q
   unfold isType loadHead
   exact wpAny_bind (wpAny_loadPart (k _ _ (X _ _ ho)) (wpAny_pure q))
  ·refine Bool.eq_false_iff.mpr fun q=>?_
   obtain rfl:D=tp:=Value.ref.inj (beq_iff_eq.mp q)
   have z:=(X _ _ ho).symm.trans htp
   cases z
  ·unfold getAttr? getAttrBy?
   refine wpAny_bind (wpAny_mkText (wpAny_bind (wpAny_attempt ?_)))
   exact zeK (s:={ s with toks:=s.toks+1 }) X I G (zkz (s:={ s with toks:=s.toks+1 }) X I hf hm ⟨_,rfl,rfl,wpAny_pure k⟩)
 ·cases hc
structure ExIs (K:Frag) (C:Addr):Prop where
 g:ExGa K C
 hd:hasDictIn K C=true
 ha:findIn K (.ref C) "__class__" = some (some (.builtin "object.__class__"))
 hn:specialIn K (.builtin "object.__class__") "__get__" = some (some (.builtin "getset_descriptor.__get__"))
 tk:takesIn K (.builtin "object.__class__")=some true
 hm:mroIn K C (.type "object")=some true
section
variable {X:Cx}{pins:List (Addr×Obj)}{U:St}{H:Hp}{s:Shared}{a C d:Addr}{fs:List (Str×V)}{A:Around}{E:Value->Shared->Prop}
theorem zkB {b:Bool}{f:Str}{v:V}{Q:Value->Shared->Prop}(I:Inv X pins U H s) (ha:H a=some (exC C (some d) a)) (hd:H d=some (.xd fs)) (g:ExGa X.K C) (hh:hasDictIn X.K C=true) (no:findIn X.K (.ref C) f=some none) (l:fs.lookup f=some v)
  (h:∀u s',Inv X pins U H s'->RelV v u->Q u s'):wpAny (model X.prog X.w) A (getAttr (.ref a) f b) Q E s:=by
 obtain ⟨ox,od,J,hl⟩:=zeI I ha hd
 obtain ⟨o,ho,r⟩:=hl f
 rw [l] at r
 obtain ⟨u,rfl,ru⟩:=RelO.some_of (v:=v) (o:=o) r
 unfold getAttr
 refine wpAny_bind (wpAny_mkText ?_)
 exact zeK (s:={ s with toks:=s.toks+1 }) I.kIn J g (zky (s:={ s with toks:=s.toks+1 }) I.kIn J (findObj_own hh no rfl ho) ⟨u,rfl,zdW ru,h u _ (I.tok _) ru⟩)
theorem zkC {c:Value}{b:Bool}{Q:Value->Shared->Prop}(I:Inv X pins U H s) (ha:H a=some (exC C (some d) a)) (hd:H d=some (.xd fs)) (k:ExIs X.K C) (e:kitOne X.K (.ref C) c=some b) (h:∀tk,Q (.bool b) { s with toks:=tk }) :
  wpAny (model X.prog X.w) A (call (.builtin "isinstance") [.ref a,c]) Q E s:=by
 obtain ⟨ox,od,J,_⟩:=zeI I ha hd
 have cl:(clsIn X.K C).isSome=true:=by obtain ⟨cd,hc,_⟩:=any_some k.hd;rw [hc];rfl
 exact kia_one (zkA k.g cl (findObj_data cl k.ha k.hn k.tk) k.hm) I.kIn J e (fun z=>nomatch z) h
end
end L2
namespace L2
open PySem PySem.Spec PyProof.Rows PySem.W
structure Ste (prog:Program) (w:World) (it src:Addr) (xs:Array Value) (St:Nat->Heap->Prop):Prop where
 at_:∀{k h h'},St k h->(∀o,h.get? it=some o->h'.get? it=some o)->(∀o,h.get? src=some o->h'.get? src=some o)->St k h'
 lt:∀{k h},St k h->it<h.objs.size
 item:∀{A:Around} {E:Value->Shared->Prop} {s:Shared} {k:Nat} {x:Value} {Q:Value->Shared->Prop},St k s.heap->xs[k]?=some x->(∀h',St (k+1) h'->Heap.SameBut it s.heap h'->Q x { s with heap:=h' }) ->
  wpAny (model prog w) A (Builtin.SmallTypes.nextOf (.ref it)) Q E s
 stop:∀{A:Around} {E:Value->Shared->Prop} {s:Shared} {k:Nat} {Q:Value->Shared->Prop},A.handled=none->St k s.heap->xs[k]?=none ->
  (∀h' e,Heap.ExtBut it s.heap h'->(∃o,h'.get? e=some o/\o.cls=.type "StopIteration")->E (.ref e) { s with heap:=h' })->wpAny (model prog w) A (Builtin.SmallTypes.nextOf (.ref it)) Q E s
def StT (it t:Addr) (xs:Array Value) (k:Nat) (h:Heap):Prop:=IsTupIter h it t k/\IsTup h t xs
theorem zaQ {prog:Program}{w:World}{it t:Addr}{xs:Array Value}(ne:t≠it):Ste prog w it t xs (StT it t xs) where
 at_:=fun {k h h'} q k1 k2=>by
  obtain ⟨⟨o,ho,r⟩,⟨o',ho',r'⟩⟩:=q
  exact ⟨⟨o,k1 o ho,r⟩,⟨o',k2 o' ho',r'⟩⟩
 lt:=fun q=>let ⟨⟨_,ho,_⟩,_⟩:=q;Heap.lt_size ho
 item:=fun {A E s k x Q} q hx hQ=>by
  obtain ⟨hit,ht⟩:=q
  obtain ⟨o,ho,hc,hd⟩:=id hit
  obtain ⟨ol,hol,_,nl,hdl⟩:=id ht
  unfold Builtin.SmallTypes.nextOf
  refine wpAny_bind (wpAny_callSpecial?_slot (name:=Str.ofString "__next__") hit.typeIs slot_tupleiter_next (wpAny_call_entry slot_tupleiter_next hit.typeIs entry_tupleiter_next ?_ (args_tupleiter_next _)))
  change wpAny _ _ (field (.ref it) 0 >>= _) _ _ s
  refine wpAny_bind (wpAny_field ho hd (x:=.ref t) rfl ?_)
  rw [if_neg (by simp)]
  change wpAny _ _ (field (.ref it) 1 >>= _) _ _ s
  refine wpAny_bind (wpAny_field ho hd (x:=.int k 0) rfl ?_)
  change wpAny _ _ (seqItems? (.ref t) >>= _) _ _ s
  refine wpAny_bind (wpAny_seqItems hol hdl ?_)
  simp only [hx,Int.toNat_natCast]
  have fl:=Obj.data_mapFields hd (·.setIfInBounds 1 (rawInt (k+1)))
  refine wpAny_bind (wpAny_setField ho hd (by simp) (wpAny_pure ⟨x,rfl,wpAny_pure (hQ _ ⟨⟨_,Heap.get?_update_self _ ho (Obj.isFreed_of_fields fl),(Obj.cls_mapFields ..).trans hc,?_⟩,?_⟩ (Heap.SameBut.update ..))⟩))
  ·rw [fl];simp [rawInt]
  ·exact ht.extBut (Heap.SameBut.update ..).extBut ne
 stop:=fun {A E s k Q} hh q hx hE=>by
  obtain ⟨hit,ht⟩:=q
  obtain ⟨o,ho,hc,hd⟩:=id hit
  obtain ⟨ol,hol,_,nl,hdl⟩:=id ht
  unfold Builtin.SmallTypes.nextOf
  refine wpAny_bind (wpAny_callSpecial?_slot (name:=Str.ofString "__next__") hit.typeIs slot_tupleiter_next (wpAny_call_entry slot_tupleiter_next hit.typeIs entry_tupleiter_next ?_ (args_tupleiter_next _)))
  change wpAny _ _ (field (.ref it) 0 >>= _) _ _ s
  refine wpAny_bind (wpAny_field ho hd (x:=.ref t) rfl ?_)
  rw [if_neg (by simp)]
  change wpAny _ _ (field (.ref it) 1 >>= _) _ _ s
  refine wpAny_bind (wpAny_field ho hd (x:=.int k 0) rfl ?_)
  change wpAny _ _ (seqItems? (.ref t) >>= _) _ _ s
  refine wpAny_bind (wpAny_seqItems hol hdl ?_)
  simp only [hx,Int.toNat_natCast]
  refine wpAny_bind (wpAny_rule (wpAny_bind (wpAny_setField ho hd (by simp) ?_)))
  change wpAny _ _ (newExc (.type "StopIteration") [] >>= _) _ _ _
  refine wpAny_bind ?_
  simp only [newExc,newTuple]
  refine wpAny_bind (wpAny_newObj_type (wpAny_bind (m:=firstArgMember _ _) (wpAny_of_eq (a:=Value.none) (by first|rfl|(simp only [firstArgMember];rfl)) (wpAny_newObj_type ?_ (by size_fits)))) (by size_fits))
  simp only [raiseNew]
  refine wpAny_bind (wpAny_handled ?_)
  first|rw [show A.in1.handled=none from hh]|rw [hh]
  exact wpAny_bind (wpAny_pure (wpAny_throw (hE _ _ (((Heap.SameBut.update ..).extBut.push _).push _) ⟨_,Heap.get?_push_size _ rfl,rfl⟩)))
section
variable {prog:Program}{w:World}{A:Around}{E:Value->Shared->Prop}{s:Shared}{z TI TO i1 i2 t1 t2:Addr}{k:Nat}{xs ys:Array Value}{x y a b:Value}{S1 S2:Nat->Heap->Prop}
theorem Ste.by_same (S:Ste prog w i1 t1 xs S1) {h h':Heap}{c:Addr}(q:S1 k h) (hs:Heap.SameBut c h h') (n1:i1≠c) (n2:t1≠c):S1 k h' :=
 S.at_ q (fun o e=>hs.extBut _ _ n1 e) fun o e=>hs.extBut _ _ n2 e
theorem zkD {Q:Value->Shared->Prop}(D:ZipApart z TI TO i1 i2 t1 t2) (U1:Ste prog w i1 t1 xs S1) (U2:Ste prog w i2 t2 ys S2) (hz:IsZip s.heap z TI TO .none) (hTI:IsPair s.heap TI (.ref i1) (.ref i2)) (hTO:IsPair s.heap TO a b)
  (q1:S1 k s.heap) (q2:S2 k s.heap) (hx:xs[k]?=some x) (hy:ys[k]?=some y)
  (hQ:∀h',IsZip h' z TI TO (rawInt s.heap.objs.size)->IsPair h' TO x y->S1 (k+1) h'->S2 (k+1) h'->IsPair h' s.heap.objs.size x y ->
   (∀c o,c≠z->c≠TO->c≠i1->c≠i2->s.heap.get? c=some o->h'.get? c=some o)->Q (.ref s.heap.objs.size) { s with heap:=h' }) :
  wpAny (model prog w) A (Builtin.«zip.__next__» ⟨[.ref z],[]⟩) (fun fin s'=>∃v,fin=.done (.ret v)/\Q v s') E s:=by
 change wpAny _ _ (field (.ref z) 2 >>= _) _ _ _
 refine wpAny_bind (wpAny_field hz rfl (x:=.bool false) rfl ?_)
 change wpAny _ _ (field (.ref z) 3 >>= _) _ _ _
 refine wpAny_bind (wpAny_field hz rfl (x:=.ref TI) rfl (wpAny_bind (wpAny_seqItems hTI rfl ?_)))
 change wpAny _ _ (Builtin.SmallTypes.ownedTupleIsFree (.ref z) >>= _) _ _ _
 refine wpAny_bind ?_
 unfold Builtin.SmallTypes.ownedTupleIsFree
 refine wpAny_bind (wpAny_field hz rfl (x:=.none) rfl (wpAny_pure ?_))
 rw [if_pos rfl]
 refine wpAny_bind (wpAny_rule (wpAny_bind (wpAny_field hz rfl (x:=.ref TO) rfl (wpAny_bind (wpAny_setField_rec hz (by simp) fun h1 z1 e1=>?_)))))
 replace z1:IsZip h1 z TI TO .ellipsis:=z1
 refine wpAny_bind ?_
 simp only [List.zipIdx_cons,List.zipIdx_nil,List.forIn_cons,List.forIn_nil]
 refine wpAny_bind (wpAny_bind (wpAny_onRaise ?_))
 change wpAny _ _ (Builtin.SmallTypes.nextOf (.ref i1) >>= _) _ _ _
 refine wpAny_bind (U1.item (U1.by_same q1 e1 D.i1z D.l1z) hx fun h2 p2 e2=>wpAny_pure ?_)
 have o2:IsPair h2 TO a b:=e2.extBut _ _ D.TOi1 (e1.extBut _ _ D.TOz hTO)
 refine wpAny_bind (wpAny_seqItems o2 rfl (wpAny_bind (wpAny_updateSeq_pair o2 fun h3 o3 e3=>?_)))
 replace o3:IsPair h3 TO x b:=o3
 refine wpAny_bind (wpAny_letGo (wpAny_pure (wpAny_bind (wpAny_bind (wpAny_onRaise ?_)))))
 change wpAny _ _ (Builtin.SmallTypes.nextOf (.ref i2) >>= _) _ _ _
 have r3:S2 k h3:=U2.by_same (U2.by_same (U2.by_same q2 e1 D.i2z D.l2z) e2 D.i12.symm D.l2i1) e3 D.TOi2.symm D.l2TO
 refine wpAny_bind (U2.item r3 hy fun h4 p4 e4=>wpAny_pure ?_)
 have o4:IsPair h4 TO x b:=e4.extBut _ _ D.TOi2 o3
 refine wpAny_bind (wpAny_seqItems o4 rfl (wpAny_bind (wpAny_updateSeq_pair o4 fun h5 o5 e5=>?_)))
 replace o5:IsPair h5 TO x y:=o5
 refine wpAny_bind (wpAny_letGo (wpAny_pure (wpAny_pure (wpAny_bind (wpAny_seqItems o5 rfl (wpAny_bind (wpAny_newTuple ?_)))))))
 have sz:h5.objs.size=s.heap.objs.size:=by rw [e5.1,e4.1,e3.1,e2.1,e1.1]
 have z5:IsZip h5 z TI TO .ellipsis:=e5.extBut _ _ D.TOz.symm (e4.extBut _ _ D.i2z.symm (e3.extBut _ _ D.TOz.symm (e2.extBut _ _ D.i1z.symm z1)))
 have k5:∀c o,c≠z->c≠TO->c≠i1->c≠i2->s.heap.get? c=some o->h5.get? c=some o:=fun c o c1 c2 c3 c4 e=>e5.extBut _ _ c2 (e4.extBut _ _ c4 (e3.extBut _ _ c2 (e2.extBut _ _ c3 (e1.extBut _ _ c1 e))))
 have f1:S1 (k+1) h5:=U1.by_same (U1.by_same (U1.by_same p2 e3 D.TOi1.symm D.l1TO) e4 D.i12 D.l1i2) e5 D.TOi1.symm D.l1TO
 have f2:S2 (k+1) h5:=U2.by_same p4 e5 D.TOi2.symm D.l2TO
 change wpAny _ _ (Builtin.SmallTypes.ownedTupleHandOut (.ref z) (.ref h5.objs.size) >>= _) _ _ _
 refine wpAny_bind ?_
 unfold Builtin.SmallTypes.ownedTupleHandOut
 have z6:IsZip (h5.push { cls:=.type "tuple", data:=.seq #[x,y] }) z TI TO .ellipsis:=Heap.get?_push_of_some _ z5
 refine wpAny_bind (wpAny_setField_rec z6 (by simp) fun h7 z7 e7=>?_)
 replace z7:IsZip h7 z TI TO (rawInt h5.objs.size):=z7
 refine wpAny_setField_rec z7 (by simp) fun h8 z8 e8=>?_
 replace z8:IsZip h8 z TI TO (rawInt h5.objs.size):=z8
 have up:∀c o,c≠z->h5.get? c=some o->h8.get? c=some o:=fun c o c1 e=>e8.extBut _ _ c1 (e7.extBut _ _ c1 (Heap.get?_push_of_some _ e))
 have nz:h5.objs.size≠z:=Nat.ne_of_gt (Heap.lt_size z5)
 have pT:IsPair h8 h5.objs.size x y:=e8.extBut _ _ nz (e7.extBut _ _ nz (Heap.get?_push_size _ rfl))
 rw [sz] at z8 pT
 refine wpAny_pure ⟨_,rfl,?_⟩
 change Q (.ref h5.objs.size) _
 rw [sz]
 exact hQ h8 z8 (up _ _ D.TOz o5) (U1.at_ f1 (fun o e=>up _ o D.i1z e) fun o e=>up _ o D.l1z e) (U2.at_ f2 (fun o e=>up _ o D.i2z e) fun o e=>up _ o D.l2z e) pT fun c o c1 c2 c3 c4 e=>up c o c1 (k5 c o c1 c2 c3 c4 e)
theorem zkE {Q:Fin->Shared->Prop}(hh:A.handled=none) (D:ZipApart z TI TO i1 i2 t1 t2) (U1:Ste prog w i1 t1 xs S1) (U2:Ste prog w i2 t2 ys S2) (hz:IsZip s.heap z TI TO .none) (hTI:IsPair s.heap TI (.ref i1) (.ref i2)) (hTO:IsPair s.heap TO a b)
  (q1:S1 k s.heap) (q2:S2 k s.heap) (he:xs[k]?=none\/ys[k]?=none)
  (hE:∀h' e,(∀c o,c≠z->c≠TO->c≠i1->c≠i2->s.heap.get? c=some o->h'.get? c=some o)->(∃o,h'.get? e=some o/\o.cls=.type "StopIteration")->E (.ref e) { s with heap:=h' }) :
  wpAny (model prog w) A (Builtin.«zip.__next__» ⟨[.ref z],[]⟩) Q E s:=by
 change wpAny _ _ (field (.ref z) 2 >>= _) _ _ _
 refine wpAny_bind (wpAny_field hz rfl (x:=.bool false) rfl ?_)
 change wpAny _ _ (field (.ref z) 3 >>= _) _ _ _
 refine wpAny_bind (wpAny_field hz rfl (x:=.ref TI) rfl (wpAny_bind (wpAny_seqItems hTI rfl ?_)))
 change wpAny _ _ (Builtin.SmallTypes.ownedTupleIsFree (.ref z) >>= _) _ _ _
 refine wpAny_bind ?_
 unfold Builtin.SmallTypes.ownedTupleIsFree
 refine wpAny_bind (wpAny_field hz rfl (x:=.none) rfl (wpAny_pure ?_))
 rw [if_pos rfl]
 refine wpAny_bind (wpAny_rule (wpAny_bind (wpAny_field hz rfl (x:=.ref TO) rfl (wpAny_bind (wpAny_setField_rec hz (by simp) fun h1 z1 e1=>?_)))))
 replace z1:IsZip h1 z TI TO .ellipsis:=z1
 refine wpAny_bind ?_
 simp only [List.zipIdx_cons,List.zipIdx_nil,List.forIn_cons,List.forIn_nil]
 refine wpAny_bind (wpAny_bind (wpAny_onRaise ?_))
 change wpAny _ _ (Builtin.SmallTypes.nextOf (.ref i1) >>= _) _ _ _
 have p1:=U1.by_same q1 e1 D.i1z D.l1z
 have nez:∀{h:Heap} {e:Addr} {oe:Obj},IsZip h z TI TO .ellipsis->h.get? e=some oe->oe.cls=.type "StopIteration" -> e≠z:=fun iz ho hc x=>by
  rw [x,iz] at ho
  cases ho
  simp at hc
 cases hx:xs[k]? with
 | none =>
  refine wpAny_bind (U1.stop hh p1 hx fun h2 e e2 ⟨oe,hoe,hce⟩=>?_)
  have z2:IsZip h2 z TI TO .ellipsis:=e2 _ _ D.i1z.symm z1
  exact wpAny_setField_rec z2 (by simp) fun h3 _ e3=>hE h3 e (fun c o c1 _ c3 _ x=>e3.extBut _ _ c1 (e2 _ _ c3 (e1.extBut _ _ c1 x))) ⟨oe,e3.extBut _ _ (nez z2 hoe hce) hoe,hce⟩
 | some x =>
  have hy:ys[k]?=none:=by
   rcases he with h|h
   ·rw [hx] at h;cases h
   ·exact h
  refine wpAny_bind (U1.item p1 hx fun h2 p2 e2=>wpAny_pure ?_)
  have o2:IsPair h2 TO a b:=e2.extBut _ _ D.TOi1 (e1.extBut _ _ D.TOz hTO)
  refine wpAny_bind (wpAny_seqItems o2 rfl (wpAny_bind (wpAny_updateSeq_pair o2 fun h3 o3 e3=>?_)))
  refine wpAny_bind (wpAny_letGo (wpAny_pure (wpAny_bind (wpAny_bind (wpAny_onRaise ?_)))))
  change wpAny _ _ (Builtin.SmallTypes.nextOf (.ref i2) >>= _) _ _ _
  have r3:S2 k h3:=U2.by_same (U2.by_same (U2.by_same q2 e1 D.i2z D.l2z) e2 D.i12.symm D.l2i1) e3 D.TOi2.symm D.l2TO
  refine wpAny_bind (U2.stop hh r3 hy fun h4 e e4 ⟨oe,hoe,hce⟩=>?_)
  have z4:IsZip h4 z TI TO .ellipsis:=e4 _ _ D.i2z.symm (e3.extBut _ _ D.TOz.symm (e2.extBut _ _ D.i1z.symm z1))
  exact wpAny_setField_rec z4 (by simp) fun h5 _ e5=>hE h5 e (fun c o c1 c2 c3 c4 x=>e5.extBut _ _ c1 (e4 _ _ c4 (e3.extBut _ _ c2 (e2.extBut _ _ c3 (e1.extBut _ _ c1 x))))) ⟨oe,e5.extBut _ _ (nez z4 hoe hce) hoe,hce⟩
end
section
variable {X:Cx}{pins:List (Addr×Obj)}{U:St}{H:Hp}{s:Shared}{h':Heap}
theorem Inv.turnL {ch:List Addr}{t':Nat}(I:Inv X pins U H s) (hc:∀b∈ch,FpOk X pins H b) (k:∀b o,b∉ch->s.heap.get? b=some o->h'.get? b=some o):Inv X pins U H { s with heap:=h',toks:=t' }:=by
 have nch:∀b u,H b=some u->b∉ch:=fun b u e z=>by rw [(hc b z).1] at e;cases e
 refine I.step (g':=s.gens) (d':=s.drawn) (ch:=ch) (fun b hb=>?_) (fun b o _ _ nb e _=>k b o nb e) (fun b o _ _ nb e _=>⟨o.slots,k b o nb e⟩) (fun _ _ _ _ n=>n)
  (fun b o nb e=>⟨o,k b o nb e⟩) (fun _ _ e=>e) (fun _ _ _ e=>e) (fun b ps e=>⟨#[],by rw [e];simp⟩) (fun m hm=>?_) (fun b u e=>?_) I.bare
 ·obtain ⟨_,f1,_,f3,f4,f5⟩:=hc b hb
  exact ⟨f3,f1,f4,f5⟩
 ·obtain ⟨o,es,ep,ho,r⟩:=hm
  exact ⟨o,es,ep,k _ o (fun z=>(hc _ z).2.1 rfl) ho,r⟩
 ·refine (I.hok b u e).stay (fun c v hc' q=>k c v ?_ q) (fun _ q=>q) fun _ _ q=>q
  rcases hc' with z|z
  ·rw [z];exact nch b u e
  ·exact nch c _ z
theorem Inv.turnN {ch:List Addr}{T:Addr}{o:HO}{t':Nat}(I:Inv X pins U H s) (hc:∀b∈ch,FpOk X pins H b) (k:∀b o,b∉ch->s.heap.get? b=some o->h'.get? b=some o) (hT:s.heap.objs.size<=T)
  (new:ObjOk X.prog X.w (upd H T o) h' T o):Inv X pins U (upd H T o) { s with heap:=h',toks:=t' }:=by
 have fT:H T=none:=I.hok.fresh hT
 have nch:∀b u,H b=some u->b∉ch:=fun b u e z=>by rw [(hc b z).1] at e;cases e
 have nT:∀b u,H b=some u->b≠T:=fun b u e z=>by rw [z,fT] at e;cases e
 refine I.step (g':=s.gens) (d':=s.drawn) (ch:=ch) (fun b hb=>?_) (fun b o _ _ nb e _=>k b o nb e) (fun b o _ _ nb e _=>⟨o.slots,k b o nb e⟩) (fun b u _ e n=>?_)
  (fun b o nb e=>⟨o,k b o nb e⟩) (fun b xs e=>?_) (fun b u v e=>?_) (fun b ps e=>⟨#[],?_⟩) (fun m hm=>?_) (fun b u e=>?_) I.bare
 ·obtain ⟨_,f1,_,f3,f4,f5⟩:=hc b hb
  exact ⟨f3,f1,f4,f5⟩
 ·rw [zp (Nat.ne_of_lt (Nat.lt_of_lt_of_le (Heap.lt_size e) hT))];exact n
 ·rw [zp (nT b _ e)];exact e
 ·rw [zp (nT b _ e)];exact e
 ·rw [zp (nT b _ e),e];simp
 ·obtain ⟨o,es,ep,ho,r⟩:=hm
  exact ⟨o,es,ep,k _ o (fun z=>(hc _ z).2.1 rfl) ho,r⟩
 ·by_cases z:b=T
  ·rw [z] at e ⊢
   rw [zY] at e
   cases e
   exact new
  ·rw [zp z] at e
   refine (I.hok b u e).stay (fun c v hc' q=>k c v ?_ q) (fun c q=>by rw [zp (nT c _ q)];exact q) fun c xs q=>by rw [zp (nT c _ q)];exact q
   rcases hc' with z|z
   ·rw [z];exact nch b u e
   ·exact nch c _ z
end
def Itz (K:Frag) (a b:Addr):It :=
 ⟨fun i H=>∃xs ys x y,SqT K H a xs/\SqT K H b ys/\xs[i]?=some x/\ys[i]?=some y,
  fun i H v H'=>∃T x y,H T=none/\v=.ref T/\H'=upd H T (.tup [x,y])/\(∀xs,SqT K H a xs->xs[i]?=some x)/\∀ys,SqT K H b ys->ys[i]?=some y,
  fun i H=>∃xs ys,SqT K H a xs/\SqT K H b ys/\(xs.length<=i\/ys.length<=i)⟩
def Zst (z TI TO i1 i2 a b:Addr) (k:Nat) (h:Heap):Prop:=IsZip h z TI TO .none/\IsPair h TI (.ref i1) (.ref i2)/\(∃u v,IsPair h TO u v)/\IsTupIter h i1 a k/\IsTupIter h i2 b k
theorem zaR {X:Cx}{pins:List (Addr×Obj)}{U:St}{H:Hp}{s:Shared}{a c:Addr}{xs:List V}(I:Inv X pins U H s) (hf:FpOk X pins H c) (hq:SqT X.K H a xs):a≠c:=by
 rintro rfl
 rcases hq with q|⟨o,its,n,hl,_⟩
 ·rcases q with q|⟨ob,q⟩<;>(rw [hf.1] at q;cases q)
 ·have e:=I.ok.mod.kin _ _ hl
  rcases hf.2.2.2.1 with z|z
  ·exact I.ok.noex _ _ e z
  ·exact absurd (Nat.lt_of_lt_of_le (Heap.lt_size (I.ok.bs _ _ e).1) z) (Nat.lt_irrefl _)
structure Five (z TI TO i1 i2:Addr):Prop where
 TIz:TI≠z
 TOz:TO≠z
 i1z:i1≠z
 i2z:i2≠z
 TITO:TI≠TO
 TIi1:TI≠i1
 TIi2:TI≠i2
 TOi1:TO≠i1
 TOi2:TO≠i2
 i12:i1≠i2
theorem zkF {P:Program}{w:World}{K:Frag}{elts:List Expr}{kt:Nat}{pos:Pos}{z TI TO i1 i2 a b:Addr}(V5:Five z TI TO i1 i2):Turn P w K (.Tuple elts kt pos) (Itz K a b) [z,TI,TO,i1,i2] z (Zst z TI TO i1 i2 a b) where
 mem:=by simp
 obj:=fun i h st c hc=>by
  obtain ⟨hz,hTI,⟨u,v,hTO⟩,⟨o1,e1,_,d1⟩,⟨o2,e2,_,d2⟩⟩:=st
  simp only [List.mem_cons,List.not_mem_nil,or_false] at hc
  rcases hc with q|q|q|q|q<;>rw [q]
  ·exact ⟨_,hz,fun v z=>by cases z⟩
  ·exact ⟨_,hTI,fun v z=>by cases z⟩
  ·exact ⟨_,hTO,fun v z=>by cases z⟩
  ·exact ⟨_,e1,fun v z=>by rw [d1] at z;cases z⟩
  ·exact ⟨_,e2,fun v z=>by rw [d2] at z;cases z⟩
 keep:=fun i h h' st k=>by
  obtain ⟨hz,hTI,⟨u,v,hTO⟩,⟨o1,e1,r1⟩,⟨o2,e2,r2⟩⟩:=st
  exact ⟨k z (by simp) _ hz,k TI (by simp) _ hTI,⟨u,v,k TO (by simp) _ hTO⟩,⟨o1,k i1 (by simp) _ e1,r1⟩,⟨o2,k i2 (by simp) _ e2,r2⟩⟩
 item:=by
  intro X hP hw hK hc i pins s U H E I hf st hg
  subst hP hw hK
  obtain ⟨xs,ys,x,y,hq1,hq2,hx,hy⟩:=hg
  obtain ⟨hz,hTI,⟨u0,v0,hTO⟩,hi1,hi2⟩:=st
  obtain ⟨its1,rv1,p1,_⟩:=I.tuple hq1
  obtain ⟨its2,rv2,p2,_⟩:=I.tuple hq2
  obtain ⟨u,hu,ru⟩:=rv1.get hx
  obtain ⟨v,hv,rv⟩:=rv2.get hy
  have n1:∀c∈[z,TI,TO,i1,i2],a≠c:=fun c h=>zaR I (hf c h) hq1
  have n2:∀c∈[z,TI,TO,i1,i2],b≠c:=fun c h=>zaR I (hf c h) hq2
  have D:ZipApart z TI TO i1 i2 a b:=⟨V5.TIz,V5.TOz,V5.i1z,V5.i2z,V5.TITO,V5.TIi1,V5.TIi2,V5.TOi1,V5.TOi2,V5.i12,n1 z (by simp),n1 TO (by simp),n1 i1 (by simp),n1 i2 (by simp),n2 z (by simp),n2 TO (by simp),n2 i1 (by simp),n2 i2 (by simp)⟩
  have hT:s.TypeIs (.ref z) "zip" := ⟨_,hz,rfl⟩
  unfold pyNext
  refine wpAny_bind (wpAny_attempt (wpAny_callSpecial?_slot (name:=Str.ofString "__next__") hT F.slot_zip_next (wpAny_call_entry F.slot_zip_next hT F.entry_zip_next
   (zkD D (zaQ D.l1i1) (zaQ D.l2i2) hz hTI hTO ⟨hi1,p1⟩ ⟨hi2,p2⟩ (by simpa using hu) (by simpa using hv) fun h1 z1 o1 f1 f2 pT kk=>wpAny_pure ⟨_,rfl,?_⟩) (F.args_zip_next_1 _))))
  refine wpAny_letOwnedTupleGo_zip (s:={ s with heap:=h1 }) z1 fun h2 z2 e2=>?_
  have fr:H s.heap.objs.size=none:=I.hok.fresh (Nat.le_refl _)
  have up:∀c o,c≠z->h1.get? c=some o->h2.get? c=some o:=fun c o n e=>e2.extBut _ _ n e
  have nz:s.heap.objs.size≠z:=Nat.ne_of_gt (Heap.lt_size hz)
  have k2:∀c o,c∉[z,TI,TO,i1,i2]->s.heap.get? c=some o->h2.get? c=some o:=fun c o nc e =>
   up c o (fun q=>nc (by simp [q])) (kk c o (fun q=>nc (by simp [q])) (fun q=>nc (by simp [q])) (fun q=>nc (by simp [q])) (fun q=>nc (by simp [q])) e)
  refine ⟨.ref s.heap.objs.size,upd H s.heap.objs.size (.tup [x,y]),?_,rfl,⟨s.heap.objs.size,x,y,fr,rfl,rfl,fun xs' h'=>by rw [I.tuple_inj h' hq1];exact hx,fun ys' h'=>by rw [I.tuple_inj h' hq2];exact hy⟩,?_,fun c hc'=>?_⟩
  ·exact Inv.turnN (s:=s) (h':=h2) (t':=s.toks) I hf k2 (Nat.le_refl _) ⟨show 2<=sizeLine by decide,[u,v],.cons ru (.cons rv .nil),_,up _ _ nz pT,rfl,_,rfl⟩
  ·exact ⟨z2,up _ _ D.TIz (kk _ _ D.TIz D.TITO D.TIi1 D.TIi2 hTI),⟨_,_,up _ _ D.TOz o1⟩,(let ⟨o,e,r⟩:=f1.1;⟨o,up _ _ D.i1z e,r⟩),(let ⟨o,e,r⟩:=f2.1;⟨o,up _ _ D.i2z e,r⟩)⟩
  ·have q:c≠s.heap.objs.size:=by
    have lt:∃o,s.heap.get? c=some o:=by
     simp only [List.mem_cons,List.not_mem_nil,or_false] at hc'
     rcases hc' with q|q|q|q|q<;>rw [q]
     ·exact ⟨_,hz⟩
     ·exact ⟨_,hTI⟩
     ·exact ⟨_,hTO⟩
     ·exact let ⟨o,e,_⟩:=hi1;⟨o,e⟩
     ·exact let ⟨o,e,_⟩:=hi2;⟨o,e⟩
    obtain ⟨o,e⟩:=lt
    exact Nat.ne_of_lt (Heap.lt_size e)
   rw [zp q]
   exact (hf c hc').1
 done:=by
  intro X hP hw hK hc i pins s U H E I hf st hg
  subst hP hw hK
  obtain ⟨xs,ys,hq1,hq2,hx⟩:=hg
  obtain ⟨hz,hTI,⟨u0,v0,hTO⟩,hi1,hi2⟩:=st
  obtain ⟨its1,rv1,p1,_⟩:=I.tuple hq1
  obtain ⟨its2,rv2,p2,_⟩:=I.tuple hq2
  have l1:=rv1.length
  have l2:=rv2.length
  have n1:∀c∈[z,TI,TO,i1,i2],a≠c:=fun c h=>zaR I (hf c h) hq1
  have n2:∀c∈[z,TI,TO,i1,i2],b≠c:=fun c h=>zaR I (hf c h) hq2
  have D:ZipApart z TI TO i1 i2 a b:=⟨V5.TIz,V5.TOz,V5.i1z,V5.i2z,V5.TITO,V5.TIi1,V5.TIi2,V5.TOi1,V5.TOi2,V5.i12,n1 z (by simp),n1 TO (by simp),n1 i1 (by simp),n1 i2 (by simp),n2 z (by simp),n2 TO (by simp),n2 i1 (by simp),n2 i2 (by simp)⟩
  have hT:s.TypeIs (.ref z) "zip" := ⟨_,hz,rfl⟩
  unfold pyNext
  refine wpAny_bind (wpAny_attempt (wpAny_callSpecial?_slot (name:=Str.ofString "__next__") hT F.slot_zip_next (wpAny_call_entry F.slot_zip_next hT F.entry_zip_next
   (zkE (I.ok.hd hc) D (zaQ D.l1i1) (zaQ D.l2i2) hz hTI hTO ⟨hi1,p1⟩ ⟨hi2,p2⟩ (hx.imp (fun h=>by simp;omega) fun h=>by simp;omega) fun h1 e kk he=>?_) (F.args_zip_next_1 _))))
  obtain ⟨o,ho,hco⟩:=he
  refine wpAny_bind (wpAny_isInstance (T := "StopIteration") (b:=true) ⟨o,ho,hco⟩ isSubtype_stop ?_)
  exact wpAny_pure ⟨rfl,Inv.turnL (t':=s.toks) I hf fun c o nc e=>kk c o (fun q=>nc (by simp [q])) (fun q=>nc (by simp [q])) (fun q=>nc (by simp [q])) (fun q=>nc (by simp [q])) e⟩
 self:=fun _ _ _ _ _ st h=>wpAny_pyIter_zip st.1 h
abbrev zt1 (h:Heap) (a:Addr):Heap:=h.push { cls:=.type "tuple_iterator", data:=.fields #[.ref a,.int 0 0] }
abbrev zt2 (h:Heap) (a b:Addr):Heap:=(zt1 h a).push { cls:=.type "tuple_iterator", data:=.fields #[.ref b,.int 0 0] }
abbrev zt3 (h:Heap) (a b:Addr):Heap:=(zt2 h a b).push { cls:=.type "tuple", data:=.seq #[.ref h.objs.size,.ref (zt1 h a).objs.size] }
abbrev zt4 (h:Heap) (a b:Addr):Heap:=(zt3 h a b).push { cls:=.type "tuple", data:=.seq #[.none,.none] }
abbrev jy (h:Heap) (a b:Addr):Heap:=(zt4 h a b).push { cls:=.type "zip", data:=.fields #[.none,.bool false,.bool false,.ref (zt2 h a b).objs.size,.ref (zt3 h a b).objs.size] }
theorem zkG (a b:Addr) (xs ys:Array Value) :
  Meets (Builtin.«zip.__new__» ⟨[.type "zip", .ref a,.ref b],[]⟩) (fun _ R s=>IsTup s.heap a xs/\IsTup s.heap b ys/\R (.ok (.ret (.ref (zt4 s.heap a b).objs.size))) { s with heap:=jy s.heap a b }) :=
 .of_wp fun prog w A R s h=>by
  obtain ⟨hp,g,d,tk,os⟩:=s
  obtain ⟨h1,h2,h⟩:=h
  have hsub:=sub_zip
  have H1:IsTup (Shared.heap ⟨hp,g,d,tk,os⟩) a xs:=h1
  have H2:IsTup (Shared.heap ⟨hp.push { cls:=.type "tuple_iterator", data:=.fields #[.ref a,.int 0 0] },g,d,tk,os⟩) b ys:=h2.push _
  wp_walk using iter_tuple H1,iter_tuple H2
  exact ⟨_,rfl,h⟩
section
variable {prog:Program}{w:World}{A:Around}{E:Value->Shared->Prop}{s:Shared}
theorem zkH {a b:Addr}{xs ys:Array Value}{Q:Value->Shared->Prop}(h1:IsTup s.heap a xs) (h2:IsTup s.heap b ys)
  (h:Zst (s.heap.objs.size+4) (s.heap.objs.size+2) (s.heap.objs.size+3) s.heap.objs.size (s.heap.objs.size+1) a b 0 (jy s.heap a b)->Q (.ref (s.heap.objs.size+4)) { s with heap:=jy s.heap a b }) :
  wpAny (model prog w) A (call (.type "zip") [.ref a,.ref b]) Q E s:=by
 refine callType_new F.called_zip (by decide) (F.typeCall_zip_2 _ _) (F.newCall_zip_2 _ _) (fun obj=>F.args_object_init_3 obj _ _) F.entry_zip_new (zkG a b xs ys) ⟨h1,h2,?_⟩
 have z1:(zt1 s.heap a).objs.size=s.heap.objs.size+1:=Heap.size_push ..
 have z2:(zt2 s.heap a b).objs.size=s.heap.objs.size+2:=by rw [Heap.size_push,z1]
 have z3:(zt3 s.heap a b).objs.size=s.heap.objs.size+3:=by rw [Heap.size_push,z2]
 have z4:(zt4 s.heap a b).objs.size=s.heap.objs.size+4:=by rw [Heap.size_push,z3]
 have g5:(jy s.heap a b).get? (zt4 s.heap a b).objs.size=some _:=Heap.get?_push_size _ rfl
 have g4:(jy s.heap a b).get? (zt3 s.heap a b).objs.size=some _:=Heap.get?_push_of_some _ (Heap.get?_push_size _ rfl)
 have g3:(jy s.heap a b).get? (zt2 s.heap a b).objs.size=some _:=Heap.get?_push_of_some _ (Heap.get?_push_of_some _ (Heap.get?_push_size _ rfl))
 have g2:(jy s.heap a b).get? (zt1 s.heap a).objs.size=some _:=Heap.get?_push_of_some _ (Heap.get?_push_of_some _ (Heap.get?_push_of_some _ (Heap.get?_push_size _ rfl)))
 have g1:(jy s.heap a b).get? s.heap.objs.size=some _:=Heap.get?_push_of_some _ (Heap.get?_push_of_some _ (Heap.get?_push_of_some _ (Heap.get?_push_of_some _ (Heap.get?_push_size _ rfl))))
 show _/\_
 rw [z2,z3,z4] at g5
 rw [z1,z2] at g3
 rw [z3] at g4
 rw [z1] at g2
 rw [z4]
 exact ⟨⟨_,g5,rfl⟩,h ⟨g5,g3,⟨_,_,g4⟩,⟨_,g1,rfl,rfl⟩,⟨_,g2,rfl,rfl⟩⟩⟩
end
theorem zkI:bootBuiltins "zip" = some (.type "zip"):=by decide +kernel
def zkJ (K:Frag) (ta:TA):TI:=fun U H R=>ta U H fun vs H1=>∃a b,vs=[.ref a,.ref b]/\(∃xs,SqT K H1 a xs)/\(∃ys,SqT K H1 b ys)/\R (Itz K a b) H1
theorem zkK {X:Cx} {elts:List Expr} {kt:Nat} {tp:Pos} {x y:Expr} {ta:TA} {p pos:Pos} (hg:Gl X "zip") (hm:X.mg "zip" = none) (ha:PA X [x,y] ta) (hs:starEach [x,y] X.env=[(false,eval x X.env),(false,eval y X.env)]:=by rfl) (hs2:starEach [y] X.env=[(false,eval y X.env)]:=by rfl) :
  PI X (.Tuple elts kt tp) (.Call (.Name "zip" p) [x,y] [] pos) (zkJ X.K ta):=by
 intro pins s U H R I h
 refine Call_ (we I hg hm zkI (PyProof.Rows.callWith_type1 (thn (ha pos pins s U H _ I h) fun us s1 ⟨vs,H1,I1,r1,q1⟩=>?_) (by rw [hs,hs2]) (by rw [hs2];rfl)))
 obtain ⟨a,b,e,⟨xs,hq1⟩,⟨ys,hq2⟩,q⟩:=q1
 subst e
 obtain ⟨u,v,rfl,ru,rv⟩:=zdS r1
 obtain rfl:u=Value.ref a:=ru
 obtain rfl:v=Value.ref b:=rv
 obtain ⟨its1,_,p1,_⟩:=I1.tuple hq1
 obtain ⟨its2,_,p2,_⟩:=I1.tuple hq2
 refine zkH p1 p2 fun st=>wpAny_pyIter_zip st.1 ?_
 have kk:∀c o,s1.heap.get? c=some o->(jy s1.heap a b).get? c=some o:=fun c o e=>Heap.get?_push_of_some _ (Heap.get?_push_of_some _ (Heap.get?_push_of_some _ (Heap.get?_push_of_some _ (Heap.get?_push_of_some _ e))))
 refine ⟨_,[s1.heap.objs.size+4,s1.heap.objs.size+2,s1.heap.objs.size+3,s1.heap.objs.size,s1.heap.objs.size+1],_,_,H1,rfl,I1.kept (t':=s1.toks) kk,zkF ?_,st,fun c hc=>?_,q⟩
 ·have ne:∀(n i j:Nat),i≠j->n+i≠n+j:=fun n i j h z=>h (Nat.add_left_cancel z)
  have ne0:∀(n i:Nat),i≠0->n+i≠n:=fun n i h z=>h (by omega)
  exact ⟨ne _ 2 4 (by decide),ne _ 3 4 (by decide),(ne0 _ 4 (by decide)).symm,ne _ 1 4 (by decide),ne _ 2 3 (by decide),ne0 _ 2 (by decide),ne _ 2 1 (by decide),ne0 _ 3 (by decide),ne _ 3 1 (by decide),(ne0 _ 1 (by decide)).symm⟩
 ·have le:s1.heap.objs.size<=c:=by
   simp only [List.mem_cons,List.not_mem_nil,or_false] at hc
   rcases hc with q|q|q|q|q<;>rw [q]<;>first|exact Nat.le_refl _|exact Nat.le_add_right _ _
  exact I1.fpOk le (I1.hok.fresh le)
structure KD (X:Cx) (a:Addr):Prop where
 ob:∃es n,X.K.lookup a=some ⟨.type "dict", none,.dict es n,#[]⟩/\KeysLit X.w.params es.toList
 no:(a==sysModules)=false
section
variable {X:Cx}
theorem zkL:IxR X (fun x y H Q=>∃a z u v,x=.ref a/\y=.str z/\KD X a/\nsIn X.K a z=some (some u)/\RelV v u/\Q v H):=by
 intro a b pins s U H x y v u Q I rx ry h hs
 obtain ⟨p,z,u',v',rfl,rfl,⟨⟨es,n,hl,hk⟩,_⟩,e,rv,q⟩:=h
 obtain rfl:v=Value.ref p:=rx
 obtain ⟨t,rfl⟩:=ry
 obtain ⟨m,F⟩:=I.fr
 exact topItem_K F I.ok.mod.kin hl hk e ⟨v',H,I.tok _,rv,q⟩ hs
theorem zkM:OpR X (compareOp .NotIn) (fun x y H Q=>∃a z r,x=.str z/\y=.ref a/\KD X a/\nsIn X.K a z=some r/\Q (.bl (!r.isSome)) H):=by
 intro pins s U H x y v u Q I rx ry h
 obtain ⟨p,z,r,rfl,rfl,⟨⟨es,n,hl,hk⟩,no⟩,e,q⟩:=h
 obtain rfl:u=Value.ref p:=ry
 obtain ⟨t,rfl⟩:=rx
 refine wpAny_notIn_of (strKind_is X.prog X.w z t) no (mapOf_K (prog:=X.prog) I.kIn hl hk) ?_
 rw [find_K hl e]
 exact ⟨.bl (!r.isSome),H,I.tok _,rfl,q⟩
end
end L2
namespace Mi
open PySem L2 PySem.W
inductive PV where
 | non|bl (b:Bool)|int (i:Int)|str (x:Str)|ty (n:String)
 | tup (xs:List PV)|frl (xs:List PV)|ref (n:Nat)|fn (x:Str)|kd (ks:List Str) (xs:List PV)|exo (c:Str) (ks:List Str) (xs:List PV)
inductive SO where
 | lst (xs:List PV)|dic (ks:List Str) (xs:List PV)|ins (c:Str) (ks:List Str) (xs:List PV)|fdi (ks:List Str) (xs:List PV)
abbrev Sto:=List SO
inductive Res (α:Type) where
 | ok (a:α) (st:Sto)|err (c:Str) (ks:List Str) (xs:List PV) (st:Sto)|stuck
abbrev Mo (α:Type):=Sto->Res α
def Res.bind {α β:Type}:Res α->(α->Mo β)->Res β
 | .ok a st,f=>f a st
 | .err c ks xs st,_=>.err c ks xs st
 | .stuck,_=>.stuck
abbrev zc:=List (Option PV)
def KDs (K:Frag) (a:Addr) (ks:List Str) (us:List Value):Prop:=∀z,nsIn K a z=some ((ks.zip us).lookup z)
def FrL (K:Frag) (H:Hp) (a:Addr) (vs:List V):Prop :=
 (∃o,H a=some (.frz o (.lst vs)))\/∃(o:Obj) (its:Array Value) (n:Nat),K.lookup a=some o/\o.cls=.type "list" /\ o.dict=none/\o.data=.seq its n/\its.size<=sizeLine/\Vals vs its.toList
theorem FrL.sq {K:Frag}{H:Hp}{a:Addr}{vs:List V}(h:FrL K H a vs):SqL K H a vs:=by
 rcases h with ⟨o,h⟩|h
 ·exact .inl (.inr ⟨o,h⟩)
 ·exact .inr h
section
variable (K:Frag) (mg:Str->Option Value)
mutual
def R (ρ:List Addr) (H:Hp):PV->V->Prop
 | .non,v=>v=.non
 | .bl b,v=>v=.bl b
 | .int i,v=>v=.int i
 | .str x,v=>v=.str x
 | .ty n,v=>v=.ty n
 | .tup xs,v=>∃a vs,v=.ref a/\SqT K H a vs/\Rs ρ H xs vs
 | .frl xs,v=>∃a vs,v=.ref a/\FrL K H a vs/\Rs ρ H xs vs
 | .ref n,v=>∃a,v=.ref a/\ρ[n]?=some a
 | .fn x,v=>∃f,v=.ref f/\mg x=some (.ref f)
 | .kd ks xs,v=>∃a us vs,v=.ref a/\KDs K a ks us/\Vals vs us/\Rs ρ H xs vs
 | .exo c ks xs,v=>∃a C d vs,v=.ref a/\mg c=some (.ref C)/\H a=some (exC C (some d) a)/\H d=some (.xd (ks.zip vs))/\Rs ρ H xs vs/\ks.length=vs.length
def Rs (ρ:List Addr) (H:Hp):List PV->List V->Prop
 | [],vs=>vs=[]
 | x::xs,vs=>∃v r,vs=v::r/\R ρ H x v/\Rs ρ H xs r
end
def SoR (ρ:List Addr) (H:Hp):SO->Addr->Prop
 | .lst xs,a=>∃vs,H a=some (.lst vs)/\Rs K mg ρ H xs vs
 | .dic ks xs,a=>∃vs,H a=some (.dK ((ks.map Sum.inr).zip vs))/\Rs K mg ρ H xs vs/\ks.length=vs.length
 | .ins c ks xs,a=>∃C dx vs,mg c=some (.ref C)/\H a=some (.ins C dx (ks.zip vs))/\Rs K mg ρ H xs vs/\ks.length=vs.length
 | .fdi ks xs,a=>∃o vs,H a=some (.frz o (.dK ((ks.map Sum.inr).zip vs)))/\Rs K mg ρ H xs vs/\ks.length=vs.length
structure StR (ρ:List Addr) (H:Hp) (st:Sto):Prop where
 len:ρ.length=st.length
 nd:ρ.Nodup
 at_:∀(n:Nat) so,st[n]?=some so->∃a,ρ[n]?=some a/\SoR K mg ρ H so a
def Imm:HO->Bool
 | .tup _=>true
 | .frz _ _=>true
 | .xd _=>true
 | .ext _=>true
 | _=>false
structure Ext (ρ:List Addr) (H:Hp) (af:List Addr) (H':Hp):Prop where
 pre:∃δ,af=ρ++δ
 imm:∀a o,H a=some o->Imm o=true->H' a=some o
def XR (ρ:List Addr) (H:Hp) (c:Str) (ks:List Str) (xs:List PV) (Cv:Value) (d:Option Addr):Prop :=
 ∃C,Cv=.ref C/\mg c=some (.ref C)/\((ks=[]/\d=none)\/∃dd vs,d=some dd/\H dd=some (.xd (ks.zip vs))/\Rs K mg ρ H xs vs/\ks.length=vs.length)
def Out {α:Type}(ρ:List Addr) (H:Hp) (r:Res α) (good:List Addr->Hp->α->Sto->Prop) (E:XK):Prop :=
 match r with
 | .ok x st=>∀af H',Ext ρ H af H'->StR K mg af H' st->good af H' x st
 | .err c ks xs st=>∀af H' C d,Ext ρ H af H'->StR K mg af H' st->XR K mg af H' c ks xs C d->E C d H'
 | .stuck=>False
structure EnvR (ρ:List Addr) (H:Hp) (env:zc) (U:St):Prop where
 len:env.length=U.length
 at_:∀(i:Nat) x,env[i]?=some (some x)->∃v,U[i]?=some (some v)/\R K mg ρ H x v
def gV (Q:VK):List Addr->Hp->PV->Sto->Prop:=fun ρ H x _=>∀v,R K mg ρ H x v->Q v H
def gVs (Q:List V->Hp->Prop):List Addr->Hp->List PV->Sto->Prop:=fun ρ H x _=>∀v,Rs K mg ρ H x v->Q v H
def gB (Q:Bool->Hp->Prop):List Addr->Hp->Bool->Sto->Prop:=fun _ H x _=>Q x H
inductive Fl where
 | nx (env:zc)|rt (x:PV)|bk (env:zc)|ct (env:zc)
def gS (D:Ends):List Addr->Hp->Fl->Sto->Prop:=fun ρ H x _ =>
 match x with
 | .nx env=>∀U,EnvR K mg ρ H env U->D.nx U H
 | .rt x=>∀v,R K mg ρ H x v->D.rt v H
 | .bk env=>∀U,EnvR K mg ρ H env U->D.bk U H
 | .ct env=>∀U,EnvR K mg ρ H env U->D.ct U H
end
section
variable {K:Frag}{mg:Str->Option Value}{ρ ad al:List Addr}{H H1 H2:Hp}
theorem Ext.refl:Ext ρ H ρ H:=⟨⟨[],by simp⟩,fun _ _ h _=>h⟩
theorem Ext.trans (a:Ext ρ H ad H1) (b:Ext ad H1 al H2):Ext ρ H al H2:=by
 obtain ⟨⟨d,hd⟩,i⟩:=a
 obtain ⟨⟨d',hd'⟩,i'⟩:=b
 exact ⟨⟨d++d',by rw [hd',hd,List.append_assoc]⟩,fun a o h m=>i' a o (i a o h m) m⟩
theorem Ext.get (a:Ext ρ H ad H1) {n:Nat}{p:Addr}(h:ρ[n]?=some p):ad[n]?=some p:=by
 obtain ⟨⟨d,hd⟩,_⟩:=a
 rw [hd,List.getElem?_append_left (List.getElem?_eq_some_iff.mp h).1]
 exact h
theorem Ext.sqT (e:Ext ρ H ad H1) {a:Addr}{xs:List V}(h:SqT K H a xs):SqT K H1 a xs:=by
 rcases h with (h|⟨o,h⟩)|h
 ·exact .inl (.inl (e.imm _ _ h rfl))
 ·exact .inl (.inr ⟨o,e.imm _ _ h rfl⟩)
 ·exact .inr h
theorem Ext.frl (e:Ext ρ H ad H1) {a:Addr}{xs:List V}(h:FrL K H a xs):FrL K H1 a xs:=by
 rcases h with ⟨o,h⟩|h
 ·exact .inl ⟨o,e.imm _ _ h rfl⟩
 ·exact .inr h
mutual
theorem R.ext (e:Ext ρ H ad H1):∀(x:PV) {v:V},R K mg ρ H x v->R K mg ad H1 x v
 | .non,_,h=>h
 | .bl _,_,h=>h
 | .int _,_,h=>h
 | .str _,_,h=>h
 | .ty _,_,h=>h
 | .tup xs,_,h=>by
  obtain ⟨a,vs,h1,h2,h3⟩:=h
  exact ⟨a,vs,h1,e.sqT h2,Rs.ext e xs h3⟩
 | .frl xs,_,h=>by
  obtain ⟨a,vs,h1,h2,h3⟩:=h
  exact ⟨a,vs,h1,e.frl h2,Rs.ext e xs h3⟩
 | .ref n,_,h=>by
  obtain ⟨a,h1,h2⟩:=h
  exact ⟨a,h1,e.get h2⟩
 | .fn _,_,h=>h
 | .kd ks xs,_,h=>by
  obtain ⟨a,us,vs,h1,h2,h4,h3⟩:=h
  exact ⟨a,us,vs,h1,h2,h4,Rs.ext e xs h3⟩
 | .exo c ks xs,_,h=>by
  obtain ⟨a,C,d,vs,h1,h2,h3,h4,h5,h6⟩:=h
  exact ⟨a,C,d,vs,h1,h2,e.imm _ _ h3 rfl,e.imm _ _ h4 rfl,Rs.ext e xs h5,h6⟩
theorem Rs.ext (e:Ext ρ H ad H1):∀(xs:List PV) {vs:List V},Rs K mg ρ H xs vs->Rs K mg ad H1 xs vs
 | [],_,h=>h
 | x::xs,_,h=>by
  obtain ⟨v,r,h1,h2,h3⟩:=h
  exact ⟨v,r,h1,R.ext e x h2,Rs.ext e xs h3⟩
end
theorem EnvR.ext (e:Ext ρ H ad H1) {env:zc}{U:St}(h:EnvR K mg ρ H env U):EnvR K mg ad H1 env U :=
 ⟨h.len,fun i x hx=>let ⟨v,a,b⟩:=h.at_ i x hx;⟨v,a,R.ext e x b⟩⟩
theorem Rs.len:∀{xs:List PV}{vs:List V},Rs K mg ρ H xs vs->xs.length=vs.length
 | [],_,h=>by cases h;rfl
 | x::xs,_,h=>by
  obtain ⟨v,r,rfl,_,h3⟩:=h
  simp [Rs.len h3]
theorem Rs.get:∀{xs:List PV}{vs:List V}{i:Nat}{x:PV},Rs K mg ρ H xs vs->xs[i]?=some x->∃v,vs[i]?=some v/\R K mg ρ H x v
 | [],_,_,_,_,e=>by simp at e
 | x::xs,_,0,_,h,e=>by
  obtain ⟨v,r,rfl,h2,h3⟩:=h
  simp at e
  subst e
  exact ⟨v,by simp,h2⟩
 | x::xs,_,i+1,y,h,e=>by
  obtain ⟨v,r,rfl,h2,h3⟩:=h
  simp at e
  obtain ⟨v',h4,h5⟩:=Rs.get h3 e
  exact ⟨v',by simpa using h4,h5⟩
theorem Rs.append:∀{xs ys:List PV}{vs ws:List V},Rs K mg ρ H xs vs->Rs K mg ρ H ys ws->Rs K mg ρ H (xs++ys) (vs++ws)
 | [],_,_,_,h,h'=>by cases h;exact h'
 | x::xs,_,_,_,h,h'=>by
  obtain ⟨v,r,rfl,h2,h3⟩:=h
  exact ⟨v,r++_,rfl,h2,Rs.append h3 h'⟩
theorem Rs.take:∀{xs:List PV}{vs:List V}(n:Nat),Rs K mg ρ H xs vs->Rs K mg ρ H (xs.take n) (vs.take n)
 | [],_,n,h=>by cases h;simp [Rs]
 | x::xs,_,0,h=>by simp [Rs]
 | x::xs,_,n+1,h=>by
  obtain ⟨v,r,rfl,h2,h3⟩:=h
  exact ⟨v,_,rfl,h2,Rs.take n h3⟩
theorem Rs.drop:∀{xs:List PV}{vs:List V}(n:Nat),Rs K mg ρ H xs vs->Rs K mg ρ H (xs.drop n) (vs.drop n)
 | [],_,n,h=>by cases h;simp [Rs]
 | x::xs,_,0,h=>h
 | x::xs,_,n+1,h=>by
  obtain ⟨v,r,rfl,h2,h3⟩:=h
  exact Rs.drop n h3
theorem EnvR.set {env:zc}{U:St}{x:PV}{v:V}(h:EnvR K mg ρ H env U) (i:Nat) (r:R K mg ρ H x v):EnvR K mg ρ H (env.set i (some x)) (U.set i (some v)):=by
 refine ⟨by simp [h.len],fun j y hy=>?_⟩
 rw [List.getElem?_set] at hy ⊢
 by_cases hij:i=j
 ·subst hij
  by_cases hl:i<env.length
  ·rw [if_pos rfl,if_pos hl] at hy
   rw [if_pos rfl,if_pos (by rw [<-h.len];exact hl)]
   cases hy
   exact ⟨v,rfl,r⟩
  ·rw [if_pos rfl,if_neg hl] at hy
   cases hy
 ·rw [if_neg hij] at hy ⊢
  exact h.at_ j y hy
theorem EnvR.unset {env:zc}{U:St}(h:EnvR K mg ρ H env U) (i:Nat):EnvR K mg ρ H (env.set i none) (U.set i none):=by
 refine ⟨by simp [h.len],fun j y hy=>?_⟩
 rw [List.getElem?_set] at hy ⊢
 by_cases hij:i=j
 ·subst hij
  by_cases hl:i<env.length
  ·rw [if_pos rfl,if_pos hl] at hy
   cases hy
  ·rw [if_pos rfl,if_neg hl] at hy
   cases hy
 ·rw [if_neg hij] at hy ⊢
  exact h.at_ j y hy
theorem EnvR.cons {env:zc}{U:St}{x:PV}{v:V}(h:EnvR K mg ρ H env U) (r:R K mg ρ H x v):EnvR K mg ρ H (some x::env) (some v::U):=by
 refine ⟨by simp [h.len],fun j y hy=>?_⟩
 cases j with
 | zero=>simp at hy;subst hy;exact ⟨v,by simp,r⟩
 | succ j=>simp at hy;simpa using h.at_ j y hy
theorem StR.addr {st:Sto}{n:Nat}{so:SO}(s:StR K mg ρ H st) (e:st[n]?=some so) {a:Addr}(ha:ρ[n]?=some a):SoR K mg ρ H so a:=by
 obtain ⟨b,hb,h⟩:=s.at_ n so e
 rw [ha] at hb
 cases hb
 exact h
theorem SoR.some {so:SO}{a:Addr}(h:SoR K mg ρ H so a):∃o,H a=some o/\True:=by
 cases so with
 | lst xs=>obtain ⟨vs,h,_⟩:=h;exact ⟨_,h,trivial⟩
 | dic ks xs=>obtain ⟨vs,h,_⟩:=h;exact ⟨_,h,trivial⟩
 | ins c ks xs=>obtain ⟨C,dx,vs,_,h,_⟩:=h;exact ⟨_,h,trivial⟩
 | fdi ks xs=>obtain ⟨o,vs,h,_⟩:=h;exact ⟨_,h,trivial⟩
theorem StR.in_ {st:Sto}{n:Nat}{a:Addr}(s:StR K mg ρ H st) (h:ρ[n]?=some a):∃so,st[n]?=some so/\SoR K mg ρ H so a:=by
 have hl:n<st.length:=by rw [<-s.len];exact (List.getElem?_eq_some_iff.mp h).1
 refine ⟨st[n],by simp [hl],s.addr (by simp [hl]) h⟩
theorem SoR.ext' {so:SO}{a:Addr}(e:Ext ρ H ad H1) (h:SoR K mg ρ H so a) (k:H1 a=H a):SoR K mg ad H1 so a:=by
 cases so with
 | lst xs=>obtain ⟨vs,h1,h2⟩:=h;exact ⟨vs,by rw [k];exact h1,Rs.ext e xs h2⟩
 | dic ks xs=>obtain ⟨vs,h1,h2,h3⟩:=h;exact ⟨vs,by rw [k];exact h1,Rs.ext e xs h2,h3⟩
 | ins c ks xs=>obtain ⟨C,dx,vs,h0,h1,h2,h3⟩:=h;exact ⟨C,dx,vs,h0,by rw [k];exact h1,Rs.ext e xs h2,h3⟩
 | fdi ks xs=>obtain ⟨o,vs,h1,h2,h3⟩:=h;exact ⟨o,vs,by rw [k];exact h1,Rs.ext e xs h2,h3⟩
theorem Ext.new {p:Addr}{o:HO}(hp:H p=none):Ext ρ H ρ (upd H p o) :=
 ⟨⟨[],by simp⟩,fun a o' h _=>by rw [zp (y8 h hp)];exact h⟩
theorem StR.new {st:Sto}{p:Addr}{o:HO}(s:StR K mg ρ H st) (hp:H p=none):StR K mg ρ (upd H p o) st :=
 ⟨s.len,s.nd,fun n so e=>by
  obtain ⟨a,ha,h⟩:=s.at_ n so e
  obtain ⟨o',ho,_⟩:=h.some
  exact ⟨a,ha,h.ext' (Ext.new hp) (zp (y8 ho hp))⟩⟩
theorem Ext.push {p:Addr}{o:HO}(hp:H p=none):Ext ρ H (ρ++[p]) (upd H p o) :=
 ⟨⟨[p],rfl⟩,fun a o' h _=>by rw [zp (y8 h hp)];exact h⟩
theorem StR.push {st:Sto}{p:Addr}{o:HO}{so:SO}(s:StR K mg ρ H st) (hp:H p=none) (n:SoR K mg (ρ++[p]) (upd H p o) so p):StR K mg (ρ++[p]) (upd H p o) (st++[so]):=by
 refine ⟨by simp [s.len],?_,fun i so' e=>?_⟩
 ·refine List.nodup_append.mpr ⟨s.nd,by simp,fun a ha b hb=>?_⟩
  obtain rfl:b=p:=by simpa using hb
  obtain ⟨n,hn⟩:=List.getElem?_of_mem ha
  obtain ⟨so',_,h⟩:=s.in_ hn
  obtain ⟨o',ho,_⟩:=h.some
  exact y8 ho hp
 ·by_cases hi:i<st.length
  ·rw [List.getElem?_append_left hi] at e
   obtain ⟨a,ha,h⟩:=s.at_ i so' e
   obtain ⟨o',ho,_⟩:=h.some
   exact ⟨a,(Ext.push (o:=o) hp).get ha,h.ext' (Ext.push hp) (zp (y8 ho hp))⟩
  ·rw [List.getElem?_append_right (by omega)] at e
   have hi':i=st.length:=by
    have:=(List.getElem?_eq_some_iff.mp e).1
    simp at this
    omega
   subst hi'
   simp at e
   subst e
   exact ⟨p,by rw [<-s.len];simp,n⟩
theorem Ext.write {a:Addr}{o o':HO}(ha:H a=some o) (hi:Imm o=false):Ext ρ H ρ (upd H a o') :=
 ⟨⟨[],by simp⟩,fun b u h m=>by
  rw [zp]
  ·exact h
  ·intro z;subst z;rw [ha] at h;cases h;rw [hi] at m;cases m⟩
theorem StR.write {st:Sto}{n:Nat}{a:Addr}{o':HO}{so:SO}(s:StR K mg ρ H st) (hn:ρ[n]?=some a) (ew:Ext ρ H ρ (upd H a o')) (h:SoR K mg ρ (upd H a o') so a):StR K mg ρ (upd H a o') (st.set n so):=by
 refine ⟨by simp [s.len],s.nd,fun i so' e=>?_⟩
 rw [List.getElem?_set] at e
 by_cases hij:n=i
 ·subst hij
  rw [if_pos rfl] at e
  split at e
  ·cases e;exact ⟨a,hn,h⟩
  ·cases e
 ·rw [if_neg hij] at e
  obtain ⟨b,hb,q⟩:=s.at_ i so' e
  have ne:b≠a:=by
   intro z
   subst z
   obtain ⟨h1,h2⟩:=List.getElem?_eq_some_iff.mp hn
   obtain ⟨h3,h4⟩:=List.getElem?_eq_some_iff.mp hb
   have pw:=List.pairwise_iff_getElem.mp s.nd
   rcases Nat.lt_trichotomy n i with c|c|c
   ·exact pw n i h1 h3 c (h2.trans h4.symm)
   ·exact hij c
   ·exact pw i n h3 h1 c (h4.trans h2.symm)
  exact ⟨b,hb,q.ext' ew (zp ne)⟩
section
variable {α β:Type}{E:XK}{good:List Addr->Hp->α->Sto->Prop}
theorem Out.ext {r:Res α}(h:Out K mg ρ H r good E) (e:Ext ρ H ad H1):Out K mg ad H1 r good E:=by
 cases r with
 | ok x st=>exact fun af H' e' s=>h af H' (e.trans e') s
 | err c ks xs st=>exact fun af H' C d e' s x=>h af H' C d (e.trans e') s x
 | stuck=>exact h
theorem Out.mono {r:Res α}{good':List Addr->Hp->α->Sto->Prop}(h:Out K mg ρ H r good E) (g:∀af H' x st,Ext ρ H af H'->StR K mg af H' st->good af H' x st->good' af H' x st):Out K mg ρ H r good' E:=by
 cases r with
 | ok x st=>exact fun af H' e' s=>g af H' x st e' s (h af H' e' s)
 | err c ks xs st=>exact h
 | stuck=>exact h
theorem Out.bind {r:Res β}{f:β->Mo α}(h:Out K mg ρ H (r.bind f) good E):Out K mg ρ H r (fun af H' x st=>Out K mg af H' (f x st) good E) E:=by
 cases r with
 | ok x st=>exact fun af H' e' s=>Out.ext h e'
 | err c ks xs st=>exact h
 | stuck=>exact h
theorem Out.then {r:Res β}{f:β->Mo α}{good':List Addr->Hp->β->Sto->Prop}(h:Out K mg ρ H (r.bind f) good E) (g:∀af H' x st,Ext ρ H af H'->StR K mg af H' st->Out K mg af H' (f x st) good E->good' af H' x st):Out K mg ρ H r good' E:=h.bind.mono g
theorem Out.now {x:α}{st:Sto}(h:Out K mg ρ H (.ok x st) good E) (s:StR K mg ρ H st):good ρ H x st:=h ρ H Ext.refl s
end
end
end Mi
namespace Mi
open PySem L2 PySem.W PySem.Spec
abbrev lim:Nat:=1000000
theorem yB {n:Nat}(h:n<=lim):n<=sizeLine:=by rw [sizeLine_eq];show n<=16777216;exact Nat.le_trans h (by decide)
section
variable (K:Frag) (mg:Str->Option Value)
def tM (Er:XK) (f:zc->Mo PV):TE:=fun U H Q=>∃env st ρ,EnvR K mg ρ H env U/\StR K mg ρ H st/\Out K mg ρ H (f env st) (gV K mg Q) Er
def tMB (Er:XK) (f:zc->Mo Bool):TT:=fun U H Q=>∃env st ρ,EnvR K mg ρ H env U/\StR K mg ρ H st/\Out K mg ρ H (f env st) (gB Q) Er
def tMA (Er:XK) (f:zc->Mo (List PV)):TA:=fun U H Q=>∃env st ρ,EnvR K mg ρ H env U/\StR K mg ρ H st/\Out K mg ρ H (f env st) (gVs K mg Q) Er
def sM (Er:XK) (f:zc->Mo Fl):TS:=fun D U H=>∃env st ρ,EnvR K mg ρ H env U/\StR K mg ρ H st/\Out K mg ρ H (f env st) (gS K mg D) Er
end
def ME (X:Cx) (Er:XK) (e:Expr) (f:zc->Mo PV):Prop:=PE X e (tM X.K X.mg Er f)
def MT (X:Cx) (Er:XK) (e:Expr) (f:zc->Mo Bool):Prop:=PT X e (tMB X.K X.mg Er f)
def MW (X:Cx) (Er:XK) (e:Expr) (f:zc->Mo Bool):Prop:=PW X e (tMB X.K X.mg Er f)
def MA (X:Cx) (Er:XK) (e:List Expr) (f:zc->Mo (List PV)):Prop:=PA X e (tMA X.K X.mg Er f)
def MS (X:Cx) (Er:XK) (e:Stmt) (f:zc->Mo Fl):Prop:=PS X e (sM X.K X.mg Er f)
def MSs (X:Cx) (Er:XK) (e:List Stmt) (f:zc->Mo Fl):Prop:=PSs X e (sM X.K X.mg Er f)
section
variable {X:Cx}{Er:XK}{e a b c:Expr}{es:List Expr}{pos:Pos}{t t':TE}
theorem PE.weak (h:PE X e t) (w:∀U H Q,t' U H Q->t U H Q):PE X e t':=fun pins s U H Q I q=>h pins s U H Q I (w U H Q q)
theorem PT.weak {t t':TT}(h:PT X e t) (w:∀U H Q,t' U H Q->t U H Q):PT X e t':=fun pins s U H Q I q=>h pins s U H Q I (w U H Q q)
theorem PW.weak {t t':TT}(h:PW X e t) (w:∀U H Q,t' U H Q->t U H Q):PW X e t':=fun wh pins s U H Q I q=>h wh pins s U H Q I (w U H Q q)
theorem PA.weak {t t':TA}(h:PA X es t) (w:∀U H Q,t' U H Q->t U H Q):PA X es t':=fun pos pins s U H Q I q=>h pos pins s U H Q I (w U H Q q)
theorem PS.weak {st:Stmt}{t t':TS}(h:PS X st t) (w:∀D U H,t' D U H->t D U H):PS X st t':=fun pins s U H D I q=>h pins s U H D I (w D U H q)
theorem PSs.weak {st:List Stmt}{t t':TS}(h:PSs X st t) (w:∀D U H,t' D U H->t D U H):PSs X st t':=fun pins s U H D I q=>h pins s U H D I (w D U H q)
def zd (i:Nat):zc->Mo PV:=fun env st=>match env[i]? with
 | some (some x)=>.ok x st
 | _=>.stuck
def mC (x:PV):zc->Mo PV:=fun _ st=>.ok x st
theorem zf (i:Nat) {x:Str} {pos:Pos} (hN:X.N[i]?=some x:=by rfl) (hv:Vis X.env.scope x:=by first|exact Or.inl rfl|exact Or.inr (Or.inl rfl)|exact Or.inr (Or.inr rfl)) (hd:(x==("__debug__" : Str))=false:=by decide)
  (hcd:(x==("__classdict__" : Str))=false:=by decide):ME X Er (.Name x pos) (zd i):=PE.weak (zdM hN hv hd hcd) fun U H Q ⟨env,st,ρ,re,rs,h⟩=>by
 unfold zd at h
 split at h
 ·rename_i x' hx
  obtain ⟨v,h1,h2⟩:=re.at_ i x' hx
  exact ⟨v,h1,h.now rs v h2⟩
 ·exact h.elim
theorem wn {x:PV}{v:V}(hp:PE X e (tC v)) (hr:∀ρ H,R X.K X.mg ρ H x v):ME X Er e (mC x):=PE.weak hp fun U H Q ⟨env,st,ρ,re,rs,h⟩=>h.now rs v (hr ρ H)
theorem zo {i:Int}{j}:ME X Er (.Constant (.int i) j pos) (mC (.int i)):=wn zhI fun _ _=>rfl
theorem yh {x:Str}{j}:ME X Er (.Constant (.str x) j pos) (mC (.str x)):=wn zdN fun _ _=>rfl
theorem yU {b:Bool}{j}:ME X Er (.Constant (.bool b) j pos) (mC (.bl b)):=wn zhJ fun _ _=>rfl
theorem wo {j}:ME X Er (.Constant .none j pos) (mC .non):=wn zhK fun _ _=>rfl
theorem zb9 {x:Str} {p:PV} {v:V} {u:Value} (hm:X.mg x=some u) (r:RelV v u) (hr:∀ρ H,R X.K X.mg ρ H p v) (hg:Gl X x:=by rfl) (hd:(x==("__debug__" : Str))=false:=by decide):ME X Er (.Name x pos) (mC p):=wn (zbP hg hm r hd) hr
def OpM (K:Frag) (mg:Str->Option Value) (r:R2) (op:PV->PV->Mo PV):Prop:=∀ρ H st x y v w (Q:VK) (E:XK),StR K mg ρ H st->R K mg ρ H x v->R K mg ρ H y w->Out K mg ρ H (op x y st) (gV K mg Q) E->r v w H Q
def zg (op:PV->PV->Mo PV) (fa fb:zc->Mo PV):zc->Mo PV:=fun env st=>(fa env st).bind fun x st1=>(fb env st1).bind fun y st2=>op x y st2
variable {fa fb fc:zc->Mo PV}
theorem zaW {r:R2}{op:PV->PV->Mo PV}{K:Frag}{mg:Str->Option Value}(hm:OpM K mg r op) {U:St}{H:Hp}{Q:VK}(h:tM K mg Er (zg op fa fb) U H Q):wV r (tM K mg Er fa) (tM K mg Er fb) U H Q:=by
 obtain ⟨env,st,ρ,re,rs,h⟩:=h
 exact ⟨env,st,ρ,re,rs,h.then fun ad H1 x st1 e1 s1 h1 v rv=>⟨env,st1,ad,re.ext e1,s1,h1.then fun al H2 y st2 e2 s2 h2 w rw=>hm al H2 st2 x y v w Q Er s2 (R.ext e2 x rv) rw h2⟩⟩
theorem zkP {o:Operator}{r:R2}{op:PV->PV->Mo PV}(ho:OpR X (binaryOp o) r) (hm:OpM X.K X.mg r op) (ha:ME X Er a fa) (hb:ME X Er b fb):ME X Er (.BinOp a o b pos) (zg op fa fb) :=
 PE.weak (ziv ho ha hb) fun U H Q h=>zaW hm h
theorem zkQ {o:CmpOp}{r:R2}{op:PV->PV->Mo PV}(ho:OpR X (compareOp o) r) (hm:OpM X.K X.mg r op) (ha:ME X Er a fa) (hb:ME X Er b fb) (hk:behindInMarks o b=false):ME X Er (.Compare a [o] [b] pos) (zg op fa fb) :=
 PE.weak (ziH ho ha hb hk) fun U H Q h=>zaW hm h
def asB:PV->Mo Bool
 | .bl b,st=>.ok b st
 | _,_=>.stuck
def mB (f:zc->Mo PV):zc->Mo Bool:=fun env st=>(f env st).bind asB
theorem zkR {K:Frag}{mg:Str->Option Value}{ρ:List Addr}{H:Hp}{x:PV}{st:Sto}{Q:Bool->Hp->Prop}(s:StR K mg ρ H st) (h:Out K mg ρ H (asB x st) (gB Q) Er) {v:V}(r:R K mg ρ H x v):∃k,v=.bl k/\Q k H:=by
 unfold asB at h
 split at h
 ·cases r;exact ⟨_,rfl,h.now s⟩
 ·exact h.elim
theorem zeL {α:Type}{K:Frag}{mg:Str->Option Value}{ρ:List Addr}{H:Hp}{x:PV}{st:Sto}{f:Bool->Mo α}{good:List Addr->Hp->α->Sto->Prop}(h:Out K mg ρ H ((asB x st).bind f) good Er):∃k,x=.bl k/\Out K mg ρ H (f k st) good Er:=by
 cases x with
 | bl k=>exact ⟨k,rfl,h⟩
 | _=>exact False.elim h
theorem zaX {f:zc->Mo PV}{K:Frag}{mg:Str->Option Value}{U:St}{H:Hp}{Q:Bool->Hp->Prop}(h:tMB K mg Er (mB f) U H Q):tM K mg Er f U H fun x H1=>∃c,x=.bl c/\Q c H1:=by
 obtain ⟨env,st,ρ,re,rs,h⟩:=h
 exact ⟨env,st,ρ,re,rs,h.then fun ad H1 x st1 e1 s1 h1 v rv=>zkR s1 h1 rv⟩
theorem zkS {o:CmpOp}{r:R2}{op:PV->PV->Mo PV}(ho:OpR X (compareOp o) r) (hm:OpM X.K X.mg r op) (ha:ME X Er a fa) (hb:ME X Er b fb) (hk:behindInMarks o b=false):MT X Er (.Compare a [o] [b] pos) (mB (zg op fa fb)) :=
 PT.weak (zdR ho ha hb hk) fun U H Q h=>zaW hm (zaX h)
theorem z9 (h:ME X Er e fa) (he:∀whole,isTrue e X.env whole=(do let v <-whole;standAt e.pos;holding [v] (truthy v)):=by intro _;rfl):MT X Er e (mB fa) :=
 PT.weak (zhM h he) fun U H Q h=>zaX h
def jN (op op':PV->PV->Mo PV) (fa fb fc:zc->Mo PV):zc->Mo PV:=fun env st=>(fa env st).bind fun x st1=>(fb env st1).bind fun y st2=>(op x y st2).bind fun k st3=>(asB k st3).bind fun b st4 =>
 if b=true then (fc env st4).bind fun z st5=>op' y z st5 else .ok (.bl false) st4
theorem zeM {r r':R2}{op op':PV->PV->Mo PV}{K:Frag}{mg:Str->Option Value}(hm:OpM K mg r op) (hm':OpM K mg r' op') {U:St}{H:Hp}{Q:VK}(h:tM K mg Er (jN op op' fa fb fc) U H Q):zbT r r' (tM K mg Er fa) (tM K mg Er fb) (tM K mg Er fc) U H Q:=by
 obtain ⟨env,st,ρ,re,rs,h⟩:=h
 refine ⟨env,st,ρ,re,rs,h.then fun ad H1 x st1 e1 s1 h1 v rv=>⟨env,st1,ad,re.ext e1,s1,h1.then fun al H2 y st2 e2 s2 h2 w rw=>?_⟩⟩
 refine hm al H2 st2 x y v w _ Er s2 (R.ext e2 x rv) rw (h2.then fun am H3 z st3 e3 s3 h3 u ru=>?_)
 obtain ⟨b,rfl,h4⟩:=zeL h3
 cases ru
 refine ⟨b,rfl,?_⟩
 cases b with
 | true=>exact ⟨env,st3,am,((re.ext e1).ext e2).ext e3,s3,Out.then (f:=fun z st5=>op' y z st5) h4 fun aJ H5 z st5 e5 s5 h5 w' rw'=>hm' aJ H5 st5 y z w w' Q Er s5 (R.ext e5 y (R.ext e3 y rw)) rw' h5⟩
 | false=>exact Out.now (x:=PV.bl false) h4 s3 _ rfl
theorem zkT {o o':CmpOp}{r r':R2}{op op':PV->PV->Mo PV}(ho:OpR X (compareOp o) r) (hm:OpM X.K X.mg r op) (ho':OpR X (compareOp o') r') (hm':OpM X.K X.mg r' op') (ha:ME X Er a fa) (hb:ME X Er b fb) (hc:ME X Er c fc)
  (hk:lastMarks [o,o'] [b,c]=false:=by with_unfolding_all rfl):ME X Er (.Compare a [o,o'] [b,c] pos) (jN op op' fa fb fc):=PE.weak (ziI ho ho' ha hb hc hk) fun U H Q h=>zeM hm hm' h
theorem zkU {o o':CmpOp}{r r':R2}{op op':PV->PV->Mo PV}(ho:OpR X (compareOp o) r) (hm:OpM X.K X.mg r op) (ho':OpR X (compareOp o') r') (hm':OpM X.K X.mg r' op') (ha:ME X Er a fa) (hb:ME X Er b fb) (hc:ME X Er c fc)
  (hk:lastMarks [o,o'] [b,c]=false:=by with_unfolding_all rfl):MT X Er (.Compare a [o,o'] [b,c] pos) (mB (jN op op' fa fb fc)):=PT.weak (ziJ ho ho' ha hb hc hk) fun U H Q h=>zeM hm hm' (zaX h)
def z0 (op:PV->Mo PV) (fa:zc->Mo PV):zc->Mo PV:=fun env st=>(fa env st).bind op
variable {ga gb:zc->Mo Bool}{rest:List Expr}
def yV (ga gb:zc->Mo Bool):zc->Mo Bool:=fun env st=>(ga env st).bind fun c st1=>if c=true then gb env st1 else .ok false st1
def yu (ga gb:zc->Mo Bool):zc->Mo Bool:=fun env st=>(ga env st).bind fun c st1=>if c=true then .ok true st1 else gb env st1
def yE (ga:zc->Mo Bool):zc->Mo Bool:=fun env st=>(ga env st).bind fun c st1=>.ok (!c) st1
theorem zca (ha:MT X Er a ga):MW X Er (.BoolOp .And [a] pos) ga:=zhQ ha
theorem jO (ha:MT X Er a ga):MW X Er (.BoolOp .Or [a] pos) ga:=zhR ha
theorem zaY (ha:MT X Er a ga) (hb:MW X Er (.BoolOp .And (b::rest) pos) gb):MW X Er (.BoolOp .And (a::b::rest) pos) (yV ga gb) :=
 PW.weak (zhS ha hb) fun U H Q ⟨env,st,ρ,re,rs,h⟩=>⟨env,st,ρ,re,rs,h.then fun ad H1 k st1 e1 s1 h1=>by
  cases k with
  | true=>exact ⟨env,st1,ad,re.ext e1,s1,h1⟩
  | false=>exact h1.now s1⟩
theorem yP (ha:MT X Er a ga) (hb:MW X Er (.BoolOp .Or (b::rest) pos) gb):MW X Er (.BoolOp .Or (a::b::rest) pos) (yu ga gb) :=
 PW.weak (zhT ha hb) fun U H Q ⟨env,st,ρ,re,rs,h⟩=>⟨env,st,ρ,re,rs,h.then fun ad H1 k st1 e1 s1 h1=>by
  cases k with
  | false=>exact ⟨env,st1,ad,re.ext e1,s1,h1⟩
  | true=>exact h1.now s1⟩
theorem y9 {op:BoolOp}(h:MW X Er (.BoolOp op es pos) ga):MT X Er (.BoolOp op es pos) ga:=PW.pt h
theorem jz (ha:MT X Er a ga):MT X Er (.UnaryOp .Not a pos) (yE ga):=PT.weak (zhU ha) fun U H Q ⟨env,st,ρ,re,rs,h⟩=>⟨env,st,ρ,re,rs,h.then fun ad H1 k st1 e1 s1 h1=>h1.now s1⟩
def jj (fa fb:zc->Mo PV):zc->Mo PV:=fun env st=>(fa env st).bind fun x st1=>(asB x st1).bind fun c st2=>if c=true then fb env st2 else .ok (.bl false) st2
theorem wZ {op}(h:ME X Er a fa):ME X Er (.BoolOp op [a] pos) fa:=zhW h
theorem j0 (ha:ME X Er a fa) (hb:ME X Er (.BoolOp .And (b::rest) pos) fb):ME X Er (.BoolOp .And (a::b::rest) pos) (jj fa fb) :=
 PE.weak (zhX ha hb) fun U H Q ⟨env,st,ρ,re,rs,h⟩=>⟨env,st,ρ,re,rs,h.then fun ad H1 x st1 e1 s1 h1 v rv=>by
  obtain ⟨k,rfl,h1⟩:=zeL h1
  cases rv
  refine ⟨k,rfl,?_⟩
  cases k with
  | true=>exact ⟨env,st1,ad,re.ext e1,s1,h1⟩
  | false=>exact Out.now (x:=PV.bl false) h1 s1 _ rfl⟩
def zj:zc->Mo (List PV):=fun _ st=>.ok [] st
def ze (f:zc->Mo PV) (fs:zc->Mo (List PV)):zc->Mo (List PV):=fun env st=>(f env st).bind fun x st1=>(fs env st1).bind fun xs st2=>.ok (x::xs) st2
variable {fs:zc->Mo (List PV)}
theorem zm:MA X Er [] zj:=PA.weak zbW fun U H Q ⟨env,st,ρ,re,rs,h⟩=>h.now rs [] rfl
theorem zeN (ha:ME X Er e fa) (hr:MA X Er es fs) (hs:starEach (e::es) X.env=(false,eval e X.env)::starEach es X.env:=by rfl):MA X Er (e::es) (ze fa fs) :=
 PA.weak (zbX ha hr hs) fun U H Q ⟨env,st,ρ,re,rs,h⟩=>⟨env,st,ρ,re,rs,h.then fun ad H1 x st1 e1 s1 h1 v rv=>⟨env,st1,ad,re.ext e1,s1,h1.then fun al H2 xs st2 e2 s2 h2 vs rvs =>
  h2.now s2 (v::vs) ⟨v,vs,rfl,R.ext e2 x rv,rvs⟩⟩⟩
def yW (fs:zc->Mo (List PV)):zc->Mo PV:=fun env st=>(fs env st).bind fun xs st1=>if xs.length<=lim then .ok (.tup xs) st1 else .stuck
def yQ (fs:zc->Mo (List PV)):zc->Mo PV:=fun env st=>(fs env st).bind fun xs st1=>if xs.length<=lim then .ok (.ref st1.length) (st1++[.lst xs]) else .stuck
theorem R.tup_of {K:Frag}{mg:Str->Option Value}{ρ:List Addr}{H:Hp}{xs:List PV}{vs:List V}{p:Addr}(r:Rs K mg ρ H xs vs) (hp:H p=none):R K mg ρ (upd H p (.tup vs)) (.tup xs) (.ref p) :=
 ⟨p,vs,rfl,SqT.of zY,Rs.ext (Ext.new hp) xs r⟩
theorem j1 {x1}(h:MA X Er es fs):ME X Er (.Tuple es x1 pos) (yW fs) :=
 PE.weak (zi1 h) fun U H Q ⟨env,st,ρ,re,rs,h⟩=>⟨env,st,ρ,re,rs,h.then fun ad H1 xs st1 e1 s1 h1 vs rv=>by
  split at h1
  ·rename_i hl
   exact ⟨by rw [<-rv.len];exact yB hl,fun p hp=>h1 ad _ (Ext.new hp) (s1.new hp) _ (R.tup_of rv hp)⟩
  ·exact h1.elim⟩
theorem Out.newList {K:Frag}{mg:Str->Option Value}{ρ:List Addr}{H:Hp}{st:Sto}{xs:List PV}{vs:List V}{p:Addr}{Q:VK}(h:Out K mg ρ H (.ok (.ref st.length) (st++[.lst xs])) (gV K mg Q) Er) (s:StR K mg ρ H st) (r:Rs K mg ρ H xs vs) (hp:H p=none):Q (.ref p) (upd H p (.lst vs)) :=
 h (ρ++[p]) _ (Ext.push hp) (s.push hp ⟨vs,zY,Rs.ext (Ext.push hp) xs r⟩) _ ⟨p,rfl,by rw [<-s.len];simp⟩
theorem jA (h:MA X Er es fs):ME X Er (.List es pos) (yQ fs) :=
 PE.weak (zi2 h) fun U H Q ⟨env,st,ρ,re,rs,h⟩=>⟨env,st,ρ,re,rs,h.then fun ad H1 xs st1 e1 s1 h1 vs rv=>by
  split at h1
  ·rename_i hl
   exact ⟨by rw [<-rv.len];exact yB hl,fun p hp=>Out.newList h1 s1 rv hp⟩
  ·exact h1.elim⟩
theorem zkV {r:R2}{op:PV->PV->Mo PV}(ho:IxR X r) (hm:OpM X.K X.mg r op) (ha:ME X Er a fa) (hb:ME X Er b fb) (hs:PlainIx b:=by exact fun _ _=>rfl):ME X Er (.Subscript a b pos) (zg op fa fb) :=
 PE.weak (zea ho ha hb hs) fun U H Q h=>zaW hm h
end
end Mi
namespace HT
open PySem PySem.Spec PyProof.Rows
section
variable {prog:Program}{w:World}{A:Around}{E:Value->Shared->Prop}{s:Shared}
theorem getItem_tuple_all {t sl:Addr}{items:Array Value}{vl vu:Value}{lo hi:Option Int}{Q:Value->Shared->Prop}(ht:IsTup s.heap t items) (hs:s.heap.IsSliceOf sl vl vu .none) (pl:IsPart vl lo) (pu:IsPart vu hi)
  (hw:sIx items.size 0 lo=0/\sIx items.size items.size hi=items.size) (h:Q (.ref t) s)
  (hsz:items.size<=sizeLine):wpAny (model prog w) A (getItem (.ref t) (.ref sl)) Q E s:=by
 obtain ⟨os,hos,hcs,hds⟩:=id hs
 have hTs:s.TypeIs (.ref sl) "slice" := ⟨os,hos,hcs⟩
 unfold getItem
 try with_reducible refine wpAny_holding ?_
 first|refine wpAny_bind (wpAny_pure ?_)|skip
 refine wpAny_bind (wpAny_sequenceKey ht.typeIs (by decide) ?_)
 refine wpAny_bind (wpAny_callSpecial?_slot (name:=Str.ofString "__getitem__") ht.typeIs PyProof.Rows.slot_tuple_getitem
  (wpAny_call_entry PyProof.Rows.slot_tuple_getitem ht.typeIs entry_tuple_getitem ?_ (args_tuple_getitem _ _)))
 show wpAny _ _ (Builtin.Tuple.tupleItemsOf (.ref t) >>= _) _ _ s
 refine wpAny_bind (tupleItemsOf_ ht ?_)
 refine wpAny_bind (wpAny_typeOf hTs ?_)
 rw [if_pos (by decide)]
 refine wpAny_bind (zd8 hs pl pu ?_)
 have hyes:(((sIx items.size 0 lo:Nat):Int)==0&&(1:Int)==1&&(sIx items.size items.size hi-sIx items.size 0 lo)==items.size)=true:=by
  rw [hw.1,hw.2];simp
 show wpAny _ _ (if (((sIx items.size 0 lo:Nat):Int)==0&&(1:Int)==1&&(sIx items.size items.size hi-sIx items.size 0 lo)==items.size)=true then _ else _) _ _ s
 rw [if_pos hyes]
 unfold Builtin.Tuple.tupleIsExact
 refine wpAny_bind (wpAny_bind (wpAny_typeOf ht.typeIs (wpAny_pure ?_)))
 rw [if_pos (by decide)]
 exact wpAny_bind (wpAny_rule (wpAny_pure ⟨_,rfl,wpAny_pure h⟩))
theorem cat_tup0 {t b:Addr}{ws:List Value}{Q:Value->Shared->Prop}(ht:IsTup s.heap t #[]) (hb:IsTup s.heap b ws.toArray) (h1:Q (.ref b) s):wpAny (model prog w) A (binaryOp .Add (.ref t) (.ref b)) Q E s:=by
 obtain ⟨⟨cls,dd,data,sl⟩,ho,hc,n,hd⟩:=id ht
 obtain ⟨⟨cls2,dd2,data2,sl2⟩,ho2,hc2,n2,hd2⟩:=id hb
 simp only at hc hd hc2 hd2
 subst hc hd hc2 hd2
 exact concat_meets ⟨_,ho,rfl⟩ ⟨_,ho2,rfl⟩ noFill_tuple_add seq_tuple_add PySem.F.slot_tuple_add PySem.F.entry_tuple_add (PySem.F.args_tuple_add_2 _ _)
   (tuple_addW0 t b #[] ws.toArray n n2 dd dd2 sl sl2 (by simp)) ⟨ho,ho2,h1⟩
end
end HT
namespace Mi
open PySem L2 PySem.W PySem.Spec
section
variable {X:Cx}{Er:XK}{K:Frag}{mg:Str->Option Value}
def BinOk (X:Cx) (o:Operator) (op:PV->PV->Mo PV):Prop:=∃r,OpR X (binaryOp o) r/\OpM X.K X.mg r op
def CmpOk (X:Cx) (o:CmpOp) (op:PV->PV->Mo PV):Prop:=∃r,OpR X (compareOp o) r/\OpM X.K X.mg r op
def IxOk (X:Cx) (op:PV->PV->Mo PV):Prop:=∃r,IxR X r/\OpM X.K X.mg r op
variable {a b c e:Expr}{es:List Expr}{pos:Pos}{fa fb fc:zc->Mo PV}{fs:zc->Mo (List PV)}
theorem zy {o:Operator}{op:PV->PV->Mo PV}(h:BinOk X o op) (ha:ME X Er a fa) (hb:ME X Er b fb):ME X Er (.BinOp a o b pos) (zg op fa fb):=let ⟨_,h1,h2⟩:=h;zkP h1 h2 ha hb
theorem jk {o:CmpOp}{op:PV->PV->Mo PV}(h:CmpOk X o op) (ha:ME X Er a fa) (hb:ME X Er b fb) (hk:behindInMarks o b=false:=by first|exact nomark _|with_unfolding_all rfl):ME X Er (.Compare a [o] [b] pos) (zg op fa fb):=let ⟨_,h1,h2⟩:=h;zkQ h1 h2 ha hb hk
theorem ya {o:CmpOp}{op:PV->PV->Mo PV}(h:CmpOk X o op) (ha:ME X Er a fa) (hb:ME X Er b fb) (hk:behindInMarks o b=false:=by first|exact nomark _|with_unfolding_all rfl):MT X Er (.Compare a [o] [b] pos) (mB (zg op fa fb)):=let ⟨_,h1,h2⟩:=h;zkS h1 h2 ha hb hk
theorem zkW {o o':CmpOp}{op op':PV->PV->Mo PV}(h:CmpOk X o op) (h':CmpOk X o' op') (ha:ME X Er a fa) (hb:ME X Er b fb) (hc:ME X Er c fc)
  (hk:lastMarks [o,o'] [b,c]=false:=by with_unfolding_all rfl):ME X Er (.Compare a [o,o'] [b,c] pos) (jN op op' fa fb fc):=let ⟨_,h1,h2⟩:=h;let ⟨_,h3,h4⟩:=h';zkT h1 h2 h3 h4 ha hb hc hk
theorem zkX {o o':CmpOp}{op op':PV->PV->Mo PV}(h:CmpOk X o op) (h':CmpOk X o' op') (ha:ME X Er a fa) (hb:ME X Er b fb) (hc:ME X Er c fc)
  (hk:lastMarks [o,o'] [b,c]=false:=by with_unfolding_all rfl):MT X Er (.Compare a [o,o'] [b,c] pos) (mB (jN op op' fa fb fc)):=let ⟨_,h1,h2⟩:=h;let ⟨_,h3,h4⟩:=h';zkU h1 h2 h3 h4 ha hb hc hk
theorem yf {op:PV->PV->Mo PV}(h:IxOk X op) (ha:ME X Er a fa) (hb:ME X Er b fb) (hs:PlainIx b:=by exact fun _ _=>rfl):ME X Er (.Subscript a b pos) (zg op fa fb):=let ⟨_,h1,h2⟩:=h;zkV h1 h2 ha hb hs
theorem Out.ifp {α:Type}{ρ:List Addr}{H:Hp}{p:Prop} [Decidable p] {r:Res α}{good:List Addr->Hp->α->Sto->Prop}(h:Out K mg ρ H (if p then r else .stuck) good Er):p/\Out K mg ρ H r good Er:=by
 split at h
 ·rename_i hp;exact ⟨hp,h⟩
 ·exact False.elim h
def zW {α:Type}(st:Sto) (n:Nat) (k:List PV->Res α):Res α:=match st[n]? with
 | some (.lst xs)=>k xs
 | _=>.stuck
def yC {α:Type}(st:Sto) (n:Nat) (k:List Str->List PV->Res α):Res α:=match st[n]? with
 | some (.dic ks xs)=>k ks xs
 | _=>.stuck
def yH {α:Type}(st:Sto) (n:Nat) (k:Str->List Str->List PV->Res α):Res α:=match st[n]? with
 | some (.ins c ks xs)=>k c ks xs
 | _=>.stuck
theorem yI {α:Type}{ρ:List Addr}{H:Hp}{st:Sto}{n:Nat}{k:List PV->Res α}{good:List Addr->Hp->α->Sto->Prop}(h:Out K mg ρ H (zW st n k) good Er):∃xs,st[n]?=some (.lst xs)/\Out K mg ρ H (k xs) good Er:=by
 unfold zW at h
 split at h
 ·rename_i xs e;exact ⟨xs,e,h⟩
 ·exact False.elim h
theorem zcb {α:Type}{ρ:List Addr}{H:Hp}{st:Sto}{n:Nat}{k:List Str->List PV->Res α}{good:List Addr->Hp->α->Sto->Prop}(h:Out K mg ρ H (yC st n k) good Er):∃ks xs,st[n]?=some (.dic ks xs)/\Out K mg ρ H (k ks xs) good Er:=by
 unfold yC at h
 split at h
 ·rename_i ks xs e;exact ⟨ks,xs,e,h⟩
 ·exact False.elim h
theorem zeO {α:Type}{ρ:List Addr}{H:Hp}{st:Sto}{n:Nat}{k:Str->List Str->List PV->Res α}{good:List Addr->Hp->α->Sto->Prop}(h:Out K mg ρ H (yH st n k) good Er):∃c ks xs,st[n]?=some (.ins c ks xs)/\Out K mg ρ H (k c ks xs) good Er:=by
 unfold yH at h
 split at h
 ·rename_i c ks xs e;exact ⟨c,ks,xs,e,h⟩
 ·exact False.elim h
def opI (C:Int->Int->Bool) (g:Int->Int->Int):PV->PV->Mo PV
 | .int i,.int j,st=>if C i j=true then .ok (.int (g i j)) st else .stuck
 | _,_,_=>.stuck
theorem w4 {C:Int->Int->Bool}{g:Int->Int->Int}{P:Int->Int->Prop}(hC:∀i j,C i j=true->P i j):OpM K mg (rI P fun i j=>.int (g i j)) (opI C g):=by
 intro ρ H st x y v w Q E s rx ry h
 cases x with
 | int i =>
  cases y with
  | int j =>
   cases rx;cases ry
   obtain ⟨c,h⟩:=Out.ifp h
   exact ⟨i,j,rfl,rfl,hC i j c,h.now s _ rfl⟩
  | _=>exact False.elim h
 | _=>exact False.elim h
abbrev c0:Int->Int->Bool:=fun _ _=>true
theorem zkY {g:Int->Int->V}{f:Value->Value->Sem Value}(h:OpR X f (jw g)):OpR X f (rI (fun _ _=>True) g):=fun pins s U H x y v u Q I rx ry ⟨i,j,h1,h2,_,q⟩=>h pins s U H x y v u Q I rx ry ⟨i,j,h1,h2,q⟩
abbrev ja:=opI c0 fun i j=>i-j
abbrev cMul:Int->Int->Bool:=fun i j=>(decide (-(2 ^ 64)<i)&&decide (i<2 ^ 64))||(decide (-(2 ^ 64)<j)&&decide (j<2 ^ 64))
abbrev zeP:=opI cMul fun i j=>i*j
abbrev cPow:Int->Int->Bool:=fun i j=>decide (0<=j)&&decide (j<=1000000)&&decide (i.natAbs<2 ^ 64)
abbrev wq:=opI cPow fun i j=>i ^ j.toNat
abbrev cNz:Int->Int->Bool:=fun _ j=>decide (j≠0)
def zO (i j:Int):Int:=if 0<j then i%j else i.fmod j
abbrev zL:=opI cNz zO
abbrev cDv:Int->Int->Bool:=fun _ j=>decide (j≠0)&&decide (j.natAbs<2 ^ 200)
def yv (i j:Int):Int:=if 0<j then i/j else i.fdiv j
abbrev yK:=opI cDv yv
theorem zkZ (i j:Int):zO i j=i.fmod j:=by
 unfold zO;split
 ·rename_i h;rw [Int.fmod_eq_emod_of_nonneg _ (by omega)]
 ·rfl
theorem zk0 (i j:Int):yv i j=i.fdiv j:=by
 unfold yv;split
 ·rename_i h;rw [Int.fdiv_eq_ediv_of_nonneg _ (by omega)]
 ·rfl
theorem wt:BinOk X .Sub ja:=⟨_,zkY zix,w4 fun _ _ _=>trivial⟩
theorem zk1:BinOk X .Mult zeP:=⟨_,ziy,w4 fun i j h=>by simpa [cMul,CMul] using h⟩
theorem zaZ:BinOk X .Pow wq:=⟨_,ziA,w4 fun i j h=>by simp [cPow] at h;exact ⟨h.1.1,h.1.2,h.2⟩⟩
theorem yb:BinOk X .Mod zL:=⟨_,ziz,by
 have h:(fun i j=>V.int (i.fmod j))=fun i j=>V.int (zO i j):=by funext i j;rw [zkZ]
 rw [h];exact w4 fun i j h=>by simpa [cNz] using h⟩
theorem zk2 {y:Int}(h:y.natAbs<2 ^ 200):y.natAbs.log2<9000:=by
 by_cases h0:y.natAbs=0
 ·rw [h0];decide
 ·have:=(Nat.log2_lt h0).mpr h
  omega
theorem zk3:OpR X (binaryOp .FloorDiv) (rI (fun _ j=>j≠0/\j.natAbs<2 ^ 200) fun i j=>.int (i.fdiv j)):=L2.opI fun _ _ _ _ _ _ _ hc q=>PyProof.Rows.floordiv_int hc.1 q (.inl (PyProof.noPylong_of_log2 (zk2 hc.2)))
theorem jB:BinOk X .FloorDiv yK:=⟨_,zk3,by
 have h:(fun i j=>V.int (i.fdiv j))=fun i j=>V.int (yv i j):=by funext i j;rw [zk0]
 rw [h];exact w4 fun i j h=>by simpa [cDv] using h⟩
def zZ:PV->PV->Mo PV
 | .int i,.int j,st=>.ok (.int (i+j)) st
 | .str x,.str y,st=>if x.length+y.length<=lim then .ok (.str (x++y)) st else .stuck
 | .tup xs,.tup ys,st=>if xs.length+ys.length<=lim then .ok (.tup (xs++ys)) st else .stuck
 | .ref n,.ref m,st=>zW st n fun xs=>zW st m fun ys=>if xs.length+ys.length<=lim then .ok (.ref st.length) (st++[.lst (xs++ys)]) else .stuck
 | _,_,_=>.stuck
def zk4 (K:Frag):R2:=fun x y H Q=>∃a b ys,x=.ref a/\y=.ref b/\SqT K H a []/\SqT K H b ys/\Q (.ref b) H
theorem zk5:OpR X (binaryOp .Add) (zk4 X.K):=by
 intro pins s U H x y v u Q I rx ry h
 obtain ⟨a,b,ys,rfl,rfl,h1,h2,q⟩:=h
 cases rx;cases ry
 obtain ⟨i1,r1,p1,_⟩:=I.tuple h1
 obtain ⟨i2,r2,p2,_⟩:=I.tuple h2
 cases r1
 exact HT.cat_tup0 p1 p2 ⟨.ref b,H,I,rfl,q⟩
theorem yw:BinOk X .Add zZ:=⟨_,ziw.or (ziK.or (zk5.or (zjo.or zjI))),by
 intro ρ H st x y v w Q E s rx ry h
 cases x with
 | int i =>
  cases y with
  | int j=>cases rx;cases ry;exact .inl ⟨i,j,rfl,rfl,Out.now (x:=PV.int (i+j)) h s _ rfl⟩
  | _=>exact False.elim h
 | str i =>
  cases y with
  | str j =>
   cases rx;cases ry
   obtain ⟨c,h⟩:=Out.ifp h
   exact .inr (.inl ⟨i,j,rfl,rfl,yB c,h.now s _ rfl⟩)
  | _=>exact False.elim h
 | tup xs =>
  cases y with
  | tup ys =>
   obtain ⟨p,vs,rfl,h1,h2⟩:=rx
   obtain ⟨q,ws,rfl,h3,h4⟩:=ry
   obtain ⟨c,h⟩:=Out.ifp h
   cases xs with
   | nil =>
    cases h2
    exact .inr (.inr (.inl ⟨p,q,ws,rfl,rfl,h1,h3,h.now s _ ⟨q,ws,rfl,h3,h4⟩⟩))
   | cons x0 xs0 =>
    refine .inr (.inr (.inr (.inl ⟨p,q,vs,ws,rfl,rfl,h1,h3,?_,?_,fun e=>?_,fun _ l hl=>?_⟩)))
    ·obtain ⟨v0,r0,e0,_⟩:=h2;rw [e0];simp
    ·rw [<-h2.len,<-h4.len];exact yB c
    ·subst e
     have:ys=[]:=by have:=h4.len;simpa using this
     subst this
     exact h.now s _ ⟨p,vs,rfl,h1,by simpa using h2⟩
    ·exact h ρ _ (Ext.new hl) (s.new hl) _ (R.tup_of (h2.append h4) hl)
  | _=>exact False.elim h
 | ref n =>
  cases y with
  | ref m =>
   obtain ⟨p,rfl,hp⟩:=rx
   obtain ⟨q,rfl,hq⟩:=ry
   obtain ⟨xs,e1,h⟩:=yI h
   obtain ⟨ys,e2,h⟩:=yI h
   obtain ⟨c,h⟩:=Out.ifp h
   obtain ⟨vs,h1,h2⟩:=s.addr e1 hp
   obtain ⟨ws,h3,h4⟩:=s.addr e2 hq
   exact .inr (.inr (.inr (.inr ⟨p,q,vs,ws,rfl,rfl,h1,h3,by rw [<-h2.len,<-h4.len];exact yB c,fun l hl=>Out.newList h s (h2.append h4) hl⟩)))
  | _=>exact False.elim h
 | _=>exact False.elim h⟩
def opB (g:Int->Int->Bool):PV->PV->Mo PV
 | .int i,.int j,st=>.ok (.bl (g i j)) st
 | _,_,_=>.stuck
theorem zcc {g:Int->Int->Bool}:OpM K mg (jw fun i j=>.bl (g i j)) (opB g):=by
 intro ρ H st x y v w Q E s rx ry h
 cases x with
 | int i =>
  cases y with
  | int j=>cases rx;cases ry;exact ⟨i,j,rfl,rfl,Out.now (x:=PV.bl (g i j)) h s _ rfl⟩
  | _=>exact False.elim h
 | _=>exact False.elim h
abbrev jm:=opB fun i j=>decide (i<j)
abbrev oLe:=opB fun i j=>decide (i<=j)
abbrev oGt:=opB fun i j=>decide (j<i)
theorem wu:CmpOk X .Lt jm:=⟨_,ziB,zcc⟩
theorem zeR:CmpOk X .LtE oLe:=⟨_,ziC,zcc⟩
theorem zk6:CmpOk X .Gt oGt:=⟨_,ziD,zcc⟩
def isNon:PV->Bool
 | .non=>true
 | _=>false
def oIs:PV->PV->Mo PV
 | x,.non,st=>.ok (.bl (isNon x)) st
 | _,_,_=>.stuck
def zeT:PV->PV->Mo PV
 | x,.non,st=>.ok (.bl (!isNon x)) st
 | _,_,_=>.stuck
theorem zeU {ρ:List Addr}{H:Hp}{x:PV}{v:V}(r:R K mg ρ H x v):decide (v=.non)=isNon x:=by
 cases x with
 | non=>cases r;rfl
 | bl _=>cases r;rfl
 | int _=>cases r;rfl
 | str _=>cases r;rfl
 | ty _=>cases r;rfl
 | tup _=>obtain ⟨_,_,rfl,_⟩:=r;rfl
 | frl _=>obtain ⟨_,_,rfl,_⟩:=r;rfl
 | ref _=>obtain ⟨_,rfl,_⟩:=r;rfl
 | fn _=>obtain ⟨_,rfl,_⟩:=r;rfl
 | kd _ _=>obtain ⟨_,_,_,rfl,_⟩:=r;rfl
 | exo _ _ _=>obtain ⟨_,_,_,_,rfl,_⟩:=r;rfl
theorem zk7:CmpOk X .Is oIs:=⟨_,ziF,by
 intro ρ H st x y v w Q E s rx ry h
 cases y with
 | non=>cases ry;exact ⟨rfl,by rw [zeU rx];exact Out.now (x:=PV.bl (isNon x)) h s _ rfl⟩
 | _=>exact False.elim h⟩
theorem zk8:CmpOk X .IsNot zeT:=⟨_,ziG,by
 intro ρ H st x y v w Q E s rx ry h
 cases y with
 | non=>cases ry;exact ⟨rfl,by rw [zeU rx];exact Out.now (x:=PV.bl (!isNon x)) h s _ rfl⟩
 | _=>exact False.elim h⟩
theorem zce {ρ:List Addr}{H:Hp}{xs:List PV}{vs:List V}{i:Int}{x:PV}(r:Rs K mg ρ H xs vs) (h:atI xs i=some x):∃v,atI vs i=some v/\R K mg ρ H x v:=by
 unfold atI at h ⊢
 rw [<-r.len]
 cases hj:ixN xs.length i with
 | none=>rw [hj] at h;cases h
 | some j =>
  rw [hj] at h
  obtain ⟨v,h1,h2⟩:=r.get (show xs[j]?=some x from h)
  exact ⟨v,h1,h2⟩
def optR:Option PV->Mo PV
 | some x,st=>.ok x st
 | none,_=>.stuck
def oIx:PV->PV->Mo PV
 | .tup xs,.int i,st=>optR (atI xs i) st
 | .frl xs,.int i,st=>optR (atI xs i) st
 | .str z,.int i,st=>if z.length<=lim then optR ((atI z.cps.toList i).map fun c=>.str ⟨#[c]⟩) st else .stuck
 | .ref n,.int i,st=>zW st n fun xs=>optR (atI xs i) st
 | _,_,_=>.stuck
theorem jP {ρ:List Addr}{H:Hp}{o:Option PV}{st:Sto}{good}(h:Out K mg ρ H (optR o st) good Er):∃x,o=some x/\Out K mg ρ H (.ok x st) good Er:=by
 cases o with
 | some x=>exact ⟨x,rfl,h⟩
 | none=>exact False.elim h
theorem zk9:IxOk X oIx:=⟨_,zju,by
 intro ρ H st x y v w Q E s rx ry h
 cases x with
 | tup xs =>
  cases y with
  | int i =>
   cases ry
   obtain ⟨p,vs,rfl,h1,h2⟩:=rx
   obtain ⟨x,e,h⟩:=jP h
   obtain ⟨v,h3,h4⟩:=zce h2 e
   exact .inr (.inl ⟨p,vs,i,v,rfl,rfl,h1,h3,h.now s _ h4⟩)
  | _=>exact False.elim h
 | frl xs =>
  cases y with
  | int i =>
   cases ry
   obtain ⟨p,vs,rfl,h1,h2⟩:=rx
   obtain ⟨x,e,h⟩:=jP h
   obtain ⟨v,h3,h4⟩:=zce h2 e
   exact .inl ⟨p,vs,i,v,rfl,rfl,h1.sq,h3,h.now s _ h4⟩
  | _=>exact False.elim h
 | str z =>
  cases y with
  | int i =>
   cases ry;cases rx
   obtain ⟨c,h⟩:=Out.ifp h
   obtain ⟨x,e,h⟩:=jP h
   cases hc:atI z.cps.toList i with
   | none=>rw [hc] at e;cases e
   | some k =>
    rw [hc] at e
    cases e
    exact .inr (.inr ⟨z,i,k,rfl,rfl,yB c,hc,h.now s _ rfl⟩)
  | _=>exact False.elim h
 | ref n =>
  cases y with
  | int i =>
   cases ry
   obtain ⟨p,rfl,hp⟩:=rx
   obtain ⟨xs,e1,h⟩:=yI h
   obtain ⟨vs,h1,h2⟩:=s.addr e1 hp
   obtain ⟨x,e,h⟩:=jP h
   obtain ⟨v,h3,h4⟩:=zce h2 e
   exact .inl ⟨p,vs,i,v,rfl,rfl,SqL.of h1,h3,h.now s _ h4⟩
  | _=>exact False.elim h
 | _=>exact False.elim h⟩
end
mutual
def plain:PV->Bool
 | .non=>true
 | .bl _=>true
 | .int _=>true
 | .str _=>true
 | .tup xs=>plains xs
 | _=>false
def plains:List PV->Bool
 | []=>true
 | x::xs=>plain x&&plains xs
end
mutual
def dep:PV->Nat
 | .tup xs=>deps xs+1
 | _=>0
def deps:List PV->Nat
 | []=>0
 | x::xs=>max (dep x) (deps xs)
end
mutual
def eqP:PV->PV->Bool
 | .non,.non=>true
 | .bl a,.bl b=>a==b
 | .bl a,.int b=>(if a then 1 else 0)==b
 | .int a,.bl b=>a==(if b then 1 else 0)
 | .int a,.int b=>a==b
 | .str a,.str b=>a==b
 | .tup xs,.tup ys=>eqPs xs ys
 | _,_=>false
def eqPs:List PV->List PV->Bool
 | [],[]=>true
 | x::xs,y::ys=>eqP x y&&eqPs xs ys
 | _,_=>false
end
section
variable {X:Cx}{Er:XK}{K:Frag}{mg:Str->Option Value}{ρ:List Addr}{pins:List (Addr×Obj)}{U:L2.St}{H:Hp}{s:Shared}
mutual
theorem zeV (I:Inv X pins U H s):∀(x y:PV) {v:V},plain x=true->plain y=true->R X.K mg ρ H x v->R X.K mg ρ H y v->eqP x y=true
 | .non,y,v,_,py,rx,ry=>by
  cases rx
  cases y with
  | non=>rfl
  | tup ys=>obtain ⟨_,_,e,_⟩:=ry;cases e
  | bl _=>cases ry
  | int _=>cases ry
  | str _=>cases ry
  | _=>cases py
 | .bl a,y,v,_,py,rx,ry=>by
  cases rx
  cases y with
  | bl b=>cases ry;simp [eqP]
  | tup ys=>obtain ⟨_,_,e,_⟩:=ry;cases e
  | non=>cases ry
  | int _=>cases ry
  | str _=>cases ry
  | _=>cases py
 | .int a,y,v,_,py,rx,ry=>by
  cases rx
  cases y with
  | int b=>cases ry;simp [eqP]
  | tup ys=>obtain ⟨_,_,e,_⟩:=ry;cases e
  | non=>cases ry
  | bl _=>cases ry
  | str _=>cases ry
  | _=>cases py
 | .str a,y,v,_,py,rx,ry=>by
  cases rx
  cases y with
  | str b=>cases ry;simp [eqP]
  | tup ys=>obtain ⟨_,_,e,_⟩:=ry;cases e
  | non=>cases ry
  | bl _=>cases ry
  | int _=>cases ry
  | _=>cases py
 | .tup xs,y,v,px,py,rx,ry=>by
  obtain ⟨a,vs,rfl,h1,h2⟩:=rx
  cases y with
  | tup ys =>
   obtain ⟨b,ws,e,h3,h4⟩:=ry
   cases e
   have:=I.tuple_inj h1 h3
   subst this
   exact same_Ps I xs ys px py h2 h4
  | non=>cases ry
  | bl _=>cases ry
  | int _=>cases ry
  | str _=>cases ry
  | _=>cases py
 | .ty _,_,_,px,_,_,_=>by cases px
 | .frl _,_,_,px,_,_,_=>by cases px
 | .ref _,_,_,px,_,_,_=>by cases px
 | .fn _,_,_,px,_,_,_=>by cases px
 | .kd _ _,_,_,px,_,_,_=>by cases px
 | .exo _ _ _,_,_,px,_,_,_=>by cases px
theorem same_Ps (I:Inv X pins U H s):∀(xs ys:List PV) {vs:List V},plains xs=true->plains ys=true->Rs X.K mg ρ H xs vs->Rs X.K mg ρ H ys vs->eqPs xs ys=true
 | [],ys,vs,_,py,rx,ry=>by
  cases rx
  cases ys with
  | nil=>rfl
  | cons y ys=>obtain ⟨_,_,e,_⟩:=ry;cases e
 | x::xs,ys,vs,px,py,rx,ry=>by
  obtain ⟨v,r,rfl,h1,h2⟩:=rx
  cases ys with
  | nil=>cases ry
  | cons y ys =>
   obtain ⟨v',r',e,h3,h4⟩:=ry
   cases e
   simp only [plains,Bool.and_eq_true] at px py
   simp only [eqPs,Bool.and_eq_true]
   exact ⟨zeV I x y px.1 py.1 h1 h3,same_Ps I xs ys px.2 py.2 h2 h4⟩
end
def eqJp (xs ys:List PV) (j:Nat):Bool:=match xs[j]?,ys[j]? with
 | some x,some y=>eqP x y
 | _,_=>true
theorem zeW:∀(xs ys:List PV),((List.range (min xs.length ys.length)).all (eqJp xs ys)&&xs.length==ys.length)=eqPs xs ys
 | [],[]=>rfl
 | [],y::ys=>by simp [eqPs]
 | x::xs,[]=>by simp [eqPs]
 | x::xs,y::ys=>by
  have ih:=zeW xs ys
  have e1:min (x::xs).length (y::ys).length=min xs.length ys.length+1:=by simp only [List.length_cons];omega
  have e2:((x::xs).length==(y::ys).length)=(xs.length==ys.length):=by
   rw [Bool.eq_iff_iff];simp
  rw [e1,e2,List.range_succ_eq_map,List.all_cons,List.all_map]
  have e3:(eqJp (x::xs) (y::ys)∘Nat.succ)=eqJp xs ys:=by
   funext j
   simp [eqJp]
  rw [e3,Bool.and_assoc,ih]
  simp [eqPs,eqJp]
theorem zcg:∀{xs:List PV}{i:Nat}{x:PV},xs[i]?=some x->dep x<=deps xs
 | [],_,_,e=>by simp at e
 | y::xs,0,x,e=>by simp at e;subst e;simp only [deps];omega
 | y::xs,i+1,x,e=>by
  simp at e
  have:=zcg e
  simp only [deps];omega
theorem za0:∀{xs:List PV}{i:Nat}{x:PV},plains xs=true->xs[i]?=some x->plain x=true
 | [],_,_,_,e=>by simp at e
 | y::xs,0,x,p,e=>by simp at e;subst e;simp only [plains,Bool.and_eq_true] at p;exact p.1
 | y::xs,i+1,x,p,e=>by
  simp at e
  simp only [plains,Bool.and_eq_true] at p
  exact za0 p.2 e
theorem w5 (A:Around):A.in1.units=A.units+1:=rfl
theorem zch (I:Inv X pins U H s):∀(n:Nat) (x y:PV) {v w:V}{u u':Value}(A:Around),dep x<=n->plain x=true->plain y=true->R X.K mg ρ H x v->R X.K mg ρ H y w->RelV v u->RelV w u'->A.units+n<cLine ->
  SeqAt.EqAt A s u u' (eqP x y)/\SeqAt.RcAt A s u u' (eqP x y)/\SeqAt.RcNeAt A s u u' (!eqP x y):=by
 intro n
 induction n with
 | zero =>
  intro x y v w u u' A hd px py rx ry rv rw hu
  cases x with
  | tup xs=>simp only [dep] at hd;omega
  | non =>
   cases rx;cases rv
   cases y with
   | non=>cases ry;cases rw;exact ⟨.same _,.none_none,.none_none⟩
   | bl b=>cases ry;cases rw;exact ⟨.none_bool b,.none_bool b,.none_bool b⟩
   | int b=>cases ry;obtain ⟨t,rfl⟩:=rw;exact ⟨.none_int b t,.none_int b t,.none_int b t⟩
   | str b=>cases ry;obtain ⟨t,rfl⟩:=rw;exact ⟨.none_str b t,.none_str b t,.none_str b t⟩
   | tup ys =>
    obtain ⟨p,ws,rfl,h1,h2⟩:=ry
    cases rw
    obtain ⟨its,_,pl,_⟩:=I.tuple h1
    exact ⟨.none_tuple pl (by omega),.none_tuple pl (by omega),.none_tuple pl (by omega)⟩
   | _=>cases py
  | bl a =>
   cases rx;cases rv
   cases y with
   | non=>cases ry;cases rw;exact ⟨.bool_none a,.bool_none a,.bool_none a⟩
   | bl b=>cases ry;cases rw;exact ⟨.bool_bool a b,.bool_bool a b,.bool_bool a b⟩
   | int b=>cases ry;obtain ⟨t,rfl⟩:=rw;exact ⟨.bool_int a b t,.bool_int a b t,.bool_int a b t⟩
   | str b=>cases ry;obtain ⟨t,rfl⟩:=rw;exact ⟨.bool_str a b t,.bool_str a b t,.bool_str a b t⟩
   | tup ys =>
    obtain ⟨p,ws,rfl,h1,h2⟩:=ry
    cases rw
    obtain ⟨its,_,pl,_⟩:=I.tuple h1
    exact ⟨.bool_tuple a pl (by omega),.bool_tuple a pl (by omega),.bool_tuple a pl (by omega)⟩
   | _=>cases py
  | int a =>
   cases rx;obtain ⟨t0,rfl⟩:=rv
   cases y with
   | non=>cases ry;cases rw;exact ⟨.int_none a t0,.int_none a t0,.int_none a t0⟩
   | bl b=>cases ry;cases rw;exact ⟨.int_bool a t0 b,.int_bool a t0 b,.int_bool a t0 b⟩
   | int b=>cases ry;obtain ⟨t,rfl⟩:=rw;exact ⟨.int_int a t0 b t,.int_int a t0 b t,.int_int a t0 b t⟩
   | str b=>cases ry;obtain ⟨t,rfl⟩:=rw;exact ⟨.int_str a t0 b t,.int_str a t0 b t,.int_str a t0 b t⟩
   | tup ys =>
    obtain ⟨p,ws,rfl,h1,h2⟩:=ry
    cases rw
    obtain ⟨its,_,pl,_⟩:=I.tuple h1
    exact ⟨.int_tuple a t0 pl (by omega),.int_tuple a t0 pl (by omega),.int_tuple a t0 pl (by omega)⟩
   | _=>cases py
  | str a =>
   cases rx;obtain ⟨t0,rfl⟩:=rv
   cases y with
   | non=>cases ry;cases rw;exact ⟨.str_none a t0,.str_none a t0,.str_none a t0⟩
   | bl b=>cases ry;cases rw;exact ⟨.str_bool a t0 b,.str_bool a t0 b,.str_bool a t0 b⟩
   | int b=>cases ry;obtain ⟨t,rfl⟩:=rw;exact ⟨.str_int a t0 b t,.str_int a t0 b t,.str_int a t0 b t⟩
   | str b=>cases ry;obtain ⟨t,rfl⟩:=rw;exact ⟨.str_str a t0 b t,.str_str a t0 b t,.str_str a t0 b t⟩
   | tup ys =>
    obtain ⟨p,ws,rfl,h1,h2⟩:=ry
    cases rw
    obtain ⟨its,_,pl,_⟩:=I.tuple h1
    exact ⟨.str_tuple a t0 pl (by omega),.str_tuple a t0 pl (by omega),.str_tuple a t0 pl (by omega)⟩
   | _=>cases py
  | _=>cases px
 | succ n ih =>
  intro x y v w u u' A hd px py rx ry rv rw hu
  cases x with
  | tup xs =>
   obtain ⟨a,vs,rfl,h1,h2⟩:=id rx
   cases rv
   obtain ⟨its,r1,p1,_⟩:=I.tuple h1
   cases y with
   | non=>cases ry;cases rw;exact ⟨.tuple_none p1 (by omega),.tuple_none p1 (by omega),.tuple_none p1 (by omega)⟩
   | bl b=>cases ry;cases rw;exact ⟨.tuple_bool b p1 (by omega),.tuple_bool b p1 (by omega),.tuple_bool b p1 (by omega)⟩
   | int b=>cases ry;obtain ⟨t,rfl⟩:=rw;exact ⟨.tuple_int b t p1 (by omega),.tuple_int b t p1 (by omega),.tuple_int b t p1 (by omega)⟩
   | str b=>cases ry;obtain ⟨t,rfl⟩:=rw;exact ⟨.tuple_str b t p1 (by omega),.tuple_str b t p1 (by omega),.tuple_str b t p1 (by omega)⟩
   | tup ys =>
    obtain ⟨b,ws,rfl,h3,h4⟩:=id ry
    cases rw
    obtain ⟨its2,r2,p2,_⟩:=I.tuple h3
    have l1:=h2.len
    have l2:=h4.len
    have l3:=r1.length
    have l4:=r2.length
    have item:∀j (g1:j<its.toArray.size) (g2:j<its2.toArray.size),SeqAt.EqAt A.in1 s its.toArray[j] its2.toArray[j] (eqJp xs ys j):=fun j g1 g2=>by
     have k1:j<xs.length:=by rw [l1,l3];simpa using g1
     have k2:j<ys.length:=by rw [l2,l4];simpa using g2
     obtain ⟨v1,e1,rr1⟩:=h2.get (List.getElem?_eq_getElem k1)
     obtain ⟨v2,e2,rr2⟩:=h4.get (List.getElem?_eq_getElem k2)
     obtain ⟨u1,f1,ru1⟩:=r1.get e1
     obtain ⟨u2,f2,ru2⟩:=r2.get e2
     have w1:its.toArray[j]=u1:=by
      obtain ⟨_,z⟩:=List.getElem?_eq_some_iff.mp f1
      simpa using z
     have w2:its2.toArray[j]=u2:=by
      obtain ⟨_,z⟩:=List.getElem?_eq_some_iff.mp f2
      simpa using z
     have ej:eqJp xs ys j=eqP xs[j] ys[j]:=by
      unfold eqJp
      rw [List.getElem?_eq_getElem k1,List.getElem?_eq_getElem k2]
     rw [w1,w2,ej]
     have hdj:=zcg (List.getElem?_eq_getElem k1)
     simp only [dep] at hd
     exact (ih xs[j] ys[j] A.in1 (by omega) (za0 px (List.getElem?_eq_getElem k1)) (za0 py (List.getElem?_eq_getElem k2)) rr1 rr2 ru1 ru2 (by rw [w5];omega)).1
    have eall:((List.range (min its.toArray.size its2.toArray.size)).all (eqJp xs ys)&&its.toArray.size==its2.toArray.size)=eqP (.tup xs) (.tup ys):=by
     have e:=zeW xs ys
     rw [l1,l2,l3,l4] at e
     simpa [eqP] using e
    have rc:SeqAt.RcAt A s (.ref a) (.ref b) (eqP (.tup xs) (.tup ys)):=by
     rw [<-eall]
     exact SeqAt.RcAt.tuples (show s.heap.IsTuple a its.toArray from p1) (show s.heap.IsTuple b its2.toArray from p2) (by omega) item
    refine ⟨?_,rc,?_⟩
    ·by_cases hab:a=b
     ·subst hab
      rw [zeV I (.tup xs) (.tup ys) px py rx ry]
      exact .same _
     ·exact .of_refs hab rc
    ·rw [<-eall]
     exact SeqAt.RcNeAt.tuples (show s.heap.IsTuple a its.toArray from p1) (show s.heap.IsTuple b its2.toArray from p2) (by omega) item
   | _=>cases py
  | non=>exact ih _ y A (Nat.zero_le _) px py rx ry rv rw (by omega)
  | bl a=>exact ih _ y A (Nat.zero_le _) px py rx ry rv rw (by omega)
  | int a=>exact ih _ y A (Nat.zero_le _) px py rx ry rv rw (by omega)
  | str a=>exact ih _ y A (Nat.zero_le _) px py rx ry rv rw (by omega)
  | _=>cases px
def yo:PV->PV->Mo PV:=fun x y st=>if plain x=true/\plain y=true/\dep x<=150 then .ok (.bl (eqP x y)) st else .stuck
def yX:PV->PV->Mo PV:=fun x y st=>if plain x=true/\plain y=true/\dep x<=150 then .ok (.bl (!eqP x y)) st else .stuck
def zeX (K:Frag) (mg:Str->Option Value) (f:Bool->Bool):R2:=fun v w H Q=>∃ρ x y,plain x=true/\plain y=true/\dep x<=150/\R K mg ρ H x v/\R K mg ρ H y w/\Q (.bl (f (eqP x y))) H
theorem zla (hu:X.A.units+200<cLine):OpR X (compareOp .Eq) (zeX X.K X.mg id):=by
 intro pins s U H x y v u Q I rx ry h
 obtain ⟨ρ,a,b,pa,pb,hd,ra,rb,q⟩:=h
 exact PySem.EqBoolInt.of_rc (zch I 150 a b X.A hd pa pb ra rb rx ry (by omega)).2.1 ⟨.bl _,H,I,rfl,q⟩
theorem zlb (hu:X.A.units+200<cLine):OpR X (compareOp .NotEq) (zeX X.K X.mg not):=by
 intro pins s U H x y v u Q I rx ry h
 obtain ⟨ρ,a,b,pa,pb,hd,ra,rb,q⟩:=h
 exact PySem.EqBoolInt.of_rcne (zch I 150 a b X.A hd pa pb ra rb rx ry (by omega)).2.2 ⟨.bl _,H,I,rfl,q⟩
theorem yR (hu:X.A.units+200<cLine):CmpOk X .Eq yo:=⟨_,zla hu,fun ρ H st x y v w Q E s rx ry h=>by
 obtain ⟨⟨p1,p2,p3⟩,h⟩:=Out.ifp h
 exact ⟨ρ,x,y,p1,p2,p3,rx,ry,h.now s _ rfl⟩⟩
theorem za1 (hu:X.A.units+200<cLine):CmpOk X .NotEq yX:=⟨_,zlb hu,fun ρ H st x y v w Q E s rx ry h=>by
 obtain ⟨⟨p1,p2,p3⟩,h⟩:=Out.ifp h
 exact ⟨ρ,x,y,p1,p2,p3,rx,ry,h.now s _ rfl⟩⟩
end
section
variable {X:Cx}{Er:XK}{K:Frag}{mg:Str->Option Value}{a b c e:Expr}{es:List Expr}{pos:Pos}{fa fb fc:zc->Mo PV}{fs:zc->Mo (List PV)}
def tMO (K:Frag) (mg:Str->Option Value) (Er:XK) (f:zc->Mo (Option Int)):TO:=fun U H Q=>∃env st ρ,EnvR K mg ρ H env U/\StR K mg ρ H st/\Out K mg ρ H (f env st) (fun _ H' o _=>Q o H') Er
def MO (X:Cx) (Er:XK) (e:Option Expr) (f:zc->Mo (Option Int)):Prop:=PO X e (tMO X.K X.mg Er f)
def pNone:zc->Mo (Option Int):=fun _ st=>.ok none st
def asI:PV->Mo (Option Int)
 | .int i,st=>.ok (some i) st
 | _,_=>.stuck
def pSome (f:zc->Mo PV):zc->Mo (Option Int):=fun env st=>(f env st).bind asI
theorem PO.weak {o:Option Expr}{t t':TO}(h:PO X o t) (w:∀U H Q,t' U H Q->t U H Q):PO X o t':=fun pins s U H Q I q=>h pins s U H Q I (w U H Q q)
theorem jb:MO X Er none pNone:=PO.weak zjh fun U H Q ⟨env,st,ρ,re,rs,h⟩=>h.now rs
theorem jc (h:ME X Er e fa):MO X Er (some e) (pSome fa):=PO.weak (zji h) fun U H Q ⟨env,st,ρ,re,rs,h⟩=>⟨env,st,ρ,re,rs,h.then fun ad H1 x st1 e1 s1 h1 v rv=>by
 cases x with
 | int i=>cases rv;exact ⟨i,rfl,Out.now (x:=some i) h1 s1⟩
 | _=>exact False.elim h1⟩
def cutP (xs:List PV) (lo hi:Option Int):List PV:=(xs.drop (HT.sIx xs.length 0 lo)).take (HT.sIx xs.length xs.length hi-HT.sIx xs.length 0 lo)
def j2:PV->Option Int->Option Int->Mo PV
 | .tup xs,lo,hi,st=>.ok (.tup (cutP xs lo hi)) st
 | .frl xs,lo,hi,st=>.ok (.ref st.length) (st++[.lst (cutP xs lo hi)])
 | .ref n,lo,hi,st=>zW st n fun xs=>.ok (.ref st.length) (st++[.lst (cutP xs lo hi)])
 | .str z,lo,hi,st=>if z.length<=lim then .ok (.str (Txt.slice z lo hi)) st else .stuck
 | _,_,_,_=>.stuck
theorem Rs.cut {ρ:List Addr}{H:Hp}{xs:List PV}{vs:List V}(r:Rs K mg ρ H xs vs) (lo hi:Option Int):Rs K mg ρ H (cutP xs lo hi) (cutV vs lo hi):=by
 unfold cutP cutV
 rw [r.len]
 exact (r.drop _).take _
def zld (K:Frag):V->Option Int->Option Int->Hp->VK->Prop:=fun x lo hi H Q=>∃a xs,x=.ref a/\SqT K H a xs/\(HT.sIx xs.length 0 lo=0/\HT.sIx xs.length xs.length hi=xs.length)/\Q (.ref a) H
theorem zle:SlR X (zld X.K):=by
 intro pins s U H x v vl vu lo hi sl Q I rx hs pl pu h
 obtain ⟨a,xs,rfl,hx,hw,q⟩:=h
 cases rx
 obtain ⟨its,r,ht,hz⟩:=I.tuple hx
 have hlen:its.toArray.size=xs.length:=by rw [List.size_toArray];exact r.length.symm
 refine ⟨"tuple", _,PyProof.Rows.slot_tuple_getitem.lookup,ht.typeIs,?_⟩
 exact HT.getItem_tuple_all ht hs pl pu (by rw [hlen];exact hw) ⟨.ref a,H,I,rfl,q⟩ (by rw [hlen];exact hz)
def yJ (fa:zc->Mo PV) (fl fu:zc->Mo (Option Int)):zc->Mo PV:=fun env st=>(fa env st).bind fun x st1=>(fl env st1).bind fun l st2=>(fu env st2).bind fun u st3=>j2 x l u st3
theorem jd {lo hi:Option Expr}{fl fu:zc->Mo (Option Int)}{p2:Pos}(ha:ME X Er a fa) (hl:MO X Er lo fl) (hu:MO X Er hi fu):ME X Er (.Subscript a (.Slice lo hi none p2) pos) (yJ fa fl fu) :=
 PE.weak (zjk (zjm.or (zle.or (zjy.or sl_str))) ha hl hu) fun U H Q ⟨env,st,ρ,re,rs,h⟩=>⟨env,st,ρ,re,rs,h.then fun ad H1 x st1 e1 s1 h1 v rv=>⟨env,st1,ad,re.ext e1,s1,h1.then fun al H2 l st2 e2 s2 h2 =>
  ⟨env,st2,al,(re.ext e1).ext e2,s2,h2.then fun am H3 u st3 e3 s3 h3=>by
  have rv:=R.ext e3 x (R.ext e2 x rv)
  cases x with
  | tup xs =>
   obtain ⟨p,vs,rfl,k1,k2⟩:=rv
   by_cases hw:HT.sIx vs.length 0 l=0/\HT.sIx vs.length vs.length u=vs.length
   ·refine .inr (.inl ⟨p,vs,rfl,k1,hw,Out.now (x:=PV.tup (cutP xs l u)) h3 s3 _ ⟨p,vs,rfl,k1,?_⟩⟩)
    have:cutP xs l u=xs:=by
     unfold cutP
     rw [k2.len,hw.1,hw.2]
     simp [<-k2.len]
    rw [this];exact k2
   ·exact .inl ⟨p,vs,rfl,k1,hw,fun q hq=>h3 am _ (Ext.new hq) (s3.new hq) _ (R.tup_of (k2.cut l u) hq)⟩
  | frl xs =>
   obtain ⟨p,vs,rfl,k1,k2⟩:=rv
   exact .inr (.inr (.inl ⟨p,vs,rfl,k1.sq,fun q hq=>Out.newList (xs:=cutP xs l u) h3 s3 (k2.cut l u) hq⟩))
  | ref n =>
   obtain ⟨p,rfl,hp⟩:=rv
   obtain ⟨xs,k0,h3⟩:=yI h3
   obtain ⟨vs,k1,k2⟩:=s3.addr k0 hp
   exact .inr (.inr (.inl ⟨p,vs,rfl,SqL.of k1,fun q hq=>Out.newList (xs:=cutP xs l u) h3 s3 (k2.cut l u) hq⟩))
  | str z =>
   cases rv
   obtain ⟨k0,h3⟩:=Out.ifp h3
   exact .inr (.inr (.inr ⟨z,rfl,yB k0,h3.now s3 _ rfl⟩))
  | _=>exact False.elim h3⟩⟩⟩
def CallM (K:Frag) (mg:Str->Option Value) (r:List V->Hp->VK->Prop) (op:List PV->Mo PV):Prop:=∀ρ H st xs vs (Q:VK) (E:XK),StR K mg ρ H st->Rs K mg ρ H xs vs->Out K mg ρ H (op xs st) (gV K mg Q) E->r vs H Q
def BltOk (X:Cx) (f:Value) (op:List PV->Mo PV):Prop:=∃r,CallR X f r/\CallM X.K X.mg r op
def zl (op:List PV->Mo PV) (fs:zc->Mo (List PV)):zc->Mo PV:=fun env st=>(fs env st).bind op
theorem zM {x:Str} {id:String} {op:List PV->Mo PV} {p:Pos} (h:BltOk X (.builtin id) op) (hm:X.mg x=none) (hv:bootBuiltins x=some (.builtin id)) (ha:MA X Er (e::es) fs) (hg:Gl X x:=by rfl) (hn:x ≠ "__name__" := by decide) (hdb:(x==("__debug__" : Str))=false:=by decide)
  (he:starEach (e::es) X.env=(false,eval e X.env)::starEach es X.env:=by rfl) (hpl:(backTo pos (starEach es X.env)).any (·.1)=false:=by rfl):ME X Er (.Call (.Name x p) (e::es) [] pos) (zl op fs):=by
 obtain ⟨r,h1,h2⟩:=h
 exact PE.weak (zi9 h1 hg hm hv ha hn hdb he hpl) fun U H Q ⟨env,st,ρ,re,rs,h⟩=>⟨env,st,ρ,re,rs,h.then fun ad H1 xs st1 e1 s1 k vs rv=>h2 ad H1 st1 xs vs Q Er s1 rv k⟩
theorem za2 {x:Str} {T:String} {op:List PV->Mo PV} {p:Pos} (h:BltOk X (.type T) op) (hm:X.mg x=none) (hv:bootBuiltins x=some (.type T)) (ha:MA X Er (e::es) fs) (hg:Gl X x:=by rfl) (hn:x ≠ "__name__" := by decide) (hdb:(x==("__debug__" : Str))=false:=by decide)
  (he:starEach (e::es) X.env=(false,eval e X.env)::starEach es X.env:=by rfl) (hpl:(backTo pos (starEach es X.env)).any (·.1)=false:=by rfl):ME X Er (.Call (.Name x p) (e::es) [] pos) (zl op fs):=by
 obtain ⟨r,h1,h2⟩:=h
 exact PE.weak (zja h1 hg hm hv ha hn hdb he hpl) fun U H Q ⟨env,st,ρ,re,rs,h⟩=>⟨env,st,ρ,re,rs,h.then fun ad H1 xs st1 e1 s1 k vs rv=>h2 ad H1 st1 xs vs Q Er s1 rv k⟩
theorem yD {x:Str} {n:String} (hm:X.mg x=none) (hv:bootBuiltins x=some (.type n)) (hg:Gl X x:=by rfl) (hn:x ≠ "__name__" := by decide) (hd:(x==("__debug__" : Str))=false:=by decide):ME X Er (.Name x pos) (mC (.ty n)) :=
 wn (zhL (v:=.ty n) hg hm hv rfl hn hd) fun _ _=>rfl
theorem Rs.one {ρ:List Addr}{H:Hp}{x:PV}{vs:List V}(r:Rs K mg ρ H [x] vs):∃v,vs=[v]/\R K mg ρ H x v:=by
 obtain ⟨v,r',rfl,h,h'⟩:=r
 cases h'
 exact ⟨v,rfl,h⟩
theorem Rs.two {ρ:List Addr}{H:Hp}{x y:PV}{vs:List V}(r:Rs K mg ρ H [x,y] vs):∃v w,vs=[v,w]/\R K mg ρ H x v/\R K mg ρ H y w:=by
 obtain ⟨v,r',rfl,h,h'⟩:=r
 obtain ⟨w,rfl,h2⟩:=Rs.one h'
 exact ⟨v,w,rfl,h,h2⟩
def w6:List PV->Mo PV
 | [.tup xs],st=>.ok (.int xs.length) st
 | [.frl xs],st=>.ok (.int xs.length) st
 | [.str z],st=>if z.length<=lim then .ok (.int z.length) st else .stuck
 | [.ref n],st=>zW st n fun xs=>.ok (.int xs.length) st
 | _,_=>.stuck
theorem zlf:BltOk X (.builtin "len") w6:=⟨_,ziM,fun ρ H st xs vs Q E s r h=>by
 match xs,r,h with
 | [.tup ys],r,h =>
  obtain ⟨v,rfl,p,ws,rfl,h1,h2⟩:=Rs.one r
  exact ⟨_,ws.length,rfl,.inr ⟨ws,h1,rfl⟩,by rw [<-h2.len];exact Out.now (x:=PV.int ys.length) h s _ rfl⟩
 | [.frl ys],r,h =>
  obtain ⟨v,rfl,p,ws,rfl,h1,h2⟩:=Rs.one r
  exact ⟨_,ws.length,rfl,.inl ⟨ws,h1.sq,rfl⟩,by rw [<-h2.len];exact Out.now (x:=PV.int ys.length) h s _ rfl⟩
 | [.str z],r,h =>
  obtain ⟨v,rfl,rfl⟩:=Rs.one r
  obtain ⟨c,h⟩:=Out.ifp h
  exact ⟨_,z.length,rfl,⟨yB c,rfl⟩,h.now s _ rfl⟩
 | [.ref n],r,h =>
  obtain ⟨v,rfl,p,rfl,hp⟩:=Rs.one r
  obtain ⟨ys,e,h⟩:=yI h
  obtain ⟨ws,h1,h2⟩:=s.addr e hp
  exact ⟨_,ws.length,rfl,.inl ⟨ws,SqL.of h1,rfl⟩,by rw [<-h2.len];exact h.now s _ rfl⟩
 | [],r,h=>exact False.elim h
 | [.non],r,h=>exact False.elim h
 | [.bl _],r,h=>exact False.elim h
 | [.int _],r,h=>exact False.elim h
 | [.ty _],r,h=>exact False.elim h
 | [.fn _],r,h=>exact False.elim h
 | [.kd _ _],r,h=>exact False.elim h
 | [.exo _ _ _],r,h=>exact False.elim h
 | x::y::r',r,h=>cases x<;>exact False.elim h⟩
def zci:List PV->Mo PV
 | [.int i],st=>.ok (.int i) st
 | [.bl k],st=>.ok (.int (if k then 1 else 0)) st
 | _,_=>.stuck
theorem zlg:BltOk X (.type "int") zci:=⟨_,ziL,fun ρ H st xs vs Q E s r h=>by
 match xs,r,h with
 | [.int i],r,h =>
  obtain ⟨v,rfl,rfl⟩:=Rs.one r
  exact .inl ⟨i,rfl,Out.now (x:=PV.int i) h s _ rfl⟩
 | [.bl k],r,h =>
  obtain ⟨v,rfl,rfl⟩:=Rs.one r
  exact .inr ⟨k,rfl,Out.now (x:=PV.int (if k then 1 else 0)) h s _ rfl⟩
 | [],r,h=>exact False.elim h
 | [.non],r,h=>exact False.elim h
 | [.str _],r,h=>exact False.elim h
 | [.tup _],r,h=>exact False.elim h
 | [.frl _],r,h=>exact False.elim h
 | [.ref _],r,h=>exact False.elim h
 | [.ty _],r,h=>exact False.elim h
 | [.fn _],r,h=>exact False.elim h
 | [.kd _ _],r,h=>exact False.elim h
 | [.exo _ _ _],r,h=>exact False.elim h
 | x::y::r',r,h=>cases x<;>exact False.elim h⟩
def w8:List PV->Mo PV
 | [.tup xs],st=>.ok (.ref st.length) (st++[.lst xs])
 | [.frl xs],st=>.ok (.ref st.length) (st++[.lst xs])
 | [.ref n],st=>zW st n fun xs=>.ok (.ref st.length) (st++[.lst xs])
 | _,_=>.stuck
theorem zlh:BltOk X (.type "list") w8:=⟨_,zjA,fun ρ H st xs vs Q E s r h=>by
 match xs,r,h with
 | [.tup ys],r,h =>
  obtain ⟨v,rfl,p,ws,rfl,h1,h2⟩:=Rs.one r
  exact ⟨p,ws,rfl,.inr h1,fun l hl=>Out.newList (xs:=ys) h s h2 hl⟩
 | [.frl ys],r,h =>
  obtain ⟨v,rfl,p,ws,rfl,h1,h2⟩:=Rs.one r
  exact ⟨p,ws,rfl,.inl h1.sq,fun l hl=>Out.newList (xs:=ys) h s h2 hl⟩
 | [.ref n],r,h =>
  obtain ⟨v,rfl,p,rfl,hp⟩:=Rs.one r
  obtain ⟨ys,e,h⟩:=yI h
  obtain ⟨ws,h1,h2⟩:=s.addr e hp
  exact ⟨p,ws,rfl,.inl (SqL.of h1),fun l hl=>Out.newList (xs:=ys) h s h2 hl⟩
 | [],r,h=>exact False.elim h
 | [.non],r,h=>exact False.elim h
 | [.bl _],r,h=>exact False.elim h
 | [.int _],r,h=>exact False.elim h
 | [.str _],r,h=>exact False.elim h
 | [.ty _],r,h=>exact False.elim h
 | [.fn _],r,h=>exact False.elim h
 | [.kd _ _],r,h=>exact False.elim h
 | [.exo _ _ _],r,h=>exact False.elim h
 | x::y::r',r,h=>cases x<;>exact False.elim h⟩
def za3:List PV->Mo PV
 | [.tup xs],st=>.ok (.tup xs) st
 | [.frl xs],st=>.ok (.tup xs) st
 | [.ref n],st=>zW st n fun xs=>.ok (.tup xs) st
 | _,_=>.stuck
theorem zeY:BltOk X (.type "tuple") za3:=⟨_,zjB,fun ρ H st xs vs Q E s r h=>by
 match xs,r,h with
 | [.tup ys],r,h =>
  obtain ⟨v,rfl,p,ws,rfl,h1,h2⟩:=Rs.one r
  exact ⟨p,ws,rfl,.inr ⟨h1,Out.now (x:=PV.tup ys) h s _ ⟨p,ws,rfl,h1,h2⟩⟩⟩
 | [.frl ys],r,h =>
  obtain ⟨v,rfl,p,ws,rfl,h1,h2⟩:=Rs.one r
  exact ⟨p,ws,rfl,.inl ⟨h1.sq,fun l hl=>h ρ _ (Ext.new hl) (s.new hl) _ (R.tup_of h2 hl)⟩⟩
 | [.ref n],r,h =>
  obtain ⟨v,rfl,p,rfl,hp⟩:=Rs.one r
  obtain ⟨ys,e,h⟩:=yI h
  obtain ⟨ws,h1,h2⟩:=s.addr e hp
  exact ⟨p,ws,rfl,.inl ⟨SqL.of h1,fun l hl=>h ρ _ (Ext.new hl) (s.new hl) _ (R.tup_of h2 hl)⟩⟩
 | [],r,h=>exact False.elim h
 | [.non],r,h=>exact False.elim h
 | [.bl _],r,h=>exact False.elim h
 | [.int _],r,h=>exact False.elim h
 | [.str _],r,h=>exact False.elim h
 | [.ty _],r,h=>exact False.elim h
 | [.fn _],r,h=>exact False.elim h
 | [.kd _ _],r,h=>exact False.elim h
 | [.exo _ _ _],r,h=>exact False.elim h
 | x::y::r',r,h=>cases x<;>exact False.elim h⟩
def tyb (T n:String):Option Bool :=
 if T = "int" then (if n = "int" then some true else if n = "bool" \/ n = "str" \/ n = "tuple" \/ n = "dict" \/ n = "list" then some false else none)
 else if T = "bool" then (if n = "int" \/ n = "bool" then some true else if n = "str" \/ n = "tuple" \/ n = "dict" \/ n = "list" then some false else none)
 else if T = "str" then (if n = "str" then some true else if n = "int" \/ n = "bool" \/ n = "tuple" \/ n = "dict" \/ n = "list" then some false else none)
 else if T = "tuple" then (if n = "tuple" then some true else if n = "int" \/ n = "bool" \/ n = "str" \/ n = "dict" \/ n = "list" then some false else none)
 else if T = "list" then (if n = "list" then some true else if n = "int" \/ n = "bool" \/ n = "str" \/ n = "dict" \/ n = "tuple" then some false else none)
 else if T = "dict" then (if n = "dict" then some true else if n = "int" \/ n = "bool" \/ n = "str" \/ n = "list" \/ n = "tuple" then some false else none)
 else if T = "NoneType" then (if n = "int" \/ n = "bool" \/ n = "str" \/ n = "list" \/ n = "tuple" \/ n = "dict" then some false else none)
 else none
theorem zli (K:Frag) {T n:String}{b:Bool}(h:tyb T n=some b):PySem.W.kitOne K (.type T) (.type n)=some b:=by
 unfold tyb at h
 split at h
 ·rename_i e;subst e
  split at h
  ·rename_i e;subst e;cases h;first|rfl|kernel_rfl
  ·split at h
   ·rename_i e;cases h;rcases e with e|e|e|e|e<;>subst e<;>first|rfl|kernel_rfl
   ·cases h
 ·split at h
  ·rename_i e;subst e
   split at h
   ·rename_i e;cases h;rcases e with e|e<;>subst e<;>first|rfl|kernel_rfl
   ·split at h
    ·rename_i e;cases h;rcases e with e|e|e|e<;>subst e<;>first|rfl|kernel_rfl
    ·cases h
  ·split at h
   ·rename_i e;subst e
    split at h
    ·rename_i e;subst e;cases h;first|rfl|kernel_rfl
    ·split at h
     ·rename_i e;cases h;rcases e with e|e|e|e|e<;>subst e<;>first|rfl|kernel_rfl
     ·cases h
   ·split at h
    ·rename_i e;subst e
     split at h
     ·rename_i e;subst e;cases h;first|rfl|kernel_rfl
     ·split at h
      ·rename_i e;cases h;rcases e with e|e|e|e|e<;>subst e<;>first|rfl|kernel_rfl
      ·cases h
    ·split at h
     ·rename_i e;subst e
      split at h
      ·rename_i e;subst e;cases h;first|rfl|kernel_rfl
      ·split at h
       ·rename_i e;cases h;rcases e with e|e|e|e|e<;>subst e<;>first|rfl|kernel_rfl
       ·cases h
     ·split at h
      ·rename_i e;subst e
       split at h
       ·rename_i e;subst e;cases h;first|rfl|kernel_rfl
       ·split at h
        ·rename_i e;cases h;rcases e with e|e|e|e|e<;>subst e<;>first|rfl|kernel_rfl
        ·cases h
      ·split at h
       ·rename_i e;subst e
        split at h
        ·rename_i e;cases h;rcases e with e|e|e|e|e|e<;>subst e<;>first|rfl|kernel_rfl
        ·cases h
       ·cases h
end
def spM (K:Frag) (mg:Str->Option Value) (m:List PV->Mo PV):Sp:=fun vs H Q E=>∃xs st ρ,Rs K mg ρ H xs vs/\StR K mg ρ H st/\Out K mg ρ H (m xs st) (gV K mg Q) E
section
variable (P:Program) (w:World) (K:Frag) (mg:Str->Option Value) (base:Heap)
def FOk (x:Str) (k:Nat) (m:List PV->Mo PV):Prop:=∃f fd ps,mg x=some (.ref f)/\keepIn K (.ref f)=true/\Binds K fd ps []/\FnOk P w K mg base (CXe P w) k f fd ps (spM K mg m)
def MOk (c name:Str) (k:Nat) (m:List PV->Mo PV):Prop:=∃C f fd ps,mg c=some (.ref C)/\Cls K C/\Meth K C name f/\Binds K fd ps []/\FnOk P w K mg base (CXe P w) k f fd ps (spM K mg m)
def NOk (c:Str) (k:Nat) (m:List PV->Mo PV):Prop:=∃C f fd ps,mg c=some (.ref C)/\Mk K C f/\Binds K fd ps []/\FnOk P w K mg base (CXe P w) k f fd ps (spM K mg m)
def XOk (c fld:Str):Prop:=∃C f fd,mg c=some (.ref C)/\ExMk K C f/\FnOk P w K mg base (CXe P w) 1 f fd ["self", fld] (zeG C fld)/\Binds K fd ["self", fld] []
end
section
variable {X:Cx}{Er:XK}{K:Frag}{mg:Str->Option Value}{a b c e o:Expr}{es:List Expr}{pos p apos:Pos}{fa fb fc fo:zc->Mo PV}{fs:zc->Mo (List PV)}{k:Nat}{x:Str}{m:List PV->Mo PV}
theorem zN (C:FOk X.prog X.w X.K X.mg X.base x k m) (hr:Room k X.A) (ht:yO X Er) (ha:MA X Er (e::es) fs) (hg:Gl X x:=by rfl) (hdb:(x==("__debug__" : Str))=false:=by decide)
  (he:starEach (e::es) X.env=(false,eval e X.env)::starEach es X.env:=by rfl) (hpl:(backTo pos (starEach es X.env)).any (·.1)=false:=by rfl):ME X Er (.Call (.Name x p) (e::es) [] pos) (zl m fs):=by
 obtain ⟨f,fd,ps,hm,hk,hb,F⟩:=C
 exact PE.weak (zi4 F hr hg hm hk hb .nil (wm ht) ha hdb he hpl) fun U H Q ⟨env,st,ρ,re,rs,h⟩=>⟨env,st,ρ,re,rs,h.then fun ad H1 xs st1 e1 s1 k vs rv=>by
  show spM X.K X.mg m (vs++[]) H1 Q Er
  rw [List.append_nil]
  exact ⟨xs,st1,ad,rv,s1,k⟩⟩
theorem za4 (C:FOk X.prog X.w X.K X.mg X.base x k m) (hr:Room k X.A) (ht:yO X Er) (hg:Gl X x:=by rfl) (hdb:(x==("__debug__" : Str))=false:=by decide):ME X Er (.Call (.Name x p) [] [] pos) (zl m zj):=by
 obtain ⟨f,fd,ps,hm,hk,hb,F⟩:=C
 exact PE.weak (zi5 F hr hg hm hk hb .nil (wm ht) hdb) fun U H Q ⟨env,st,ρ,re,rs,h⟩=>⟨[],st,ρ,rfl,rs,h⟩
def zcj (tab:Str->Option (List PV->Mo PV)) (ff:zc->Mo PV) (fs:zc->Mo (List PV)):zc->Mo PV:=fun env st=>(ff env st).bind fun f st1=>match f with
 | .fn x=>match tab x with
  | some m=>(fs env st1).bind m
  | none=>.stuck
 | _=>.stuck
theorem zlj {tab:Str->Option (List PV->Mo PV)}{ff:zc->Mo PV}(ht:∀y m,tab y=some m->FOk X.prog X.w X.K X.mg X.base y k m) (hf:ME X Er (.Name x p) ff) (hr:Room k X.A) (hT:yO X Er) (ha:MA X Er (e::es) fs)
  (he:starEach (e::es) X.env=(false,eval e X.env)::starEach es X.env:=by rfl) (hpl:(backTo pos (starEach es X.env)).any (·.1)=false:=by rfl):ME X Er (.Call (.Name x p) (e::es) [] pos) (zcj tab ff fs) :=
 PE.weak (zkv (CX:=CXe X.prog X.w) hf hr (wm hT) ha he hpl) fun U H Q ⟨env,st,ρ,re,rs,h⟩=>⟨env,st,ρ,re,rs,h.then fun ad H1 f st1 e1 s1 h1 v rv=>by
  cases f with
  | fn y =>
   cases hy:tab y with
   | none=>simp only [hy] at h1;exact False.elim h1
   | some m =>
    simp only [hy] at h1
    obtain ⟨f,rfl,hm⟩:=rv
    obtain ⟨f',fd,ps,hm',hk,hb,F⟩:=ht y m hy
    rw [hm] at hm'
    cases hm'
    exact ⟨f,_,rfl,⟨fd,ps,F,hk,hb⟩,env,st1,ad,re.ext e1,s1,Out.then h1 fun al H2 xs st2 e2 s2 h2 vs rvs=>⟨xs,st2,al,rvs,s2,h2⟩⟩
  | _=>exact False.elim h1⟩
theorem wv {ρ:List Addr}{H:Hp}{f:Str}:∀{ks:List Str}{xs:List PV}{vs:List V}{x:PV},Rs K mg ρ H xs vs->(ks.zip xs).lookup f=some x->∃v,(ks.zip vs).lookup f=some v/\R K mg ρ H x v
 | [],_,_,_,_,h=>by simp at h
 | k::ks,[],_,_,_,h=>by simp at h
 | k::ks,y::xs,_,x,r,h=>by
  obtain ⟨v,r',rfl,h1,h2⟩:=r
  simp only [List.zip_cons_cons,List.lookup_cons] at h ⊢
  split at h
  ·cases h;exact ⟨v,rfl,h1⟩
  ·exact wv h2 h
theorem za5 {f:Str}{β:Type}:∀{ks:List Str}{vs:List β},f∉ks->(ks.zip vs).lookup f=none
 | [],_,_=>by simp
 | k::ks,[],_=>by simp
 | k::ks,v::vs,h=>by
  simp only [List.mem_cons,not_or] at h
  simp only [List.zip_cons_cons,List.lookup_cons]
  have:(f==k)=false:=by simpa using h.1
  rw [this]
  exact za5 h.2
def zlk (X:Cx) (name:Str) (k:Nat) (E:XK) (ta:TE) (t:TA):TE:=fun U H Q=>ta U H fun x H1=>∃a C dx fs f fd ps sp,x=.ref a/\H1 a=some (.ins C dx fs)/\fs.lookup name=none/\Cls X.K C/\Meth X.K C name f/\Binds X.K fd ps []/\FnOk X.prog X.w X.K X.mg X.base (CXe X.prog X.w) k f fd ps sp /\
 t U H1 fun vs H2=>sp (x::vs) H2 Q E
theorem zll {pl:Sem Bool}{name:Str}{ta:TE}{E:XK}(he:PE X o ta) (hr:Room k X.A) (hx:Passes (CXe X.prog X.w) X E)
  (ht:eval (.Call (.Attribute o name apos) [] [] pos) X.env=(do
   let ov <-eval o X.env
   standAt apos.atName
   let (f,first) <-holding [ov] (getMethod ov name pl)
   callWith pos f first (backTo pos (starEach [] X.env)) (backToKw pos (keywordEach [] X.env))):=by rfl) :
  PE X (.Call (.Attribute o name apos) [] [] pos) (zlk X name k E ta zbV):=by
 intro pins s U H Q I h
 refine PySem.W.methodCall_KW (pl:=pl) (thn (he pins s U H _ I h) fun u s1 ⟨x,H1,I1,rx,a,C,dx,fs,f,fd,ps,sp,ex,ea,l,c,hm,hb,F,q⟩=>?_) ht
 subst ex
 obtain rfl:u=Value.ref a:=rx
 refine zdX I1 ea c hm l ?_
 exact PySem.W.callWith_K0 (first:=[.ref a]) I1.kIn hm.kp (zaK (us:=[.ref a]) (vs:=[.ref a]) F hr hb .nil hx I1 (.cons rfl .nil) (by rw [List.append_nil];exact q))
def methAt (name:Str) (tab:Str->Option (List PV->Mo PV)) (o:PV) (st:Sto) (k:Nat->(List PV->Mo PV)->Res PV):Res PV:=match o with
 | .ref n=>yH st n fun c ks _=>if name∈ks then .stuck else match tab c with
  | some m=>k n m
  | none=>.stuck
 | _=>.stuck
def za6 (name:Str) (tab:Str->Option (List PV->Mo PV)) (fo:zc->Mo PV) (fs:zc->Mo (List PV)):zc->Mo PV:=fun env st=>(fo env st).bind fun o st1=>methAt name tab o st1 fun n m=>(fs env st1).bind fun ys st2=>m (.ref n::ys) st2
theorem zeZ {name:Str}{tab:Str->Option (List PV->Mo PV)}{o:PV}{st:Sto}{kk:Nat->(List PV->Mo PV)->Res PV}{ρ:List Addr}{H:Hp}{good}(h:Out K mg ρ H (methAt name tab o st kk) good Er) :
  ∃n c ks xs m,o=.ref n/\st[n]?=some (.ins c ks xs)/\name∉ks/\tab c=some m/\Out K mg ρ H (kk n m) good Er:=by
 cases o with
 | ref n =>
  obtain ⟨c,ks,xs,e,h⟩:=zeO h
  split at h
  ·exact False.elim h
  ·rename_i hn
   cases hc:tab c with
   | none=>rw [hc] at h;exact False.elim h
   | some m=>rw [hc] at h;exact ⟨n,c,ks,xs,m,rfl,e,hn,hc,h⟩
 | _=>exact False.elim h
theorem ze0 {pl:Sem Bool}{name:Str}{tab:Str->Option (List PV->Mo PV)}(hT:∀c m,tab c=some m->MOk X.prog X.w X.K X.mg X.base c name k m) (ho:ME X Er o fo) (hr:Room k X.A) (ht:yO X Er)
  (hev:eval (.Call (.Attribute o name apos) [] [] pos) X.env=(do
   let ov <-eval o X.env
   standAt apos.atName
   let (f,first) <-holding [ov] (getMethod ov name pl)
   callWith pos f first (backTo pos (starEach [] X.env)) (backToKw pos (keywordEach [] X.env))):=by rfl) :
  ME X Er (.Call (.Attribute o name apos) [] [] pos) (za6 name tab fo zj) :=
 PE.weak (zll (pl:=pl) ho hr (wm ht) hev) fun U H Q ⟨env,st,ρ,re,rs,h⟩=>⟨env,st,ρ,re,rs,h.then fun ad H1 x st1 e1 s1 h1 v rv=>by
  obtain ⟨n,c,ks,xs,m,rfl,hn,hk,hc,h1⟩:=zeZ h1
  obtain ⟨C,f,fd,ps,hC,cl,hm,hb,F⟩:=hT c m hc
  obtain ⟨p,rfl,hp⟩:=rv
  obtain ⟨C',dx,vs,hC',hH,hR,hl⟩:=s1.addr hn hp
  rw [hC] at hC'
  cases hC'
  exact ⟨p,C,dx,_,f,fd,ps,_,rfl,hH,za5 hk,cl,hm,hb,F,⟨[.ref n],st1,ad,⟨_,_,rfl,⟨p,rfl,hp⟩,rfl⟩,s1,h1⟩⟩⟩
def newI (c:Str) (m:List PV->Mo PV) (ys:List PV):Mo PV:=fun st=>(m (.ref st.length::ys) (st++[.ins c [] []])).bind fun r st2=>if isNon r=true then .ok (.ref st.length) st2 else .stuck
theorem zlm {x:PV}(h:isNon x=true):x=.non:=by cases x<;>first|rfl|cases h
theorem zln {cn:Str}{C f:Addr}{ρ:List Addr}{H:Hp}{st:Sto}{ys:List PV}{vs:List V}{Q:VK}(hC:mg cn=some (.ref C)) (s:StR K mg ρ H st) (r:Rs K mg ρ H ys vs) (h:Out K mg ρ H (newI cn m ys st) (gV K mg Q) Er) :
  ∀x dx,H x=none->H dx=none->dx≠x->spM K mg m (.ref x::vs) (upd (upd H dx (.own x)) x (.ins C dx [])) (fun v H2=>v=.non/\Q (.ref x) H2) Er:=fun x dx hx hdx ne=>by
 have hx':upd H dx (.own x) x=none:=by rw [zp (Ne.symm ne)];exact hx
 have s1:=s.new (o:=.own x) hdx
 have e1:Ext ρ H ρ (upd H dx (.own x)):=Ext.new hdx
 have e2:Ext ρ H (ρ++[x]) (upd (upd H dx (.own x)) x (.ins C dx [])):=e1.trans (Ext.push hx')
 have s2:StR K mg (ρ++[x]) (upd (upd H dx (.own x)) x (.ins C dx [])) (st++[.ins cn [] []]):=s1.push hx' ⟨C,dx,[],hC,zY,rfl,rfl⟩
 have gx:(ρ++[x])[st.length]?=some x:=by rw [<-s.len];simp
 refine ⟨.ref st.length::ys,_,ρ++[x],⟨_,_,rfl,⟨x,rfl,gx⟩,Rs.ext e2 ys r⟩,s2,Out.then (Out.ext h e2) fun am H3 r3 st3 e3 s3 h3 v rv=>?_⟩
 obtain ⟨hn,h3⟩:=Out.ifp h3
 obtain rfl:=zlm hn
 exact ⟨rv,h3.now s3 _ ⟨x,rfl,e3.get gx⟩⟩
theorem zlo {cn:Str} (C:NOk X.prog X.w X.K X.mg X.base cn k m) (hr:Room (k+1) X.A) (ht:yO X Er) (ha:MA X Er (e::es) fs) (hg:Gl X cn:=by rfl) (hdb:(cn==("__debug__" : Str))=false:=by decide)
  (he:starEach (e::es) X.env=(false,eval e X.env)::starEach es X.env:=by rfl) (hpl:(backTo pos (starEach es X.env)).any (·.1)=false:=by rfl):ME X Er (.Call (.Name cn p) (e::es) [] pos) (zl (newI cn m) fs):=by
 obtain ⟨C,f,fd,ps,hm,M,hb,F⟩:=C
 exact PE.weak (zi7 M F hr hg hm hb .nil (wm ht) ha hdb he hpl) fun U H Q ⟨env,st,ρ,re,rs,h⟩=>⟨env,st,ρ,re,rs,h.then fun ad H1 xs st1 e1 s1 k vs rv x dx hx hdx ne=>by
  rw [List.append_nil]
  exact zln (f:=f) hm s1 rv k x dx hx hdx ne⟩
def fldAt (f:Str) (ins exc:Str->Bool):PV->Mo PV
 | .ref n,st=>yH st n fun c ks xs=>if ins c=true then optR ((ks.zip xs).lookup f) st else .stuck
 | .exo c ks xs,st=>if exc c=true then optR ((ks.zip xs).lookup f) st else .stuck
 | _,_=>.stuck
structure FldF (K:Frag) (mg:Str->Option Value) (f:Str) (ins exc:Str->Bool):Prop where
 i:∀c,ins c=true->∃C,mg c=some (.ref C)/\Cls K C/\NoAttr K C f
 x:∀c,exc c=true->∃C,mg c=some (.ref C)/\ExGa K C/\hasDictIn K C=true/\findIn K (.ref C) f=some none
def zlp (K:Frag) (ta:TE) (f:Str):TE:=fun U H Q=>ta U H fun x H1=>(∃a C dx fs v,x=.ref a/\H1 a=some (.ins C dx fs)/\Cls K C/\NoAttr K C f/\fs.lookup f=some v/\Q v H1) \/
 ∃a C d fs v,x=.ref a/\H1 a=some (exC C (some d) a)/\H1 d=some (.xd fs)/\ExGa K C/\hasDictIn K C=true/\findIn K (.ref C) f=some none/\fs.lookup f=some v/\Q v H1
theorem zlq {f:Str}{ta:TE}(he:PE X e ta) (hb:attributeBase e f X.env (eval e X.env)=eval e X.env):PE X (.Attribute e f pos) (zlp X.K ta f):=by
 intro pins s U H Q I h
 refine ziT hb (thn (he pins s U H _ I h) fun u s1 ⟨x,H1,I1,rx,h1⟩=>?_)
 rcases h1 with ⟨a,C,dx,fs,v,ex,ea,c,n,l,q⟩|⟨a,C,dx,fs,v,ex,ea,ed,g,hh,no,l,q⟩
 ·subst ex
  obtain rfl:u=Value.ref a:=rx
  exact ziR I1 ea c n l fun u' s2 I2 ru=>⟨v,H1,I2,ru,q⟩
 ·subst ex
  obtain rfl:u=Value.ref a:=rx
  exact zkB I1 ea ed g hh no l fun u' s2 I2 ru=>⟨v,H1,I2,ru,q⟩
theorem je {f:Str}{ins exc:Str->Bool}(F:FldF X.K X.mg f ins exc) (he:ME X Er e fa) (hb:attributeBase e f X.env (eval e X.env)=eval e X.env:=by rfl):ME X Er (.Attribute e f pos) (z0 (fldAt f ins exc) fa) :=
 PE.weak (zlq he hb) fun U H Q ⟨env,st,ρ,re,rs,h⟩=>⟨env,st,ρ,re,rs,h.then fun ad H1 x st1 e1 s1 h1 v rv=>by
  cases x with
  | ref n =>
   obtain ⟨c,ks,xs,hn,h1⟩:=zeO h1
   obtain ⟨hc,h1⟩:=Out.ifp h1
   obtain ⟨y,hy,h1⟩:=jP h1
   obtain ⟨p,rfl,hp⟩:=rv
   obtain ⟨C',dx,vs,hC',hH,hR,hl⟩:=s1.addr hn hp
   obtain ⟨C,hC,cl,na⟩:=F.i c hc
   rw [hC] at hC'
   cases hC'
   obtain ⟨v,hv,rv⟩:=wv hR hy
   exact .inl ⟨p,_,dx,_,v,rfl,hH,cl,na,hv,h1.now s1 _ rv⟩
  | exo c ks xs =>
   obtain ⟨hc,h1⟩:=Out.ifp h1
   obtain ⟨y,hy,h1⟩:=jP h1
   obtain ⟨a,C',d,vs,rfl,hC',hH,hd,hR,hl⟩:=rv
   obtain ⟨C,hC,g,hh,no⟩:=F.x c hc
   rw [hC] at hC'
   cases hC'
   obtain ⟨v,hv,rv⟩:=wv hR hy
   exact .inr ⟨a,_,d,_,v,rfl,hH,hd,g,hh,no,hv,h1.now s1 _ rv⟩
  | _=>exact False.elim h1⟩
def soCls:Option SO->Option (String ⊕ (Bool×Str))
 | some (.lst _)=>some (.inl "list")
 | some (.dic _ _)=>some (.inl "dict")
 | some (.ins c _ _)=>some (.inr (false,c))
 | some (.fdi _ _)=>none
 | none=>none
def clsP (st:Sto):PV->Option (String ⊕ (Bool×Str))
 | .non=>some (.inl "NoneType")
 | .bl _=>some (.inl "bool")
 | .int _=>some (.inl "int")
 | .str _=>some (.inl "str")
 | .tup _=>some (.inl "tuple")
 | .ref n=>soCls st[n]?
 | .exo c _ _=>some (.inr (true,c))
 | _=>none
def optB (o:Option Bool):Mo PV:=fun st=>match o with
 | some b=>.ok (.bl b) st
 | none=>.stuck
theorem za7 {ρ:List Addr}{H:Hp}{o:Option Bool}{st:Sto}{good}(h:Out K mg ρ H (optB o st) good Er):∃b,o=some b/\Out K mg ρ H (.ok (.bl b) st) good Er:=by
 cases o with
 | some x=>exact ⟨x,rfl,h⟩
 | none=>exact False.elim h
structure IsT where
 isx:Str->Bool
 sub:Str->Str->Option Bool
 subT:Str->String->Option Bool
 tyC:String->Str->Option Bool
def isiA (t:IsT) (st:Sto):PV->Option (String ⊕ (Bool×Str))->Mo PV
 | .ty n,some (.inl T),st=>optB (tyb T n) st
 | .ty n,some (.inr (f,c)),st=>if t.isx c=f then optB (t.subT c n) st else .stuck
 | .fn B,some (.inl T),st=>optB (t.tyC T B) st
 | .fn B,some (.inr (f,c)),st=>if t.isx c=f then optB (t.sub c B) st else .stuck
 | _,_,_=>.stuck
def zK (t:IsT):List PV->Mo PV
 | [x,y],st=>isiA t st y (clsP st x) st
 | _,_=>.stuck
structure InIs (K:Frag) (C:Addr):Prop where
 cl:Cls K C
 ha:findIn K (.ref C) "__class__" = some (some (.builtin "object.__class__"))
 hn:specialIn K (.builtin "object.__class__") "__get__" = some (some (.builtin "getset_descriptor.__get__"))
 tk:takesIn K (.builtin "object.__class__")=some true
 hm:mroIn K C (.type "object")=some true
structure IsF (K:Frag) (mg:Str->Option Value) (t:IsT):Prop where
 s:∀c B b,t.sub c B=some b->∃C D,mg c=some (.ref C)/\mg B=some (.ref D)/\kitOne K (.ref C) (.ref D)=some b
 tt:∀c n b,t.subT c n=some b->∃C,mg c=some (.ref C)/\kitOne K (.ref C) (.type n)=some b
 u:∀T B b,t.tyC T B=some b->∃D,mg B=some (.ref D)/\kitOne K (.type T) (.ref D)=some b
 x:∀c C,t.isx c=true->mg c=some (.ref C)->((∃B b,t.sub c B=some b)\/∃n b,t.subT c n=some b)->ExIs K C
 i:∀c C,t.isx c=false->mg c=some (.ref C)->((∃B b,t.sub c B=some b)\/∃n b,t.subT c n=some b)->InIs K C
inductive TyA (K:Frag) (H:Hp):V->Value->Prop where
 | of {v:V} {t:Value} (h:TyOf K H v t):TyA K H v t
 | tup {a:Addr} {vs:List V} (h:SqT K H a vs):TyA K H (.ref a) (.type "tuple")
 | exc {a C d:Addr} {fs:List (Str×V)} (ha:H a=some (exC C (some d) a)) (hd:H d=some (.xd fs)) (k:ExIs K C):TyA K H (.ref a) (.ref C)
theorem zlr {pins:List (Addr×Obj)}{U:L2.St}{H:Hp}{s:Shared}{v:V}{u t c:Value}{b:Bool}{Q:Value->Shared->Prop}{A:Around}{E:Value->Shared->Prop}(I:Inv X pins U H s) (r:RelV v u) (ty:TyA X.K H v t) (e:kitOne X.K t c=some b) (h:∀tk,Q (.bool b) { s with toks:=tk }) :
  wpAny (model X.prog X.w) A (call (.builtin "isinstance") [u,c]) Q E s:=by
 cases ty with
 | of ty=>exact ziV I r ty e h
 | @tup a vs hq =>
  obtain rfl:u=Value.ref a:=r
  obtain ⟨its,_,p,_⟩:=I.tuple hq
  obtain ⟨o,h1,h2,_⟩:=p
  exact PySem.W.kia_one PySem.W.kitx_tuple I.kIn ⟨o,h1,h2⟩ e (fun z=>nomatch z) h
 | @exc a C d fs ha hd k =>
  obtain rfl:u=Value.ref a:=r
  exact zkC I ha hd k e h
theorem zls:CallR X (.builtin "isinstance") (fun xs H Q=>∃v w t c b,xs=[v,w]/\TyA X.K H v t/\RelV w c/\(∀c',RelV w c'->c'=c)/\kitOne X.K t c=some b/\Q (.bl b) H):=by
 intro pins s U H xs us Q I r h
 obtain ⟨v,w,t,c,b,rfl,ty,rw,un,e,q⟩:=h
 obtain ⟨u,w',rfl,ru,rw'⟩:=zdS r
 obtain rfl:=un w' rw'
 exact zlr I ru ty e fun tk=>⟨.bl b,H,I.tok _,rfl,q⟩
theorem ze1 {ρ:List Addr}{H:Hp}{st:Sto}{x:PV}{v:V}{T:String}(s:StR K mg ρ H st) (r:R K mg ρ H x v) (h:clsP st x=some (.inl T)):TyA K H v (.type T):=by
 cases x with
 | non=>cases h;cases r;exact .of .non
 | bl b=>cases h;cases r;exact .of (.bl b)
 | int i=>cases h;cases r;exact .of (.int i)
 | str z=>cases h;cases r;exact .of (.str z)
 | tup xs=>cases h;obtain ⟨a,vs,rfl,h1,_⟩:=r;exact .tup h1
 | frl xs=>cases h
 | ref n =>
  obtain ⟨a,rfl,ha⟩:=r
  have h:soCls st[n]?=some (.inl T):=h
  cases e:st[n]? with
  | none=>rw [e] at h;cases h
  | some so =>
   rw [e] at h
   cases so with
   | lst xs=>cases h;obtain ⟨vs,h1,_⟩:=s.addr e ha;exact .of (.lst h1)
   | dic ks xs=>cases h;obtain ⟨vs,h1,_⟩:=s.addr e ha;exact .of (.dK h1)
   | ins c ks xs=>cases h
   | fdi ks xs=>cases h
 | ty _=>cases h
 | fn _=>cases h
 | kd _ _=>cases h
 | exo _ _ _=>cases h
theorem ze2 {ρ:List Addr}{H:Hp}{st:Sto}{x:PV}{v:V}{f:Bool}{c:Str}(hx:∀C,f=true->mg c=some (.ref C)->ExIs K C) (hi:∀C,f=false->mg c=some (.ref C)->InIs K C) (s:StR K mg ρ H st) (r:R K mg ρ H x v) (h:clsP st x=some (.inr (f,c))):∃C,mg c=some (.ref C)/\TyA K H v (.ref C):=by
 cases x with
 | ref n =>
  obtain ⟨a,rfl,ha⟩:=r
  have h:soCls st[n]?=some (.inr (f,c)):=h
  cases e:st[n]? with
  | none=>rw [e] at h;cases h
  | some so =>
   rw [e] at h
   cases so with
   | lst xs=>cases h
   | dic ks xs=>cases h
   | fdi ks xs=>cases h
   | ins c' ks xs =>
    cases h
    obtain ⟨C,dx,vs,hC,hH,_⟩:=s.addr e ha
    have q:=hi C rfl hC
    exact ⟨C,hC,.of (.ins hH q.cl q.ha q.hn q.tk q.hm)⟩
 | exo c' ks xs =>
  cases h
  obtain ⟨a,C,d,vs,rfl,hC,hH,hd,_⟩:=r
  exact ⟨C,hC,.exc hH hd (hx C rfl hC)⟩
 | non=>cases h
 | bl _=>cases h
 | int _=>cases h
 | str _=>cases h
 | tup _=>cases h
 | frl _=>cases h
 | ty _=>cases h
 | fn _=>cases h
 | kd _ _=>cases h
theorem yc {t:IsT} (F:IsF X.K X.mg t):BltOk X (.builtin "isinstance") (zK t):=⟨_,zls,fun ρ H st xs vs Q E s r h=>by
 match xs,r,h with
 | [x,y],r,h =>
  obtain ⟨v,w,rfl,rx,ry⟩:=Rs.two r
  have h:Out X.K X.mg ρ H (isiA t st y (clsP st x) st) (gV X.K X.mg Q) E:=h
  cases hc:clsP st x with
  | none=>rw [hc] at h;cases y<;>exact False.elim h
  | some cc =>
   rw [hc] at h
   cases cc with
   | inl T =>
    cases y with
    | ty n =>
     cases ry
     obtain ⟨b,hb,h⟩:=za7 h
     exact ⟨v,_,_,_,b,rfl,ze1 s rx hc,rfl,fun c' h=>h,zli X.K hb,h.now s _ rfl⟩
    | fn B =>
     obtain ⟨D,rfl,hD⟩:=ry
     obtain ⟨b,hb,h⟩:=za7 h
     obtain ⟨D',hD',k⟩:=F.u T B b hb
     rw [hD] at hD'
     cases hD'
     exact ⟨v,_,_,_,b,rfl,ze1 s rx hc,rfl,fun c' h=>h,k,h.now s _ rfl⟩
    | _=>exact False.elim h
   | inr fc =>
    obtain ⟨f,c⟩:=fc
    cases y with
    | ty n =>
     cases ry
     obtain ⟨hf,h⟩:=Out.ifp h
     obtain ⟨b,hb,h⟩:=za7 h
     obtain ⟨C,hC,k⟩:=F.tt c n b hb
     obtain ⟨C',hC',ty⟩:=ze2 (fun C e hC=>F.x c C (hf.trans e) hC (.inr ⟨n,b,hb⟩)) (fun C e hC=>F.i c C (hf.trans e) hC (.inr ⟨n,b,hb⟩)) s rx hc
     rw [hC] at hC'
     cases hC'
     exact ⟨v,_,_,_,b,rfl,ty,rfl,fun c' h=>h,k,h.now s _ rfl⟩
    | fn B =>
     obtain ⟨D,rfl,hD⟩:=ry
     obtain ⟨hf,h⟩:=Out.ifp h
     obtain ⟨b,hb,h⟩:=za7 h
     obtain ⟨C,D',hC,hD',k⟩:=F.s c B b hb
     rw [hD] at hD'
     cases hD'
     obtain ⟨C',hC',ty⟩:=ze2 (fun C e hC=>F.x c C (hf.trans e) hC (.inl ⟨B,b,hb⟩)) (fun C e hC=>F.i c C (hf.trans e) hC (.inl ⟨B,b,hb⟩)) s rx hc
     rw [hC] at hC'
     cases hC'
     exact ⟨v,_,_,_,b,rfl,ty,rfl,fun c' h=>h,k,h.now s _ rfl⟩
    | _=>exact False.elim h
 | [],r,h=>exact False.elim h
 | [_],r,h=>exact False.elim h
 | _::_::_::_,r,h=>exact False.elim h⟩
end
section
variable {X:Cx}{Er:XK}{K:Frag}{mg:Str->Option Value}{a b c e o:Expr}{es:List Expr}{st:Stmt}{sts:List Stmt}{pos p apos pos':Pos}{fa fb fc fo:zc->Mo PV}{fs:zc->Mo (List PV)}{k:Nat}{x:Str}{m:List PV->Mo PV}
variable {g g' gb:zc->Mo Fl}{ga:zc->Mo Bool}
theorem Out.fl {ρ:List Addr}{H:Hp}{st:Sto}{D:Ends}{fl:Fl}{E:XK}(h:Out K mg ρ H (.ok fl st) (gS K mg D) E) (s:StR K mg ρ H st):gS K mg D ρ H fl st:=h.now s
def zJ:zc->Mo Fl:=fun env st=>.ok (.nx env) st
def flowOn (g:zc->Mo Fl):Fl->Mo Fl
 | .nx env,st=>g env st
 | fl,st=>.ok fl st
def zq (g g':zc->Mo Fl):zc->Mo Fl:=fun env st=>(g env st).bind (flowOn g')
theorem zP:MSs X Er [] zJ:=PSs.weak zh0 fun D U H ⟨env,st,ρ,re,rs,h⟩=>h.now rs U re
theorem zx (h1:MS X Er st g) (h2:MSs X Er sts g'):MSs X Er (st::sts) (zq g g') :=
 PSs.weak (zh1 h1 h2) fun D U H ⟨env,st,ρ,re,rs,h⟩=>⟨env,st,ρ,re,rs,h.then fun ad H1 fl st1 e1 s1 h1=>by
  cases fl with
  | nx env1=>exact fun aq re1=>⟨env1,st1,ad,re1,s1,h1⟩
  | rt v=>exact Out.fl (D:=D) (fl:=.rt v) (E:=Er) h1 s1
  | bk env1=>exact Out.fl (D:=D) (fl:=.bk env1) (E:=Er) h1 s1
  | ct env1=>exact Out.fl (D:=D) (fl:=.ct env1) (E:=Er) h1 s1⟩
theorem zt (h1:MS X Er st g):MSs X Er [st] g:=zbQ h1
def zU (i:Nat) (f:zc->Mo PV):zc->Mo Fl:=fun env st=>(f env st).bind fun x st1=>.ok (.nx (env.set i (some x))) st1
theorem yi (i:Nat) {x:Str}(he:ME X Er e fa) (hN:X.N.Nodup) (hi:X.N[i]?=some x:=by rfl) (hx:Loc X.env.scope x:=by first|exact Or.inl rfl|exact Or.inr rfl) (hs:swapsWith e (some (.Name x pos')) pos.line X.env=pure false:=by rfl)
  (hf:X.fn x=true\/X.env.scope.names.lookup x=some .local:=by first|exact .inl rfl|exact .inr rfl|assumption):MS X Er (.Assign [.Name x pos'] e pos) (zU i fa) :=
 PS.weak (zig hN hi hx he hs hf) fun D U H ⟨env,st,ρ,re,rs,h⟩=>⟨env,st,ρ,re,rs,h.then fun ad H1 x st1 e1 s1 h1 v rv=>h1.now s1 _ ((re.ext e1).set i rv)⟩
def w9 (f:zc->Mo PV):zc->Mo Fl:=fun env st=>(f env st).bind fun _ st1=>.ok (.nx env) st1
theorem ze3 (he:ME X Er e fa) (hs:swapsWith e none pos.line X.env=pure false:=by rfl):MS X Er (.Expr e pos) (w9 fa) :=
 PS.weak (zh3 he hs) fun D U H ⟨env,st,ρ,re,rs,h⟩=>⟨env,st,ρ,re,rs,h.then fun ad H1 x st1 e1 s1 h1 v rv=>h1.now s1 _ (re.ext e1)⟩
def zC (f:zc->Mo PV):zc->Mo Fl:=fun env st=>(f env st).bind fun x st1=>.ok (.rt x) st1
theorem zD (he:ME X Er e fa):MS X Er (.Return (some e) pos) (zC fa) :=
 PS.weak (zh5 he) fun D U H ⟨env,st,ρ,re,rs,h⟩=>⟨env,st,ρ,re,rs,h.then fun ad H1 x st1 e1 s1 h1 v rv=>h1.now s1 _ rv⟩
def zH (t:zc->Mo Bool) (g g':zc->Mo Fl):zc->Mo Fl:=fun env st=>(t env st).bind fun c st1=>if c=true then g env st1 else g' env st1
theorem zQ {A B:List Stmt}(hc:MT X Er c ga) (ha:MSs X Er A g) (hb:MSs X Er B g'):MS X Er (.If c A B pos) (zH ga g g') :=
 PS.weak (zh7 hc ha hb) fun D U H ⟨env,st,ρ,re,rs,h⟩=>⟨env,st,ρ,re,rs,h.then fun ad H1 k st1 e1 s1 h1=>by
  cases k with
  | true=>exact ⟨env,st1,ad,re.ext e1,s1,h1⟩
  | false=>exact ⟨env,st1,ad,re.ext e1,s1,h1⟩⟩
def ipAdd:PV->PV->Mo PV
 | .int i,.int j,st=>.ok (.int (i+j)) st
 | _,_,_=>.stuck
def zaa (i:Nat) (op:PV->PV->Mo PV) (f:zc->Mo PV):zc->Mo Fl:=fun env st=>(zd i env st).bind fun x st0=>(f env st0).bind fun y st1=>(op x y st1).bind fun z st2=>.ok (.nx (env.set i (some z))) st2
def IpOk (X:Cx) (o:Operator) (op:PV->PV->Mo PV):Prop:=∃r,PIp X o r/\OpM X.K X.mg r op
theorem zlt:IpOk X .Add ipAdd:=⟨_,zij,by
 intro ρ H st x y v w Q E s rx ry h
 cases x with
 | int i =>
  cases y with
  | int j=>cases rx;cases ry;exact ⟨i,j,rfl,rfl,Out.now (x:=PV.int (i+j)) h s _ rfl⟩
  | _=>exact False.elim h
 | _=>exact False.elim h⟩
theorem zlu (i:Nat) {x:Str}{o:Operator}{op:PV->PV->Mo PV}(ho:IpOk X o op) (he:ME X Er e fa) (hN:X.N.Nodup) (hi:X.N[i]?=some x:=by rfl) (hx:Loc X.env.scope x:=by first|exact Or.inl rfl|exact Or.inr rfl)
  (hf:X.fn x=true\/X.env.scope.names.lookup x=some .local:=by first|exact .inl rfl|exact .inr rfl|assumption):MS X Er (.AugAssign (.Name x pos') o e pos) (zaa i op fa):=by
 obtain ⟨r,h1,h2⟩:=ho
 refine PS.weak (zii hN hi hx he h1 hf) fun D U H ⟨env,st,ρ,re,rs,h⟩=>?_
 unfold zaa zd at h
 cases hx:env[i]? with
 | none=>simp only [hx] at h;exact False.elim h
 | some q =>
  cases q with
  | none=>simp only [hx] at h;exact False.elim h
  | some x0 =>
   simp only [hx] at h
   obtain ⟨v,hv,rv⟩:=re.at_ i x0 hx
   exact ⟨v,hv,env,st,ρ,re,rs,Out.then (f:=fun y st1=>(op x0 y st1).bind fun z st2=>Res.ok (Fl.nx (env.set i (some z))) st2) (good:=gS X.K X.mg D) h fun ad H1 y st1 e1 s1 k1 w rw=>h2 ad H1 st1 x0 y v w _ Er s1 (R.ext e1 x0 rv) rw (k1.then fun al H2 z st2 e2 s2 k2 u ru=>k2.now s2 _ (((re.ext e1).ext e2).set i ru))⟩
def putK (f:Str) (x:PV):List Str->List PV->List Str×List PV
 | k::ks,y::ys=>if k=f then (k::ks,x::ys) else (k::(putK f x ks ys).1,y::(putK f x ks ys).2)
 | _,_=>([f],[x])
theorem ze4 {ρ:List Addr}{H:Hp}{f:Str}{x:PV}{v:V}(r:R K mg ρ H x v):∀{ks:List Str}{xs:List PV}{vs:List V},ks.length=vs.length->Rs K mg ρ H xs vs->∃ws,putF f v (ks.zip vs)=(putK f x ks xs).1.zip ws/\Rs K mg ρ H (putK f x ks xs).2 ws/\(putK f x ks xs).1.length=ws.length
 | [],xs,vs,hl,h=>by
  have:vs=[]:=by cases vs with|nil=>rfl|cons=>simp at hl
  subst this
  have:xs=[]:=by cases xs with|nil=>rfl|cons=>obtain ⟨_,_,e,_⟩:=h;cases e
  subst this
  exact ⟨[v],rfl,⟨v,[],rfl,r,rfl⟩,rfl⟩
 | k::ks,xs,vs,hl,h=>by
  cases vs with
  | nil=>simp at hl
  | cons v0 vs =>
   cases xs with
   | nil=>cases h
   | cons y ys =>
    obtain ⟨v0',r',e,h1,h2⟩:=h
    cases e
    simp only [putK,List.zip_cons_cons,putF]
    by_cases hk:k=f
    ·rw [if_pos hk,if_pos hk]
     exact ⟨v::vs,rfl,⟨v,vs,rfl,r,h2⟩,by simpa using hl⟩
    ·rw [if_neg hk,if_neg hk]
     obtain ⟨ws,e1,e2,e3⟩:=ze4 r (by simpa using hl) h2
     exact ⟨v0::ws,by rw [e1];rfl,⟨v0,ws,rfl,h1,e2⟩,by simp [e3]⟩
def putAt (f:Str) (ins:Str->Bool) (x:PV):PV->Mo Unit
 | .ref n,st=>yH st n fun c ks xs=>if ins c=true/\ks.length<1000 then .ok () (st.set n (.ins c (putK f x ks xs).1 (putK f x ks xs).2)) else .stuck
 | _,_=>.stuck
def sFld (f:Str) (ins:Str->Bool) (fo fv:zc->Mo PV):zc->Mo Fl:=fun env st=>(fv env st).bind fun x st1=>(fo env st1).bind fun o st2=>(putAt f ins x o st2).bind fun _ st3=>.ok (.nx env) st3
theorem ze5 {f:Str}{ins exc:Str->Bool}(F:FldF X.K X.mg f ins exc) (ho:ME X Er o fo) (he:ME X Er e fa) (hs:swapsWith e (some (.Attribute o f pos')) pos.line X.env=pure false:=by rfl):MS X Er (.Assign [.Attribute o f pos'] e pos) (sFld f ins fo fa) :=
 PS.weak (ziU ho he hs) fun D U H ⟨env,st,ρ,re,rs,h⟩=>⟨env,st,ρ,re,rs,h.then fun ad H1 x st1 e1 s1 h1 v rv=>⟨env,st1,ad,re.ext e1,s1,h1.then fun al H2 y st2 e2 s2 h2 w rw=>by
  cases y with
  | ref n =>
   cases hn:st2[n]? with
   | none=>simp only [putAt,yH,hn] at h2;exact False.elim h2
   | some so =>
    cases so with
    | lst _=>simp only [putAt,yH,hn] at h2;exact False.elim h2
    | dic _ _=>simp only [putAt,yH,hn] at h2;exact False.elim h2
    | fdi _ _=>simp only [putAt,yH,hn] at h2;exact False.elim h2
    | ins c ks xs =>
     simp only [putAt,yH,hn] at h2
     by_cases hc:ins c=true/\ks.length<1000
     ·rw [if_pos hc] at h2
      obtain ⟨p,rfl,hp⟩:=rw
      obtain ⟨C',dx,vs,hC',hH,hR,hl⟩:=s2.addr hn hp
      obtain ⟨C,hC,cl,na⟩:=F.i c hc.1
      rw [hC] at hC'
      cases hC'
      obtain ⟨ws,k1,k2,k3⟩:=ze4 (f:=f) (R.ext e2 x rv) hl hR
      refine ⟨p,_,dx,_,rfl,hH,cl,na,?_,?_⟩
      ·rw [List.length_zip,<-hl];have:=hc.2;omega
      ·have ew:Ext al H2 al (upd H2 p (.ins C' dx (putF f v (ks.zip vs)))):=Ext.write hH rfl
       exact h2 al _ ew (s2.write hp ew ⟨_,dx,ws,hC,by rw [zY,k1],Rs.ext ew _ k2,k3⟩) U (((re.ext e1).ext e2).ext ew)
     ·rw [if_neg hc] at h2;exact False.elim h2
  | _=>exact False.elim h2⟩⟩
def MG (X:Cx) (Er:XK) (e:Expr) (g:PV->zc->Option zc):Prop:=PG X e fun v U H Q=>∃x env env' ρ,R X.K X.mg ρ H x v/\EnvR X.K X.mg ρ H env U/\g x env=some env'/\∀ag,EnvR X.K X.mg ρ H env' ag->Q ag H
theorem PG.weak {t t':TG}(h:PG X e t) (w:∀v U H Q,t' v U H Q->t v U H Q):PG X e t':=fun pins s U H v u Q I r q=>h pins s U H v u Q I r (w v U H Q q)
def gN (i:Nat):PV->zc->Option zc:=fun x env=>some (env.set i (some x))
theorem ze6 (i:Nat) {x:Str}(hN:X.N.Nodup) (hi:X.N[i]?=some x:=by rfl) (hx:Loc X.env.scope x:=by first|exact Or.inl rfl|exact Or.inr rfl) (hf:X.fn x=true\/X.env.scope.names.lookup x=some .local:=by first|exact .inl rfl|exact .inr rfl|assumption):MG X Er (.Name x pos) (gN i) :=
 PG.weak (wS hN hi hx hf) fun v U H Q ⟨x,env,env',ρ,rx,re,hg,q⟩=>by
  cases hg
  exact q _ (re.set i rx)
def g2 (i j:Nat):PV->zc->Option zc
 | .tup [x,y],env=>some ((env.set i (some x)).set j (some y))
 | _,_=>none
theorem zlv {i j:Nat}{x:PV}{env env':zc}(h:g2 i j x env=some env'):∃y z,x=.tup [y,z]/\env'=(env.set i (some y)).set j (some z):=by
 unfold g2 at h
 split at h
 ·cases h;exact ⟨_,_,rfl,rfl⟩
 ·cases h
theorem zlw (i j:Nat) {x y:Str}{kt:Nat}{px py:Pos}(hc:X.calm=true) (hN:X.N.Nodup) (hi:X.N[i]?=some x:=by rfl) (hj:X.N[j]?=some y:=by rfl) (hx:Loc X.env.scope x:=by first|exact Or.inl rfl|exact Or.inr rfl) (hy:Loc X.env.scope y:=by first|exact Or.inl rfl|exact Or.inr rfl)
  (hf:X.fn x=true\/X.env.scope.names.lookup x=some .local:=by first|exact .inl rfl|exact .inr rfl|assumption) (hf':X.fn y=true\/X.env.scope.names.lookup y=some .local:=by first|exact .inl rfl|exact .inr rfl|assumption):MG X Er (.Tuple [.Name x px,.Name y py] kt pos) (g2 i j) :=
 PG.weak (zie (n:=2) hc (zdO (wS hN hi hx hf) (zdO (wS hN hj hy hf') zic))) fun v U H Q ⟨x,env,env',ρ,rx,re,hg,q⟩=>by
  obtain ⟨y,z,rfl,rfl⟩:=zlv hg
  obtain ⟨a,vs,rfl,h1,h2⟩:=rx
  obtain ⟨u,w,rfl,r1,r2⟩:=Rs.two h2
  exact ⟨a,_,rfl,h1,rfl,u,[w],rfl,w,[],rfl,rfl,q _ ((re.set i r1).set j r2)⟩
def g3 (i j k:Nat):PV->zc->Option zc
 | .tup [x,y,z],env=>some (((env.set i (some x)).set j (some y)).set k (some z))
 | _,_=>none
inductive Sq where
 | im (xs:List PV)|rf (n:Nat)
def Walk (K:Frag) (mg:Str->Option Value) (J:It) (ρ:List Addr) (H:Hp):Sq->Prop
 | .im xs=>(∀i af H',Ext ρ H af H'->i<xs.length->J.go i H')/\(∀i af H',Ext ρ H af H'->xs.length<=i->J.stop i H') /\
  ∀i af H' st v H2,Ext ρ H af H'->StR K mg af H' st->i<xs.length->J.yld i H' v H2->∃x,xs[i]?=some x/\Ext af H' af H2/\StR K mg af H2 st/\R K mg af H2 x v
 | .rf n=>∃a,ρ[n]?=some a/\J=Itl K a
def MI (X:Cx) (Er:XK) (tg iter:Expr) (src:zc->Mo Sq):Prop:=PI X tg iter fun U H R=>∃env st ρ,EnvR X.K X.mg ρ H env U/\StR X.K X.mg ρ H st/\Out X.K X.mg ρ H (src env st) (fun af H' q st'=>∀J,Walk X.K X.mg J af H' q->R J H') Er
def forL (g:PV->zc->Option zc) (body:zc->Mo Fl):List PV->zc->Mo Fl
 | [],env,st=>.ok (.nx env) st
 | x::xs,env,st=>match g x env with
  | none=>.stuck
  | some env1=>(body env1 st).bind fun fl st2=>match fl with
   | .nx e=>forL g body xs e st2
   | .ct e=>forL g body xs e st2
   | .bk e=>.ok (.nx e) st2
   | .rt v=>.ok (.rt v) st2
def forR (g:PV->zc->Option zc) (body:zc->Mo Fl) (n:Nat):Nat->Nat->zc->Mo Fl
 | 0,_,_,_=>.stuck
 | m+1,i,env,st=>zW st n fun xs=>match xs[i]? with
  | none=>.ok (.nx env) st
  | some x=>match g x env with
   | none=>.stuck
   | some env1=>(body env1 st).bind fun fl st2=>match fl with
    | .nx e=>forR g body n m (i+1) e st2
    | .ct e=>forR g body n m (i+1) e st2
    | .bk e=>.ok (.nx e) st2
    | .rt v=>.ok (.rt v) st2
def forS (g:PV->zc->Option zc) (body:zc->Mo Fl):Sq->zc->Mo Fl
 | .im xs=>forL g body xs
 | .rf n=>forR g body n (lim+1) 0
def ww (src:zc->Mo Sq) (g:PV->zc->Option zc) (body:zc->Mo Fl):zc->Mo Fl:=fun env st=>(src env st).bind fun q st1=>forS g body q env st1
theorem zck {tg iter:Expr}{src:zc->Mo Sq}{gt:PV->zc->Option zc}(hp:PassesOwn (model X.prog X.w) X.A X.env X.xe) (hc:X.calm=true) (hi:MI X Er tg iter src) (hg:MG X Er tg gt) (hb:MSs X Er sts gb)
  (hs:∀x,foldedSetIterable iter X.env x=pure x:=by intro _;rfl):MS X Er (.For tg iter sts [] pos) (ww src gt gb) :=
 PS.weak (ziu hp hc hi hg hb hs) fun D U H ⟨env,st,ρ,re,rs,h⟩=>⟨env,st,ρ,re,rs,h.then fun ao H0 q st0 e0 s0 h0 J wk=>by
  cases q with
  | im xs =>
   obtain ⟨w1,w2,w3⟩:=wk
   refine ⟨fun i m U H=>m=xs.length-i/\i<=xs.length/\∃env st ρ,EnvR X.K X.mg ρ H env U/\StR X.K X.mg ρ H st/\Ext ao H0 ρ H/\Out X.K X.mg ρ H (forL gt gb (xs.drop i) env st) (gS X.K X.mg D) Er,⟨xs.length,by simp,Nat.zero_le _,env,st0,ao,re.ext e0,s0,Ext.refl,h0⟩,?_⟩
   rintro i m U H ⟨rfl,hi,env,st,ρ,re,rs,ex,h⟩
   by_cases hlt:i<xs.length
   ·refine .inr ⟨w1 i ρ H ex hlt,_,fun ag H' p'=>⟨xs.length-(i+1),by omega,rfl,hlt,p'⟩,fun v H' y=>?_⟩
    obtain ⟨x,hx,ex2,s2,rx⟩:=w3 i ρ H st v H' ex rs hlt y
    have hd:xs.drop i=x::xs.drop (i+1):=by
     rw [List.drop_eq_getElem_cons hlt]
     have:=(List.getElem?_eq_some_iff.mp hx).2
     rw [this]
    rw [hd] at h
    cases hgx:gt x env with
    | none=>simp only [forL,hgx] at h;exact False.elim h
    | some env1 =>
     simp only [forL,hgx] at h
     refine ⟨x,env,env1,ρ,rx,re.ext ex2,hgx,fun aq r1=>⟨env1,st,ρ,r1,s2,Out.then (Out.ext h ex2) fun am H3 fl st3 e3 s3 h3=>?_⟩⟩
     cases fl with
     | nx e=>exact fun aA r4=>⟨e,st3,am,r4,s3,(ex.trans ex2).trans e3,h3⟩
     | ct e=>exact fun aA r4=>⟨e,st3,am,r4,s3,(ex.trans ex2).trans e3,h3⟩
     | bk e=>exact Out.fl (D:=D) (fl:=.nx e) (E:=Er) h3 s3
     | rt v=>exact Out.fl (D:=D) (fl:=.rt v) (E:=Er) h3 s3
   ·have e:i=xs.length:=by omega
    subst e
    rw [List.drop_length] at h
    exact .inl ⟨w2 _ ρ H ex (Nat.le_refl _),Out.now (x:=Fl.nx env) h rs U re⟩
  | rf n =>
   obtain ⟨a,ha,rfl⟩:=wk
   refine ⟨fun i m U H=>∃env st ρ,EnvR X.K X.mg ρ H env U/\StR X.K X.mg ρ H st/\ρ[n]?=some a/\Out X.K X.mg ρ H (forR gt gb n m i env st) (gS X.K X.mg D) Er,⟨lim+1,env,st0,ao,re.ext e0,s0,ha,h0⟩,?_⟩
   rintro i m U H ⟨env,st,ρ,re,rs,ha,h⟩
   cases m with
   | zero=>exact False.elim h
   | succ m =>
    obtain ⟨xs,hn,h⟩:=yI h
    obtain ⟨vs,hH,hR⟩:=rs.addr hn ha
    cases hx:xs[i]? with
    | none =>
     simp only [hx] at h
     have:vs.length<=i:=by rw [<-hR.len];exact List.getElem?_eq_none_iff.mp hx
     exact .inl ⟨⟨vs,SqL.of hH,this⟩,Out.now (x:=Fl.nx env) h rs U re⟩
    | some x =>
     simp only [hx] at h
     obtain ⟨v,hv,rv⟩:=hR.get hx
     refine .inr ⟨⟨vs,v,SqL.of hH,hv⟩,_,fun ag H' p'=>⟨m,Nat.lt_succ_self m,p'⟩,fun v' H' y=>?_⟩
     obtain ⟨e1,y⟩:=y
     subst e1
     have e2:=y vs (SqL.of hH)
     rw [hv] at e2
     cases e2
     cases hgx:gt x env with
     | none=>simp only [hgx] at h;exact False.elim h
     | some env1 =>
      simp only [hgx] at h
      refine ⟨x,env,env1,ρ,rv,re,hgx,fun aq r1=>⟨env1,st,ρ,r1,rs,Out.then h fun am H3 fl st3 e3 s3 h3=>?_⟩⟩
      cases fl with
      | nx e=>exact fun aA r4=>⟨e,st3,am,r4,s3,e3.get ha,h3⟩
      | ct e=>exact fun aA r4=>⟨e,st3,am,r4,s3,e3.get ha,h3⟩
      | bk e=>exact Out.fl (D:=D) (fl:=.nx e) (E:=Er) h3 s3
      | rt v=>exact Out.fl (D:=D) (fl:=.rt v) (E:=Er) h3 s3⟩
end
section
variable {X:Cx}{Er:XK}{K:Frag}{mg:Str->Option Value}{a b c e o tg:Expr}{es:List Expr}{st:Stmt}{sts:List Stmt}{pos p apos pos':Pos}{fa fb fc fo:zc->Mo PV}{fs:zc->Mo (List PV)}{k:Nat}{x:Str}{m:List PV->Mo PV}
variable {g g' gb:zc->Mo Fl}{ga:zc->Mo Bool}
theorem PI.weak {t t':TI}(h:PI X tg e t) (w:∀U H Q,t' U H Q->t U H Q):PI X tg e t':=fun pins s U H Q I q=>h pins s U H Q I (w U H Q q)
def zlx (K:Frag) (tl:TE):TI:=fun U H R=>tl U H fun x H1=>(∃a,x=.ref a/\(∃xs,SqL K H1 a xs)/\R (Itl K a) H1)\/(∃a,x=.ref a/\(∃xs,SqT K H1 a xs)/\R (Itt K a) H1)\/∃z,x=.str z/\R (Its z) H1
theorem zly {l:Expr}{tl:TE}(hl:PE X l tl):PI X tg l (zlx X.K tl):=by
 intro pins s U H R I h
 refine thn (hl pins s U H _ I h) fun v s1 ⟨x,H1,I1,r1,q1⟩=>?_
 have fin:∀b∈[s1.heap.objs.size],FpOk X pins H1 b:=fun b hb=>by
  have e:b=s1.heap.objs.size:=by simpa using hb
  subst e
  exact I1.fpOk (Nat.le_refl _) (I1.hok.fresh (Nat.le_refl _))
 rcases q1 with ⟨a,e,⟨xs,hq⟩,q⟩|⟨a,e,⟨xs,hq⟩,q⟩|⟨z,rfl,q⟩
 ·subst e
  cases r1
  obtain ⟨its,rv,p,hz⟩:=I1.list hq
  exact wpAny_pyIter_list p.isList ⟨s1.heap.objs.size,[s1.heap.objs.size],_,_,H1,rfl,I1.kept (t':=s1.toks) (fun b o e=>Heap.get?_push_of_some _ e),zim a _,⟨_,Heap.get?_push_size _ rfl,rfl,rfl⟩,fin,q⟩
 ·subst e
  cases r1
  obtain ⟨its,rv,p,hz⟩:=I1.tuple hq
  exact wpAny_pyIter_tuple (show s1.heap.IsTuple a its.toArray from p) ⟨s1.heap.objs.size,[s1.heap.objs.size],_,_,H1,rfl,I1.kept (t':=s1.toks) (fun b o e=>Heap.get?_push_of_some _ e),zin a _,⟨_,Heap.get?_push_size _ rfl,rfl,rfl⟩,fin,q⟩
 ·obtain ⟨t,rfl⟩:=r1
  cases ha:z.cps.all (·<128) with
  | false=>exact wpAny_pyIter_wide ha ⟨s1.heap.objs.size,[s1.heap.objs.size],_,_,H1,rfl,I1.kept (t':=s1.toks) (fun b o e=>Heap.get?_push_of_some _ e),zep z t _ "str_iterator" (.inr rfl),⟨_,Heap.get?_push_size _ rfl,rfl,rfl⟩,fin,q⟩
  | true=>exact wpAny_pyIter_ascii ha ⟨s1.heap.objs.size,[s1.heap.objs.size],_,_,H1,rfl,I1.kept (t':=s1.toks) (fun b o e=>Heap.get?_push_of_some _ e),zep z t _ "str_ascii_iterator" (.inl rfl),⟨_,Heap.get?_push_size _ rfl,rfl,rfl⟩,fin,q⟩
theorem zlz {ρ:List Addr}{H:Hp}{a:Addr}{xs:List PV}{vs:List V}(h:SqT K H a vs) (r:Rs K mg ρ H xs vs):Walk K mg (Itt K a) ρ H (.im xs):=by
 refine ⟨fun i af H' e hi=>?_,fun i af H' e hi=>⟨vs,e.sqT h,by rw [<-r.len];exact hi⟩,fun i af H' st v H2 e s hi y=>?_⟩
 ·obtain ⟨v,hv,_⟩:=r.get (List.getElem?_eq_getElem hi)
  exact ⟨vs,v,e.sqT h,hv⟩
 ·obtain ⟨e1,y⟩:=y
  subst e1
  obtain ⟨v',hv,rv⟩:=r.get (List.getElem?_eq_getElem hi)
  have:=y vs (e.sqT h)
  rw [hv] at this
  cases this
  exact ⟨_,List.getElem?_eq_getElem hi,Ext.refl,s,R.ext e _ rv⟩
theorem zlA {ρ:List Addr}{H:Hp}{a:Addr}{xs:List PV}{vs:List V}(h:FrL K H a vs) (r:Rs K mg ρ H xs vs):Walk K mg (Itl K a) ρ H (.im xs):=by
 have hs:∀{af H'},Ext ρ H af H'->SqL K H' a vs:=fun e=>(e.frl h).sq
 refine ⟨fun i af H' e hi=>?_,fun i af H' e hi=>⟨vs,hs e,by rw [<-r.len];exact hi⟩,fun i af H' st v H2 e s hi y=>?_⟩
 ·obtain ⟨v,hv,_⟩:=r.get (List.getElem?_eq_getElem hi)
  exact ⟨vs,v,hs e,hv⟩
 ·obtain ⟨e1,y⟩:=y
  subst e1
  obtain ⟨v',hv,rv⟩:=r.get (List.getElem?_eq_getElem hi)
  have:=y vs (hs e)
  rw [hv] at this
  cases this
  exact ⟨_,List.getElem?_eq_getElem hi,Ext.refl,s,R.ext e _ rv⟩
def signs (z:Str):List PV:=z.cps.toList.map fun c=>.str ⟨#[c]⟩
theorem zlB {ρ:List Addr}{H:Hp}(z:Str):Walk K mg (Its z) ρ H (.im (signs z)):=by
 have hl:(signs z).length=z.cps.size:=by simp [signs]
 refine ⟨fun i af H' e hi=>by rw [hl] at hi;exact hi,fun i af H' e hi=>by rw [hl] at hi;exact hi,fun i af H' st v H2 e s hi y=>?_⟩
 obtain ⟨e1,c,hc,e2⟩:=y
 subst e1 e2
 refine ⟨.str ⟨#[c]⟩,?_,Ext.refl,s,rfl⟩
 simp [signs,hc]
def nums (lo:Int) (n:Nat):List PV:=(List.range n).map fun i=>.int (lo+(i:Nat))
theorem zlC {ρ:List Addr}{H:Hp}(lo:Int) (n:Nat):Walk K mg (Itr lo n) ρ H (.im (nums lo n)):=by
 have hl:(nums lo n).length=n:=by simp [nums]
 refine ⟨fun i af H' e hi=>by rw [hl] at hi;exact hi,fun i af H' e hi=>by rw [hl] at hi;exact hi,fun i af H' st v H2 e s hi y=>?_⟩
 obtain ⟨e1,e2⟩:=y
 subst e1 e2
 rw [hl] at hi
 exact ⟨.int (lo+i),by simp [nums,hi],Ext.refl,s,rfl⟩
def seqOf:PV->Mo Sq
 | .tup xs,st=>.ok (.im xs) st
 | .frl xs,st=>.ok (.im xs) st
 | .str z,st=>.ok (.im (signs z)) st
 | .ref n,st=>zW st n fun _=>.ok (.rf n) st
 | _,_=>.stuck
def za8 (f:zc->Mo PV):zc->Mo Sq:=fun env st=>(f env st).bind seqOf
theorem ze7 (h:ME X Er e fa):MI X Er tg e (za8 fa):=PI.weak (zly h) fun U H Q ⟨env,st,ρ,re,rs,h⟩=>⟨env,st,ρ,re,rs,h.then fun ad H1 x st1 e1 s1 h1 v rv=>by
 cases x with
 | tup xs =>
  obtain ⟨a,vs,rfl,k1,k2⟩:=rv
  exact .inr (.inl ⟨a,rfl,⟨vs,k1⟩,Out.now (x:=Sq.im xs) h1 s1 _ (zlz k1 k2)⟩)
 | frl xs =>
  obtain ⟨a,vs,rfl,k1,k2⟩:=rv
  exact .inl ⟨a,rfl,⟨vs,k1.sq⟩,Out.now (x:=Sq.im xs) h1 s1 _ (zlA k1 k2)⟩
 | str z =>
  cases rv
  exact .inr (.inr ⟨z,rfl,Out.now (x:=Sq.im (signs z)) h1 s1 _ (zlB z)⟩)
 | ref n =>
  obtain ⟨a,rfl,ha⟩:=rv
  obtain ⟨xs,hn,h1⟩:=yI h1
  obtain ⟨vs,k1,k2⟩:=s1.addr hn ha
  exact .inl ⟨a,rfl,⟨vs,SqL.of k1⟩,h1.now s1 _ ⟨a,ha,rfl⟩⟩
 | _=>exact False.elim h1⟩
abbrev cR (j:Int):Bool:=decide (-(2 ^ 62)<=j)&&decide (j<2 ^ 62)
def wx:List PV->Mo Sq
 | [.int j],st=>if cR j=true then .ok (.im (nums 0 j.toNat)) st else .stuck
 | _,_=>.stuck
def zlD:List PV->Mo Sq
 | [.int i,.int j],st=>if cR i=true/\cR j=true then .ok (.im (nums i (j-i).toNat)) st else .stuck
 | _,_=>.stuck
theorem zlE {ρ:List Addr}{H:Hp}{xs:List PV}{st:Sto}{good:List Addr->Hp->Sq->Sto->Prop}(h:Out K mg ρ H (wx xs st) good Er):∃j,xs=[.int j] /\ -(2 ^ 62)<=j/\j<2 ^ 62/\Out K mg ρ H (.ok (.im (nums 0 j.toNat)) st) good Er:=by
 unfold wx at h
 split at h
 ·obtain ⟨c,h⟩:=Out.ifp h
  simp [cR] at c
  exact ⟨_,rfl,c.1,c.2,h⟩
 ·exact False.elim h
def iRng1 (fs:zc->Mo (List PV)):zc->Mo Sq:=fun env st=>(fs env st).bind wx
def iRng2 (fs:zc->Mo (List PV)):zc->Mo Sq:=fun env st=>(fs env st).bind zlD
theorem zcl {a:Expr} (hm:X.mg "range" = none) (ha:MA X Er [a] fs) (hg:Gl X "range" := by rfl) (hs:starEach [a] X.env=[(false,eval a X.env)]:=by rfl):MI X Er tg (.Call (.Name "range" p) [a] [] pos) (iRng1 fs) :=
 PI.weak (zir hg hm ha hs) fun U H Q ⟨env,st,ρ,re,rs,h⟩=>⟨env,st,ρ,re,rs,h.then fun ad H1 xs st1 e1 s1 h1 vs rv=>by
  obtain ⟨j,rfl,c1,c2,h1⟩:=zlE h1
  obtain ⟨v,rfl,rfl⟩:=Rs.one rv
  exact ⟨j,rfl,c1,c2,h1.now s1 _ (zlC 0 j.toNat)⟩⟩
def jf (xs ys:List PV):List PV:=(xs.zip ys).map fun q=>.tup [q.1,q.2]
def zab:List PV->Mo Sq
 | [.tup xs,.tup ys],st=>.ok (.im (jf xs ys)) st
 | _,_=>.stuck
theorem zlF {ρ:List Addr}{H:Hp}{xs:List PV}{st:Sto}{good:List Addr->Hp->Sq->Sto->Prop}(h:Out K mg ρ H (zab xs st) good Er):∃ys zs,xs=[.tup ys,.tup zs]/\Out K mg ρ H (.ok (.im (jf ys zs)) st) good Er:=by
 unfold zab at h
 split at h
 ·exact ⟨_,_,rfl,h⟩
 ·exact False.elim h
theorem zlG {ρ:List Addr}{H:Hp}{a b:Addr}{xs ys:List PV}{vs ws:List V}(h:SqT K H a vs) (r:Rs K mg ρ H xs vs) (h':SqT K H b ws) (r':Rs K mg ρ H ys ws):Walk K mg (Itz K a b) ρ H (.im (jf xs ys)):=by
 have hl:(jf xs ys).length=min xs.length ys.length:=by simp [jf]
 have l1:=r.len
 have l2:=r'.len
 refine ⟨fun i af H' e hi=>?_,fun i af H' e hi=>⟨vs,ws,e.sqT h,e.sqT h',by rw [hl] at hi;omega⟩,fun i af H' st v H2 e s hi y=>?_⟩
 ·rw [hl] at hi
  obtain ⟨v,hv,_⟩:=r.get (List.getElem?_eq_getElem (show i<xs.length by omega))
  obtain ⟨w,hw,_⟩:=r'.get (List.getElem?_eq_getElem (show i<ys.length by omega))
  exact ⟨vs,ws,v,w,e.sqT h,e.sqT h',hv,hw⟩
 ·rw [hl] at hi
  obtain ⟨T,v',w',hT,rfl,rfl,y1,y2⟩:=y
  have k1:i<xs.length:=by omega
  have k2:i<ys.length:=by omega
  obtain ⟨v,hv,rv⟩:=r.get (List.getElem?_eq_getElem k1)
  obtain ⟨w,hw,rw'⟩:=r'.get (List.getElem?_eq_getElem k2)
  have q1:=y1 vs (e.sqT h)
  have q2:=y2 ws (e.sqT h')
  rw [hv] at q1
  rw [hw] at q2
  cases q1;cases q2
  refine ⟨.tup [xs[i],ys[i]],?_,Ext.new hT,s.new hT,R.tup_of ⟨_,[_],rfl,R.ext e _ rv,_,[],rfl,R.ext e _ rw',rfl⟩ hT⟩
  rw [jf,List.getElem?_map,List.getElem?_eq_getElem (by simp;omega)]
  simp
def zcm (fs:zc->Mo (List PV)):zc->Mo Sq:=fun env st=>(fs env st).bind zab
theorem zlH {elts:List Expr} {kt:Nat} {tp:Pos} {x y:Expr} (hm:X.mg "zip" = none) (ha:MA X Er [x,y] fs) (hg:Gl X "zip" := by rfl) (hs:starEach [x,y] X.env=[(false,eval x X.env),(false,eval y X.env)]:=by rfl) (hs2:starEach [y] X.env=[(false,eval y X.env)]:=by rfl) :
  MI X Er (.Tuple elts kt tp) (.Call (.Name "zip" p) [x,y] [] pos) (zcm fs) :=
 PI.weak (zkK hg hm ha hs hs2) fun U H Q ⟨env,st,ρ,re,rs,h⟩=>⟨env,st,ρ,re,rs,h.then fun ad H1 xs st1 e1 s1 h1 vs rv=>by
  obtain ⟨ys,zs,rfl,h1⟩:=zlF h1
  obtain ⟨v,w,rfl,⟨a,us,rfl,k1,k2⟩,⟨b,ws,rfl,k3,k4⟩⟩:=Rs.two rv
  exact ⟨a,b,rfl,⟨us,k1⟩,⟨ws,k3⟩,h1.now s1 _ (zlG k1 k2 k3 k4)⟩⟩
def whileF (t:zc->Mo Bool) (b:zc->Mo Fl):Nat->zc->Mo Fl
 | 0,_,_=>.stuck
 | n+1,env,st=>(t env st).bind fun c st1=>if c=true then (b env st1).bind fun fl st2=>match fl with
   | .nx e=>whileF t b n e st2
   | .ct e=>whileF t b n e st2
   | .bk e=>.ok (.nx e) st2
   | .rt v=>.ok (.rt v) st2
  else .ok (.nx env) st1
def zcn (t:zc->Mo Bool) (b:zc->Mo Fl):zc->Mo Fl:=whileF t b lim
theorem zlI (hp:PassesOwn (model X.prog X.w) X.A X.env X.xe) (hc:MT X Er c ga) (hb:MSs X Er sts gb):MS X Er (.While c sts [] pos) (zcn ga gb) :=
 PS.weak (zil hp hc hb) fun D U H ⟨env,st,ρ,re,rs,h⟩=>by
  refine ⟨fun m U H=>∃env st ρ,EnvR X.K X.mg ρ H env U/\StR X.K X.mg ρ H st/\Out X.K X.mg ρ H (whileF ga gb m env st) (gS X.K X.mg D) Er,⟨lim,env,st,ρ,re,rs,h⟩,?_⟩
  rintro m U H ⟨env,st,ρ,re,rs,h⟩
  cases m with
  | zero=>exact False.elim h
  | succ m =>
   refine ⟨env,st,ρ,re,rs,Out.then h fun ad H1 k st1 e1 s1 h1=>?_⟩
   cases k with
   | true =>
    change (if true=true then _ else D.nx U H1)
    rw [if_pos rfl]
    refine ⟨_,fun ag H' p'=>⟨m,Nat.lt_succ_self m,p'⟩,env,st1,ad,re.ext e1,s1,Out.then h1 fun am H3 fl st3 e3 s3 h3=>?_⟩
    cases fl with
    | nx e=>exact fun aA r4=>⟨e,st3,am,r4,s3,h3⟩
    | ct e=>exact fun aA r4=>⟨e,st3,am,r4,s3,h3⟩
    | bk e=>exact Out.fl (D:=D) (fl:=.nx e) (E:=Er) h3 s3
    | rt v=>exact Out.fl (D:=D) (fl:=.rt v) (E:=Er) h3 s3
   | false =>
    have z:D.nx U H1:=Out.fl (D:=D) (fl:=.nx env) (E:=Er) h1 s1 U (re.ext e1)
    exact z
def jn (cn fld:Str) (f:zc->Mo PV):zc->Mo Fl:=fun env st=>(f env st).bind fun x st1=>.err cn [fld] [x] st1
theorem j3 {cn fld:Str} {np cpos:Pos} (C:XOk X.prog X.w X.K X.mg X.base cn fld) (he:ME X Er e fa) (hr:Room 2 X.A) (ht:yO X Er) (hc:X.calm=true) (hg:Gl X cn:=by rfl) (hdb:(cn==("__debug__" : Str))=false:=by decide)
  (hs:starEach [e] X.env=(false,eval e X.env)::starEach [] X.env:=by rfl):MS X Er (.Raise (some (.Call (.Name cn np) [e] [] cpos)) none pos) (jn cn fld fa):=by
 obtain ⟨C,f,fd,hm,M,F,hb⟩:=C
 exact PS.weak (zkp he M F hr hg hm hb (wm ht) ht.one hc hdb hs) fun D U H ⟨env,st,ρ,re,rs,h⟩=>⟨env,st,ρ,re,rs,h.then fun ad H1 x st1 e1 s1 h1 v rv d hd=>by
  exact h1 ad _ _ _ (Ext.new hd) (s1.new hd) ⟨C,rfl,hm,.inr ⟨d,[v],rfl,zY,⟨v,[],rfl,R.ext (Ext.new hd) x rv,rfl⟩,rfl⟩⟩⟩
def sRaise0 (cn:Str):zc->Mo Fl:=fun _ st=>.err cn [] [] st
def noErr {α:Type}:Res α->Res α
 | .err _ _ _ _=>.stuck
 | r=>r
theorem jC {α β:Type}{ρ:List Addr}{H:Hp}{r:Res β}{f:β->Mo α}{good:List Addr->Hp->α->Sto->Prop}{good':List Addr->Hp->β->Sto->Prop}{E E':XK}(h:Out K mg ρ H ((noErr r).bind f) good E) (g:∀af H' x st,Ext ρ H af H'->StR K mg af H' st->Out K mg af H' (f x st) good E->good' af H' x st):Out K mg ρ H r good' E':=by
 cases r with
 | ok x st=>exact fun af H' e s=>g af H' x st e s (Out.ext h e)
 | err=>exact False.elim h
 | stuck=>exact False.elim h
def tMX (K:Frag) (mg:Str->Option Value) (f:zc->Mo PV):TX:=fun U H Q E=>∃env st ρ,EnvR K mg ρ H env U/\StR K mg ρ H st/\Out K mg ρ H (f env st) (gV K mg Q) E
def MX (X:Cx) (e:Expr) (f:zc->Mo PV):Prop:=PX X e (tMX X.K X.mg f)
theorem PX.weak {t t':TX}(h:PX X e t) (w:∀U H Q E,t' U H Q E->t U H Q E):PX X e t':=fun pins s U H Q E I q=>h pins s U H Q E I (w U H Q E q)
def xCall (m:List PV->Mo PV) (fs:zc->Mo (List PV)):zc->Mo PV:=fun env st=>(noErr (fs env st)).bind m
theorem zlK (C:FOk X.prog X.w X.K X.mg X.base x k m) (hr:Room k X.A) (ha:MA X.nox E0 (e::es) fs) (hg:Gl X x:=by rfl) (hdb:(x==("__debug__" : Str))=false:=by decide)
  (he:starEach (e::es) X.env=(false,eval e X.env)::starEach es X.env:=by rfl) (hpl:(backTo pos (starEach es X.env)).any (·.1)=false:=by rfl):MX X (.Call (.Name x p) (e::es) [] pos) (xCall m fs):=by
 obtain ⟨f,fd,ps,hm,hk,hb,F⟩:=C
 exact PX.weak (zkr F hr hg hm hk hb .nil ha hdb he hpl) fun U H Q E ⟨env,st,ρ,re,rs,h⟩=>⟨env,st,ρ,re,rs,jC h fun ad H1 xs st1 e1 s1 k vs rv=>by
  show spM X.K X.mg m (vs++[]) H1 Q E
  rw [List.append_nil]
  exact ⟨xs,st1,ad,rv,s1,k⟩⟩
def zlL (X:Cx) (name:Str) (k:Nat) (ta:TE) (t:TA):TX:=fun U H Q E=>ta U H fun x H1=>∃a C dx fs f fd ps sp,x=.ref a/\H1 a=some (.ins C dx fs)/\fs.lookup name=none/\Cls X.K C/\Meth X.K C name f/\Binds X.K fd ps []/\FnOk X.prog X.w X.K X.mg X.base (CXe X.prog X.w) k f fd ps sp /\
 t U H1 fun vs H2=>sp (x::vs) H2 Q E
theorem zlM {pl:Sem Bool}{name:Str}{ta:TE}{t:TA}(he:PE X.nox o ta) (hr:Room k X.A) (ha:PA X.nox (e::es) t)
  (hst:starEach (e::es) X.env=(false,eval e X.env)::starEach es X.env:=by rfl) (hpl:(backTo pos (starEach es X.env)).any (·.1)=false:=by rfl)
  (ht:eval (.Call (.Attribute o name apos) (e::es) [] pos) X.env=(do
   let ov <-eval o X.env
   standAt apos.atName
   let (f,first) <-holding [ov] (getMethod ov name pl)
   callWith pos f first (backTo pos (starEach (e::es) X.env)) (backToKw pos (keywordEach [] X.env))):=by rfl) :
  PX X (.Call (.Attribute o name apos) (e::es) [] pos) (zlL X name k ta t):=by
 intro pins s U H Q E I h
 refine PySem.W.methodCall_KW (pl:=pl) (wpAny_mono (he pins s U H _ (I.wish _) h) (fun u s1 ⟨x,H1,I1,rx,a,C,dx,fs,f,fd,ps,sp,ex,ea,l,c,hm,hb,F,q⟩=>?_) fun _ _ z=>z.elim) ht
 subst ex
 obtain rfl:u=Value.ref a:=rx
 refine zdX I1.unwish ea c hm l ?_
 refine PySem.W.callWith_K (first:=[.ref a]) (h₀:=X.base) I.ok.mod.kin hm.kp (wpAny_mono (ha pos pins s1 U H1 _ I1 q) (fun us s2 ⟨vs,H2,I2,r,q2⟩=>⟨I2.unwish.kIn,?_⟩) fun _ _ z=>z.elim) hst hpl
 exact zeH (us:=.ref a::us) (vs:=.ref a::vs) F hr hb .nil I2.unwish (.cons rfl r) (by rw [List.append_nil];exact q2)
def xMeth (name:Str) (tab:Str->Option (List PV->Mo PV)) (fo:zc->Mo PV) (fs:zc->Mo (List PV)):zc->Mo PV:=fun env st=>(noErr (fo env st)).bind fun o st1=>methAt name tab o st1 fun n m=>(noErr (fs env st1)).bind fun ys st2=>m (.ref n::ys) st2
theorem zlN {pl:Sem Bool}{name:Str}{tab:Str->Option (List PV->Mo PV)}(hT:∀c m,tab c=some m->MOk X.prog X.w X.K X.mg X.base c name k m) (ho:ME X.nox E0 o fo) (hr:Room k X.A) (ha:MA X.nox E0 (e::es) fs)
  (hst:starEach (e::es) X.env=(false,eval e X.env)::starEach es X.env:=by rfl) (hpl:(backTo pos (starEach es X.env)).any (·.1)=false:=by rfl)
  (hev:eval (.Call (.Attribute o name apos) (e::es) [] pos) X.env=(do
   let ov <-eval o X.env
   standAt apos.atName
   let (f,first) <-holding [ov] (getMethod ov name pl)
   callWith pos f first (backTo pos (starEach (e::es) X.env)) (backToKw pos (keywordEach [] X.env))):=by rfl) :
  MX X (.Call (.Attribute o name apos) (e::es) [] pos) (xMeth name tab fo fs) :=
 PX.weak (zlM (pl:=pl) ho hr ha hst hpl hev) fun U H Q E ⟨env,st,ρ,re,rs,h⟩=>⟨env,st,ρ,re,rs,jC h fun ad H1 x st1 e1 s1 h1 v rv=>by
  obtain ⟨n,c,ks,xs,m,rfl,hn,hk,hc,h1⟩:=zeZ h1
  obtain ⟨C,f,fd,ps,hC,cl,hm,hb,F⟩:=hT c m hc
  obtain ⟨p,rfl,hp⟩:=rv
  obtain ⟨C',dx,vs,hC',hH,hR,hl⟩:=s1.addr hn hp
  rw [hC] at hC'
  cases hC'
  exact ⟨p,C,dx,_,f,fd,ps,_,rfl,hH,za5 hk,cl,hm,hb,F,env,st1,ad,re.ext e1,s1,jC h1 fun al H2 ys st2 e2 s2 h2 ws rws=>⟨.ref n::ys,st2,al,⟨_,_,rfl,⟨p,rfl,e2.get hp⟩,rws⟩,s2,h2⟩⟩⟩
def trySuite (j:Nat):Fl->Mo Fl
 | .nx e,st=>.ok (.nx (e.set j none)) st
 | _,_=>.stuck
def j4 (i j:Nat) (cn:Str) (fv:zc->Mo PV) (suite:zc->Mo Fl):zc->Mo Fl:=fun env st=>match fv env st with
 | .ok x st1=>.ok (.nx (env.set i (some x))) st1
 | .err c ks xs st1=>if c=cn/\ks≠[] then (noErr (suite (env.set j (some (.exo c ks xs))) st1)).bind (trySuite j) else .stuck
 | .stuck=>.stuck
theorem zlO (i j:Nat) {x n cn:Str}{value:Expr}{fv:zc->Mo PV}{gs:zc->Mo Fl}{b0:Stmt}{suite:List Stmt}{xp ap cp hp:Pos}{C:Addr}(hm:X.mg cn=some (.ref C)) (hC:ExOf X.K C) (hv:MX X value fv) (hsu:∀a,MSs (X.caught a) E0 (b0::suite) gs) (hN:X.N.Nodup)
  (hst:X.stack=X.env::X.outer:=by rfl) (hfr:X.env.frame=some X.env.locals:=by rfl) (hi:X.N[i]?=some x:=by rfl) (hx:Loc X.env.scope x:=by first|exact Or.inl rfl|exact Or.inr rfl) (hj:X.N[j]?=some n:=by rfl) (hn:X.env.scope.names.lookup n=some .local:=by rfl) (hg:Gl X cn:=by rfl)
  (hsw:swapsWith value (some (.Name x xp)) ap.line X.env=pure false:=by rfl) (hf:X.fn x=true\/X.env.scope.names.lookup x=some .local:=by first|exact .inl rfl|exact .inr rfl|assumption) (hdb:(cn==("__debug__" : Str))=false:=by decide) :
  MS X Er (.Try [.Assign [.Name x xp] value ap] [.ExceptHandler (some (.Name cn cp)) (some n) (b0::suite) hp] [] [] pos) (j4 i j cn fv gs) :=
 PS.weak (zkt (tsu:=sM X.K X.mg E0 gs) hN hi hx hj hn hv hg hm hC hsu hst hfr hsw hf hdb) fun D U H ⟨env,st,ρ,re,rs,h⟩=>by
  refine ⟨env,st,ρ,re,rs,?_⟩
  unfold j4 at h
  cases hr:fv env st with
  | ok y st1 =>
   rw [hr] at h
   exact fun ad H1 e1 s1 v rv=>h ad H1 e1 s1 _ ((re.ext e1).set i rv)
  | stuck=>rw [hr] at h;exact False.elim h
  | err c ks xs st1 =>
   simp only [hr] at h
   obtain ⟨⟨hcn,hk⟩,h2⟩:=Out.ifp h
   subst hcn
   intro ad H1 Cv d e1 s1 xr
   obtain ⟨C',rfl,hm',hd⟩:=xr
   rw [hm] at hm'
   cases hm'
   refine ⟨rfl,fun q hq=>?_⟩
   rcases hd with ⟨hk',_⟩|⟨dd,vs,rfl,hdd,hR,hl⟩
   ·exact absurd hk' hk
   ·have eq:Ext ad H1 ad (upd H1 q (exC C (some dd) q)):=Ext.new hq
    refine ⟨env.set j (some (.exo c ks xs)),st1,ad,((re.ext e1).ext eq).set j ⟨q,C,dd,vs,rfl,hm,zY,eq.imm _ _ hdd rfl,Rs.ext eq xs hR,hl⟩,s1.new hq,jC (Out.ext h2 (e1.trans eq)) fun al H2 fl st2 e2 s2 h2=>?_⟩
    cases fl with
    | nx e=>exact fun aF r2=>Out.fl (D:=D) (fl:=.nx (e.set j none)) (E:=Er) h2 s2 _ (r2.unset j)
    | _=>exact False.elim h2
def kdAt (ks:List Str) (ps:List PV):PV->Mo PV
 | .str z,st=>optR ((ks.zip ps).lookup z) st
 | _,_=>.stuck
def KdF (X:Cx) (name:Str) (ks:List Str) (ps:List PV) (full:Bool):Prop:=∃O,X.mg name=some (.ref O)/\KD X O/\(∀z q,(ks.zip ps).lookup z=some q->∃u v,nsIn X.K O z=some (some u)/\RelV v u/\∀ρ H,R X.K X.mg ρ H q v)/\(full=true->∀z,(ks.zip ps).lookup z=none->nsIn X.K O z=some none)
theorem zco {name:Str} {ks:List Str} {ps:List PV} {full:Bool} (F:KdF X name ks ps full) (hb:ME X Er b fb) (hs:PlainIx b:=by exact fun _ _=>rfl) (hg:Gl X name:=by rfl) (hd:(name==("__debug__" : Str))=false:=by decide):ME X Er (.Subscript (.Name name p) b pos) (z0 (kdAt ks ps) fb):=by
 obtain ⟨O,hm,kd,hl,_⟩:=F
 refine PE.weak (zea zkL (zbP (v:=.ref O) hg hm rfl hd) hb hs) fun U H Q ⟨env,st,ρ,re,rs,h⟩=>⟨env,st,ρ,re,rs,h.then fun ad H1 x st1 e1 s1 h1 v rv=>?_⟩
 cases x with
 | str z =>
  cases rv
  obtain ⟨q,hq,h1⟩:=jP h1
  obtain ⟨u,v,h2,h3,h4⟩:=hl z q hq
  exact ⟨O,z,u,v,rfl,rfl,kd,h2,h3,h1.now s1 _ (h4 _ _)⟩
 | _=>exact False.elim h1
def kdIn (neg:Bool) (ks:List Str) (ps:List PV) (full:Bool):PV->Mo PV
 | .str z,st=>if ((ks.zip ps).lookup z).isSome=true\/full=true then .ok (.bl (neg.xor ((ks.zip ps).lookup z).isSome)) st else .stuck
 | _,_=>.stuck
theorem zlP {name:Str}{ks:List Str}{ps:List PV}{full:Bool}{O:Addr}(hl:∀z q,(ks.zip ps).lookup z=some q->∃u v,nsIn X.K O z=some (some u)/\RelV v u/\∀ρ H,R X.K X.mg ρ H q v) (hf:full=true->∀z,(ks.zip ps).lookup z=none->nsIn X.K O z=some none) {z:Str}(h:((ks.zip ps).lookup z).isSome=true\/full=true):∃r,nsIn X.K O z=some r/\r.isSome=((ks.zip ps).lookup z).isSome:=by
 cases hq:(ks.zip ps).lookup z with
 | some q=>obtain ⟨u,v,h2,_⟩:=hl z q hq;exact ⟨_,h2,rfl⟩
 | none =>
  rw [hq] at h
  rcases h with h|h
  ·cases h
  ·exact ⟨none,hf h z hq,rfl⟩
theorem zlQ {name:Str} {ks:List Str} {ps:List PV} {full:Bool} (F:KdF X name ks ps full) (ha:ME X Er a fa) (hg:Gl X name:=by rfl) (hd:(name==("__debug__" : Str))=false:=by decide) (hk:behindInMarks .NotIn (.Name name p)=false:=by with_unfolding_all rfl):MT X Er (.Compare a [.NotIn] [.Name name p] pos) (mB (z0 (kdIn true ks ps full) fa)):=by
 obtain ⟨O,hm,kd,hl,hf⟩:=F
 refine PT.weak (zdR zkM ha (zbP (v:=.ref O) hg hm rfl hd) hk) fun U H Q h=>?_
 obtain ⟨env,st,ρ,re,rs,h⟩:=zaX h
 refine ⟨env,st,ρ,re,rs,h.then fun ad H1 x st1 e1 s1 h1 v rv=>?_⟩
 cases x with
 | str z =>
  cases rv
  obtain ⟨q,h1⟩:=Out.ifp h1
  obtain ⟨r,h2,h3⟩:=zlP (name:=name) hl hf q
  have:=Out.now h1 s1 _ rfl
  exact ⟨O,z,r,rfl,rfl,kd,h2,by rw [h3];simpa using this⟩
 | _=>exact False.elim h1
def za9:PV->PV->Mo PV
 | .ref n,.ref k,st=>zW st n fun xs=>zW st k fun ys=>if xs.length+ys.length<=lim then .ok .non (st.set n (.lst (xs++ys))) else .stuck
 | _,_,_=>.stuck
theorem R.refL {ρ:List Addr}{H:Hp}{st:Sto}{n:Nat}{xs:List PV}{v:V}(s:StR K mg ρ H st) (r:R K mg ρ H (.ref n) v) (h:st[n]?=some (.lst xs)):∃a vs,v=.ref a/\ρ[n]?=some a/\H a=some (.lst vs)/\Rs K mg ρ H xs vs:=by
 obtain ⟨a,rfl,ha⟩:=r
 obtain ⟨vs,h1,h2⟩:=s.addr h ha
 exact ⟨a,vs,rfl,ha,h1,h2⟩
def recL:PV->Mo PV
 | .ref n,st=>zW st n fun _=>.ok (.ref n) st
 | _,_=>.stuck
def zba (op:PV->PV->Mo PV) (fo fv:zc->Mo PV):zc->Mo PV:=fun env st=>(fo env st).bind fun o st1=>(recL o st1).bind fun o st1=>(fv env st1).bind fun y st2=>op o y st2
theorem zlR {α:Type}{ρ:List Addr}{H:Hp}{x:PV}{st:Sto}{f:PV->Mo α}{good:List Addr->Hp->α->Sto->Prop}(h:Out K mg ρ H ((recL x st).bind f) good Er):∃n xs,x=.ref n/\st[n]?=some (.lst xs)/\Out K mg ρ H (f (.ref n) st) good Er:=by
 cases x with
 | ref n =>
  unfold recL zW at h
  cases hn:st[n]? with
  | none=>simp only [hn] at h;exact False.elim h
  | some so =>
   cases so with
   | lst xs=>simp only [hn] at h;exact ⟨n,xs,rfl,hn,h⟩
   | _=>simp only [hn] at h;exact False.elim h
 | _=>exact False.elim h
theorem zlS {cpos:Pos} (ho:ME X Er o fo) (he:ME X Er e fa) (hbase:attributeBase o "extend" X.env (eval o X.env)=eval o X.env:=by rfl)
  (hfew:((backTo cpos (starEach [e] X.env)).all (fun x=>!x.1)&&(backToKw cpos (keywordEach [] X.env)).all (fun x=>x.1.isSome)&&decide ([e].length+([]:List Keyword).length+(if ([]:List Keyword).isEmpty then 0 else 1)<30))=true:=by rfl)
  (hline:(apos.endLine==cpos.line)=true:=by rfl) (hs:starEach [e] X.env=(false,eval e X.env)::starEach [] X.env:=by rfl) (hpl:(backTo cpos (starEach [] X.env)).any (·.1)=false:=by rfl):ME X Er (.Call (.Attribute o "extend" apos) [e] [] cpos) (zba za9 fo fa) :=
 PE.weak (zee PySem.F.plainAttrs_list PySem.F.slot_list_extend PySem.F.type_list_extend zjG ho (zbX he zbW hs) hbase hfew hline hs hpl) fun U H Q ⟨env,st,ρ,re,rs,h⟩=>⟨env,st,ρ,re,rs,h.then fun ad H1 x st1 e1 s1 h1 v rv=>by
  obtain ⟨n,xs,rfl,hn,h1⟩:=zlR h1
  obtain ⟨p,vs,rfl,hp,k1,k2⟩:=R.refL s1 rv hn
  refine ⟨.inl ⟨rfl,vs,SqL.of k1⟩,env,st1,ad,re.ext e1,s1,h1.then fun al H2 y st2 e2 s2 h2 w rw=>?_⟩
  cases y with
  | ref m =>
   obtain ⟨xs2,hn2,h2⟩:=yI h2
   obtain ⟨ys2,hm2,h2⟩:=yI h2
   obtain ⟨c,h2⟩:=Out.ifp h2
   obtain ⟨p',vs2,e3,hp2,k3,k4⟩:=R.refL s2 (R.ext e2 _ rv) hn2
   cases e3
   obtain ⟨q,ws2,rfl,hq2,k5,k6⟩:=R.refL s2 rw hm2
   have ew:Ext al H2 al (upd H2 p (.lst (vs2++ws2))):=Ext.write k3 rfl
   exact ⟨p,q,vs2,ws2,rfl,rfl,k3,k5,by rw [<-k4.len,<-k6.len];exact yB c,h2 al _ ew (s2.write hp2 ew ⟨vs2++ws2,zY,Rs.ext ew _ (k4.append k6)⟩) _ rfl⟩
  | _=>exact False.elim h2⟩
end
def endOf:Fl->Mo PV
 | .rt v,st=>.ok v st
 | .nx _,st=>.ok .non st
 | _,_=>.stuck
def zB (np nN:Nat) (g:zc->Mo Fl):List PV->Mo PV:=fun xs st=>if xs.length=np then (g (xs.map some++List.replicate (nN-np) none) st).bind endOf else .stuck
section
variable {P:Program}{w:World}{K:Frag}{mg:Str->Option Value}{base:Heap}
abbrev cxD (P:Program) (w:World) (K:Frag) (mg:Str->Option Value) (base:Heap) (N:List Str) (qual:Str) (scope:Scope) (f:Addr) (cd:Value) (A:Around) (outer:List Env) (s:Shared) (H:Hp) (E:XK):Cx :=
 (cxOf (CXe P w) P w K mg base N qual scope f cd A outer s H E).wish (XA (cxOf (CXe P w) P w K mg base N qual scope f cd A outer s H E) E)
theorem zlT {N:List Str}{np:Nat}{ρ:List Addr}{H:Hp}{xs:List PV}{vs:List V}(r:Rs K mg ρ H xs vs) (h:xs.length=np):EnvR K mg ρ H (xs.map some++List.replicate (N.length-np) none) (L2.start N vs):=by
 have hl:=r.len
 refine ⟨by simp [L2.start,<-hl,h],fun i x hx=>?_⟩
 by_cases hi:i<xs.length
 ·rw [List.getElem?_append_left (by simpa using hi)] at hx
  simp only [List.getElem?_map] at hx
  cases hq:xs[i]? with
  | none=>rw [hq] at hx;cases hx
  | some y =>
   rw [hq] at hx
   cases hx
   obtain ⟨v,hv,rv⟩:=r.get hq
   refine ⟨v,?_,rv⟩
   unfold L2.start
   rw [List.getElem?_append_left (by simp;omega)]
   simp [hv]
 ·rw [List.getElem?_append_right (by simpa using hi)] at hx
  rw [List.getElem?_replicate] at hx
  split at hx<;>cases hx
theorem zbb {x qual:Str}{sm:Stmt}{f:Addr}{fd:FuncData}{N ps:List Str}{k:Nat}{g:zc->Mo Fl}(F:Fun K x qual sm f fd) (S:FnScope N ps (zw sm))
  (hb:∀(cdv:Value) (A:Around) (outer:List Env) (s:Shared) (H:Hp) (E:XK),Room k (A.deeper (PyProof.Rows.envOfC qual (zw sm) s.heap.objs.size f cdv))->MSs (cxD P w K mg base N qual (zw sm) f cdv A outer s H E) E (yt sm) g) :
  FnOk P w K mg base (CXe P w) (k+1) f fd ps (spM K mg (zB ps.length N.length g)):=by
 refine F.okT S (fun vs H Q E h=>?_) fun cdv A outer s H vs Q E hr h=>⟨_,hb cdv A outer s H E hr,?_⟩
 ·obtain ⟨xs,st,ρ,r,_,h⟩:=h
  obtain ⟨hl,_⟩:=Out.ifp h
  rw [<-r.len];exact hl
 ·obtain ⟨xs,st,ρ,r,rs,h⟩:=h
  obtain ⟨hl,h⟩:=Out.ifp h
  refine ⟨_,st,ρ,zlT r hl,rs,h.then fun ad H1 fl st1 e1 s1 h1=>?_⟩
  cases fl with
  | rt v=>exact fun u ru=>Out.now (x:=v) h1 s1 u ru
  | nx e=>exact fun ag _=>Out.now (x:=PV.non) h1 s1 _ rfl
  | _=>exact False.elim h1
theorem fok {x:Str}{f:Addr}{fd:FuncData}{ps:List Str}{k:Nat}{m:List PV->Mo PV}{sm:Stmt}{qual nm:Str}(hm:mg x=some (.ref f)) (F:Fun K nm qual sm f fd) (hb:Binds K fd ps []) (h:FnOk P w K mg base (CXe P w) k f fd ps (spM K mg m)):FOk P w K mg base x k m:=⟨f,fd,ps,hm,F.kp,hb,h⟩
end
section
variable {X:Cx}{Er:XK}{P:Program}{w:World}{K:Frag}{mg:Str->Option Value}{base:Heap}{pos:Pos}{x:Str}{st:Stmt}
theorem zE {k:Nat}{A:Around}(hr:Room k A):A.units+200<cLine:=by have:=hr.un;omega
def ze8:zc->Mo Fl:=fun _ _=>.stuck
theorem zlU {n:Int} (h:∃t,X.mg x=some (.int n t)) (hg:Gl X x:=by rfl) (hd:(x==("__debug__" : Str))=false:=by decide):ME X Er (.Name x pos) (mC (.int n)):=let ⟨t,h⟩:=h;zb9 (v:=.int n) h ⟨t,rfl⟩ (fun _ _=>rfl) hg hd
theorem jg (h:∃f,X.mg x=some (.ref f)) (hg:Gl X x:=by rfl) (hd:(x==("__debug__" : Str))=false:=by decide):ME X Er (.Name x pos) (mC (.fn x)):=let ⟨f,h⟩:=h;zb9 (v:=.ref f) h rfl (fun _ _=>⟨f,rfl,h⟩) hg hd
def FnF (K:Frag) (mg:Str->Option Value) (x:Str) (sm:Stmt) (ps:List Str):Prop:=∃f fd,mg x=some (.ref f)/\Fun K x x sm f fd/\Binds K fd ps []
def MtF (K:Frag) (mg:Str->Option Value) (c name qual:Str) (sm:Stmt) (ps:List Str):Prop:=∃C f fd,mg c=some (.ref C)/\Cls K C/\Meth K C name f/\Fun K name qual sm f fd/\Binds K fd ps []
def NwF (K:Frag) (mg:Str->Option Value) (c qual:Str) (sm:Stmt) (ps:List Str):Prop:=∃C f fd,mg c=some (.ref C)/\Mk K C f/\Fun K "__init__" qual sm f fd/\Binds K fd ps []
def XnF (K:Frag) (mg:Str->Option Value) (c fld qual:Str) (sm:Stmt):Prop:=∃C f fd,mg c=some (.ref C)/\ExMk K C f/\ExCls K C fld/\Fun K "__init__" qual sm f fd/\Binds K fd ["self", fld] []
theorem FnF.ok {sm:Stmt}{N ps:List Str}{k:Nat}{g:zc->Mo Fl}(h:FnF K mg x sm ps) (S:FnScope N ps (zw sm))
  (hb:∀(f:Addr) (cdv:Value) (A:Around) (outer:List Env) (s:Shared) (H:Hp) (E:XK),Room k (A.deeper (PyProof.Rows.envOfC x (zw sm) s.heap.objs.size f cdv))->MSs (cxD P w K mg base N x (zw sm) f cdv A outer s H E) E (yt sm) g) :
  FOk P w K mg base x (k+1) (zB ps.length N.length g):=by
 obtain ⟨f,fd,hm,F,b⟩:=h
 exact fok hm F b (zbb F S (hb f))
theorem MtF.ok {c name qual:Str}{sm:Stmt}{N ps:List Str}{k:Nat}{g:zc->Mo Fl}(h:MtF K mg c name qual sm ps) (S:FnScope N ps (zw sm))
  (hb:∀(f:Addr) (cdv:Value) (A:Around) (outer:List Env) (s:Shared) (H:Hp) (E:XK),Room k (A.deeper (PyProof.Rows.envOfC qual (zw sm) s.heap.objs.size f cdv))->MSs (cxD P w K mg base N qual (zw sm) f cdv A outer s H E) E (yt sm) g) :
  MOk P w K mg base c name (k+1) (zB ps.length N.length g):=by
 obtain ⟨C,f,fd,hm,cl,mt,F,b⟩:=h
 exact ⟨C,f,fd,ps,hm,cl,mt,b,zbb F S (hb f)⟩
theorem NwF.ok {c qual:Str}{sm:Stmt}{N ps:List Str}{k:Nat}{g:zc->Mo Fl}(h:NwF K mg c qual sm ps) (S:FnScope N ps (zw sm))
  (hb:∀(f:Addr) (cdv:Value) (A:Around) (outer:List Env) (s:Shared) (H:Hp) (E:XK),Room k (A.deeper (PyProof.Rows.envOfC qual (zw sm) s.heap.objs.size f cdv))->MSs (cxD P w K mg base N qual (zw sm) f cdv A outer s H E) E (yt sm) g) :
  NOk P w K mg base c (k+1) (zB ps.length N.length g):=by
 obtain ⟨C,f,fd,hm,mk,F,b⟩:=h
 exact ⟨C,f,fd,ps,hm,mk,b,zbb F S (hb f)⟩
theorem XnF.ok {c fld qual:Str} {sm:Stmt} (h:XnF K mg c fld qual sm) (S:FnScope ["self", fld] ["self", fld] (zw sm))
  (hb:∀(C f:Addr) (cdv:Value) (A:Around) (outer:List Env) (s:Shared) (H:Hp) (E:XK),ExCls K C fld->PSs (cxOf (CXe P w) P w K mg base ["self", fld] qual (zw sm) f cdv A outer s H E) (yt sm) (zeE K (zaH 0) (zaH 1) fld)) :
  XOk P w K mg base c fld:=by
 obtain ⟨C,f,fd,hm,M,xc,F,b⟩:=h
 refine ⟨C,f,fd,hm,M,F.okX S (fun vs H Q E h=>?_) (fun cdv A outer s H vs Q E hr h=>⟨_,hb C f cdv A outer s H E xc,?_⟩),b⟩
 ·obtain ⟨a,t,y,rfl,_⟩:=h;rfl
 ·obtain ⟨a,t,y,rfl,ha,q⟩:=h
  exact ⟨y,rfl,.ref a,rfl,a,C,t,rfl,ha,xc,fun d hd=>q d hd⟩
theorem XnF.tr {c fld qual:Str}{sm:Stmt}(h:XnF K mg c fld qual sm):∃C,mg c=some (.ref C)/\ExOf K C:=by
 obtain ⟨C,f,fd,hm,M,_⟩:=h
 exact ⟨C,hm,M.of⟩
theorem zlV (i j:Nat) {x n cn:Str}{value:Expr}{fv:zc->Mo PV}{gs:zc->Mo Fl}{b0:Stmt}{suite:List Stmt}{xp ap cp hp:Pos}(hC:∃C,X.mg cn=some (.ref C)/\ExOf X.K C) (hv:MX X value fv) (hsu:∀a,MSs (X.caught a) E0 (b0::suite) gs) (hN:X.N.Nodup)
  (hst:X.stack=X.env::X.outer:=by rfl) (hfr:X.env.frame=some X.env.locals:=by rfl) (hi:X.N[i]?=some x:=by rfl) (hx:Loc X.env.scope x:=by first|exact Or.inl rfl|exact Or.inr rfl) (hj:X.N[j]?=some n:=by rfl) (hn:X.env.scope.names.lookup n=some .local:=by rfl) (hg:Gl X cn:=by rfl)
  (hsw:swapsWith value (some (.Name x xp)) ap.line X.env=pure false:=by rfl) (hf:X.fn x=true\/X.env.scope.names.lookup x=some .local:=by first|exact .inl rfl|exact .inr rfl|assumption) (hdb:(cn==("__debug__" : Str))=false:=by decide) :
  MS X Er (.Try [.Assign [.Name x xp] value ap] [.ExceptHandler (some (.Name cn cp)) (some n) (b0::suite) hp] [] [] pos) (j4 i j cn fv gs):=by
 obtain ⟨C,h1,h2⟩:=hC
 exact zlO i j h1 h2 hv hsu hN hst hfr hi hx hj hn hg hsw hf hdb
theorem wy {p:Addr} {oc:Value} {od:Option Addr} {its:Array Value} {n:Nat} {sl:Array (Option Value)} {xs:List PV} {vs:List V} (hl:K.lookup p=some ⟨oc,od,.seq its n,sl⟩) (hc:oc=.type "tuple") (hz:its.size<=1000) (hv:Vals vs its.toList) (hr:∀ρ H,Rs K mg ρ H xs vs):∀ρ H,R K mg ρ H (.tup xs) (.ref p) :=
 fun ρ H=>⟨p,vs,rfl,.inr ⟨_,its,n,hl,hc,rfl,by rw [sizeLine_eq];omega,hv⟩,hr ρ H⟩
theorem zlW {C D:Addr} {b:Bool} (h1:(clsIn K D).isSome=true) (h2:typeIn K (.ref D)=some (.type "type")) (h3:subIn K (.ref C) (.ref D)=some b) (hne:C≠D):kitOne K (.ref C) (.ref D)=some b:=by
 unfold kitOne
 rw [if_neg (by simpa using hne)]
 unfold kitCls
 simp [h1,h2,h3]
theorem zlX {C:Addr}{T:String}{b:Bool}(h1:kitMeta T=true) (h3:subIn K (.ref C) (.type T)=some b):kitOne K (.ref C) (.type T)=some b:=by
 unfold kitOne
 rw [if_neg (by simp)]
 unfold kitCls
 simp [h1,h3]
theorem yY:bootBuiltins "len" = some (.builtin "len"):=by decide +kernel
theorem yd:bootBuiltins "isinstance" = some (.builtin "isinstance"):=by decide +kernel
theorem zac:bootBuiltins "int" = some (.type "int"):=by decide +kernel
theorem zcp:bootBuiltins "bool" = some (.type "bool"):=by decide +kernel
theorem ze9:bootBuiltins "str" = some (.type "str"):=by decide +kernel
theorem wz:bootBuiltins "tuple" = some (.type "tuple"):=by decide +kernel
theorem zcq:bootBuiltins "dict" = some (.type "dict"):=by decide +kernel
theorem zfa:bootBuiltins "list" = some (.type "list"):=by decide +kernel
theorem zlY:bootBuiltins "ValueError" = some (.type "ValueError"):=by decide +kernel
end
theorem FOk.mono {P:Program}{w:World}{K:Frag}{mg:Str->Option Value}{base:Heap}{x:Str}{j k:Nat}{m:List PV->Mo PV}(h:FOk P w K mg base x j m) (hjk:j<=k):FOk P w K mg base x k m:=by
 obtain ⟨f,fd,ps,h1,h2,h3,h4⟩:=h
 exact ⟨f,fd,ps,h1,h2,h3,h4.mono hjk⟩
theorem MOk.mono {P:Program}{w:World}{K:Frag}{mg:Str->Option Value}{base:Heap}{c x:Str}{j k:Nat}{m:List PV->Mo PV}(h:MOk P w K mg base c x j m) (hjk:j<=k):MOk P w K mg base c x k m:=by
 obtain ⟨C,f,fd,ps,h1,h2,h3,h4,h5⟩:=h
 exact ⟨C,f,fd,ps,h1,h2,h3,h4,h5.mono hjk⟩
def spLaw (K:Frag):Sp:=fun vs H Q _=>∃(a:Addr) (ns:List Int),vs=[.ref a]/\SqL K H a (ns.map V.int)/\Only H/\ns.length<=63/\∀H',Q (.bl true) H'
theorem zfb {K:Frag}{mg:Str->Option Value}{ρ:List Addr}{H:Hp}:∀ns:List Int,Rs K mg ρ H (ns.map PV.int) (ns.map V.int)
 | []=>rfl
 | n::ns=>⟨_,_,rfl,rfl,zfb ns⟩
theorem zlZ {K:Frag}{H:Hp}{a:Addr}{vs:List V}(h:SqL K H a vs) (o:Only H):FrL K H a vs:=by
 rcases h with (h|⟨ob,h⟩)|h
 ·rcases o a with z|⟨ob,xs,z⟩
  ·rw [h] at z;cases z
  ·rw [h] at z;cases z
 ·exact .inl ⟨ob,h⟩
 ·exact .inr h
theorem zl0 {P:Program}{w:World}{K:Frag}{mg:Str->Option Value}{base:Heap}{k:Nat}{f:Addr}{fd:FuncData}{ps:List Str}{m:List PV->Mo PV}(F:FnOk P w K mg base (CXe P w) k f fd ps (spM K mg m)) (h:∀ns:List Int,ns.length<=63->∃st,m [.frl (ns.map PV.int)] []=.ok (.bl true) st):FnOk P w K mg base (CXe P w) k f fd ps (spLaw K) :=
 F.imp fun vs H Q E ⟨a,ns,e,hs,ho,hl,q⟩=>by
  subst e
  obtain ⟨st,hm⟩:=h ns hl
  refine ⟨[.frl (ns.map PV.int)],[],[],⟨_,[],rfl,⟨a,_,rfl,zlZ hs ho,zfb ns⟩,rfl⟩,⟨rfl,List.nodup_nil,fun n so e=>by simp at e⟩,?_⟩
  rw [hm]
  intro af H' _ _ v rv
  cases rv
  exact q H'
theorem walkM {l:PySem.W.OpenLaw}{k:Nat}{x:Str}{q:Program}{loose:List Str}{XP:(Str->Option Value)->Heap->Prop}{YP:World->Heap->Prop}{d:DefRec}{K:Params->PySem.W.Frag}(hn:l.most=some 63) (hdf:d.params.defaults=[]) (hr:Room k callerA)
  (hY:∀(w:World) (h:Heap),YP w h->(K w.params).In h)
  (F:∀(w:World) (mg:Str->Option Value) (fa:Addr) (h:Heap),(K w.params).In h->h.Ns mainGlobals mg->mg d.name=some (.ref fa) ->
   ∃fd:FuncData,(∀(s:Shared) (u:Value),BindsTo s fd ⟨[u],[]⟩ [(x,u)])/\∀base:Heap,(K w.params).In base->base.Ns mainGlobals mg->FnOk l.prog w (K w.params) mg base (CXe l.prog w) k fa fd [x] (spLaw (K w.params))) :
  PySem.W.WalkO q loose XP YP l.row.toRowW d [] (fun f vs=>PySem.call f vs) :=
 L2.zjN (n:=63) (k:=k) (x:=x) (CX:=fun w=>CXe l.prog w) (sp:=fun w=>spLaw (K w.params)) hn (by decide) hdf hr hY F (fun _ _ a ns hl ho hS=>⟨a,ns,rfl,hS,ho,hl,fun _=>rfl⟩) fun w H s e s' ⟨_,_,_,_,_,_,_,_,_,_,_,_,_,_,_,z⟩=>z
section
variable {α β:Type}{env:zc}{st st1:Sto}{fa fb fc fo fv:zc->Mo PV}{fs:zc->Mo (List PV)}{ga gb:zc->Mo Bool}{g g':zc->Mo Fl}{op op':PV->PV->Mo PV}{o1:PV->Mo PV}{m:List PV->Mo PV}
@[simp] theorem zF (a:α) (f:α->Mo β):(Res.ok a st).bind f=f a st:=(rfl)
@[simp] theorem zqp (c:Str) (ks:List Str) (xs:List PV) (f:α->Mo β):(Res.err c ks xs st:Res α).bind f=.err c ks xs st:=(rfl)
@[simp] theorem zqq (p:Prop) [Decidable p] (a b:Res α) (f:α->Mo β):(if p then a else b).bind f=if p then a.bind f else b.bind f:=by split<;>rfl
@[simp] theorem zl1 (i:Nat):zd i env st=(match env[i]? with|some (some x)=>.ok x st|_=>.stuck):=(rfl)
@[simp] theorem zl2 (x:PV):mC x env st=.ok x st:=(rfl)
@[simp] theorem zl3:zg op fa fb env st=(fa env st).bind fun x st1=>(fb env st1).bind fun y st2=>op x y st2:=(rfl)
@[simp] theorem zl4:z0 o1 fa env st=(fa env st).bind o1:=(rfl)
@[simp] theorem zl5:mB fa env st=(fa env st).bind asB:=(rfl)
@[simp] theorem zfc (b:Bool):asB (.bl b) st=.ok b st:=(rfl)
@[simp] theorem zqr:jN op op' fa fb fc env st=(fa env st).bind fun x st1=>(fb env st1).bind fun y st2=>(op x y st2).bind fun k st3=>(asB k st3).bind fun b st4=>if b=true then (fc env st4).bind fun z st5=>op' y z st5 else .ok (.bl false) st4:=(rfl)
@[simp] theorem zfd:yV ga gb env st=(ga env st).bind fun c st1=>if c=true then gb env st1 else .ok false st1:=(rfl)
@[simp] theorem zl6:yu ga gb env st=(ga env st).bind fun c st1=>if c=true then .ok true st1 else gb env st1:=(rfl)
@[simp] theorem zl7:yE ga env st=(ga env st).bind fun c st1=>.ok (!c) st1:=(rfl)
@[simp] theorem zl8:jj fa fb env st=(fa env st).bind fun x st1=>(asB x st1).bind fun c st2=>if c=true then fb env st2 else .ok (.bl false) st2:=(rfl)
@[simp] theorem zfe:zj env st=.ok [] st:=(rfl)
@[simp] theorem zl9:ze fa fs env st=(fa env st).bind fun x st1=>(fs env st1).bind fun xs st2=>.ok (x::xs) st2:=(rfl)
@[simp] theorem zma:yW fs env st=(fs env st).bind fun xs st1=>if xs.length<=lim then .ok (.tup xs) st1 else .stuck:=(rfl)
@[simp] theorem zmb:yQ fs env st=(fs env st).bind fun xs st1=>if xs.length<=lim then .ok (.ref st1.length) (st1++[.lst xs]) else .stuck:=(rfl)
@[simp] theorem zmc (fl fu:zc->Mo (Option Int)):yJ fa fl fu env st=(fa env st).bind fun x st1=>(fl env st1).bind fun l st2=>(fu env st2).bind fun u st3=>j2 x l u st3:=(rfl)
@[simp] theorem zqs:pNone env st=.ok none st:=(rfl)
@[simp] theorem zmd:pSome fa env st=(fa env st).bind asI:=(rfl)
@[simp] theorem zme (i:Int):asI (.int i) st=.ok (some i) st:=(rfl)
@[simp] theorem zmf:zl m fs env st=(fs env st).bind m:=(rfl)
@[simp] theorem zqt (C:Int->Int->Bool) (f:Int->Int->Int) (i j:Int):opI C f (.int i) (.int j) st=if C i j=true then .ok (.int (f i j)) st else .stuck:=(rfl)
@[simp] theorem zqu (f:Int->Int->Bool) (i j:Int):opB f (.int i) (.int j) st=.ok (.bl (f i j)) st:=(rfl)
@[simp] theorem zqv (i j:Int):zZ (.int i) (.int j) st=.ok (.int (i+j)) st:=(rfl)
@[simp] theorem zmg (x y:Str):zZ (.str x) (.str y) st=if x.length+y.length<=lim then .ok (.str (x++y)) st else .stuck:=(rfl)
@[simp] theorem zbc (x:PV):optR (some x) st=.ok x st:=(rfl)
@[simp] theorem zff (xs:List PV) (l u:Option Int):j2 (.tup xs) l u st=.ok (.tup (cutP xs l u)) st:=(rfl)
@[simp] theorem zqw (xs:List PV) (l u:Option Int):j2 (.frl xs) l u st=.ok (.ref st.length) (st++[.lst (cutP xs l u)]):=(rfl)
@[simp] theorem zmh (k:Bool):zci [.bl k] st=.ok (.int (if k then 1 else 0)) st:=(rfl)
@[simp] theorem zmi (x y:PV):yo x y st=if plain x=true/\plain y=true/\dep x<=150 then .ok (.bl (eqP x y)) st else .stuck:=(rfl)
@[simp] theorem zqx (x y:PV):yX x y st=if plain x=true/\plain y=true/\dep x<=150 then .ok (.bl (!eqP x y)) st else .stuck:=(rfl)
@[simp] theorem zmj:zJ env st=.ok (.nx env) st:=(rfl)
@[simp] theorem zfg:zq g g' env st=(g env st).bind (flowOn g'):=(rfl)
@[simp] theorem zmk:flowOn g (.nx env) st=g env st:=(rfl)
@[simp] theorem zml (x:PV):flowOn g (.rt x) st=.ok (.rt x) st:=(rfl)
@[simp] theorem zmm (i:Nat):zU i fa env st=(fa env st).bind fun x st1=>.ok (.nx (env.set i (some x))) st1:=(rfl)
@[simp] theorem zqy:w9 fa env st=(fa env st).bind fun _ st1=>.ok (.nx env) st1:=(rfl)
@[simp] theorem zmn:zC fa env st=(fa env st).bind fun x st1=>.ok (.rt x) st1:=(rfl)
@[simp] theorem zfh:zH ga g g' env st=(ga env st).bind fun c st1=>if c=true then g env st1 else g' env st1:=(rfl)
@[simp] theorem zqz (c f:Str):jn c f fa env st=(fa env st).bind fun x st1=>.err c [f] [x] st1:=(rfl)
@[simp] theorem zqA (i j:Nat) (x y:PV):g2 i j (.tup [x,y]) env=some ((env.set i (some x)).set j (some y)):=(rfl)
@[simp] theorem zmo (i:Nat) (x:PV):gN i x env=some (env.set i (some x)):=(rfl)
@[simp] theorem zmp (x:PV):endOf (.rt x) st=.ok x st:=(rfl)
@[simp] theorem zqB (e:zc):endOf (.nx e) st=.ok .non st:=(rfl)
@[simp] theorem zqC (i:Nat):zaa i op fa env st=(zd i env st).bind fun x st0=>(fa env st0).bind fun y st1=>(op x y st1).bind fun z st2=>.ok (.nx (env.set i (some z))) st2:=(rfl)
@[simp] theorem zqD (i j:Int):ipAdd (.int i) (.int j) st=.ok (.int (i+j)) st:=(rfl)
@[simp] theorem zmq:za8 fa env st=(fa env st).bind seqOf:=(rfl)
@[simp] theorem zmr (xs:List PV):seqOf (.tup xs) st=.ok (.im xs) st:=(rfl)
@[simp] theorem zqE (n:Nat):seqOf (.ref n) st=zW st n fun _=>.ok (.rf n) st:=(rfl)
@[simp] theorem zqF:zcm fs env st=(fs env st).bind zab:=(rfl)
@[simp] theorem zqG (xs ys:List PV):zab [.tup xs,.tup ys] st=.ok (.im (jf xs ys)) st:=(rfl)
@[simp] theorem zms (src:zc->Mo Sq) (gt:PV->zc->Option zc):ww src gt g env st=(src env st).bind fun q st1=>forS gt g q env st1:=(rfl)
@[simp] theorem zmt (gt:PV->zc->Option zc) (xs:List PV):forS gt g (.im xs) env st=forL gt g xs env st:=(rfl)
@[simp] theorem zqH (gt:PV->zc->Option zc):forL gt g [] env st=.ok (.nx env) st:=(rfl)
@[simp] theorem zqI (i:Int):Mi.plain (.int i)=true:=(rfl)
@[simp] theorem zqJ (x:Str):Mi.plain (.str x)=true:=(rfl)
@[simp] theorem zqK (x:PV) (xs:List PV):plains (x::xs)=(Mi.plain x&&plains xs):=(rfl)
@[simp] theorem zqL (i:Int):dep (.int i)=0:=(rfl)
@[simp] theorem zqM (x:Str):dep (.str x)=0:=(rfl)
@[simp] theorem zqN (x:PV) (xs:List PV):deps (x::xs)=max (dep x) (deps xs):=(rfl)
@[simp] theorem zqO (a b:Int):eqP (.int a) (.int b)=(a==b):=(rfl)
@[simp] theorem zqP (a b:Str):eqP (.str a) (.str b)=(a==b):=(rfl)
@[simp] theorem zqQ (i j:Nat) (cn:Str):j4 i j cn fv g env st=(match fv env st with
 | .ok x st1=>.ok (.nx (env.set i (some x))) st1
 | .err c ks xs st1=>if c=cn/\ks≠[] then (noErr (g (env.set j (some (.exo c ks xs))) st1)).bind (trySuite j) else .stuck
 | .stuck=>.stuck):=(rfl)
@[simp] theorem wA (a:α):noErr (Res.ok a st)=.ok a st:=(rfl)
@[simp] theorem zqR (j:Nat) (e:zc):trySuite j (.nx e) st=.ok (.nx (e.set j none)) st:=(rfl)
@[simp] theorem zqS:isNon .non=true:=(rfl)
@[simp] theorem zqT (name:Str) (tab:Str->Option (List PV->Mo PV)):xMeth name tab fo fs env st=(noErr (fo env st)).bind fun o st1=>methAt name tab o st1 fun n m=>(noErr (fs env st1)).bind fun ys st2=>m (.ref n::ys) st2:=(rfl)
@[simp] theorem zfi (name:Str) (tab:Str->Option (List PV->Mo PV)):za6 name tab fo fs env st=(fo env st).bind fun o st1=>methAt name tab o st1 fun n m=>(fs env st1).bind fun ys st2=>m (.ref n::ys) st2:=(rfl)
theorem yF {n:Nat}{xs:List PV}(h:st[n]?=some (.lst xs)) (k:List PV->Res α):zW st n k=k xs:=by unfold zW;rw [h]
theorem jQ {n:Nat}{c:Str}{ks:List Str}{xs:List PV}(h:st[n]?=some (.ins c ks xs)) (k:Str->List Str->List PV->Res α):yH st n k=k c ks xs:=by unfold yH;rw [h]
@[simp] theorem zqU (xs:List PV) (k:List PV->Res α):zW (st++[.lst xs]) st.length k=k xs:=yF (by simp) k
theorem zbd {name:Str}{tab:Str->Option (List PV->Mo PV)}{n:Nat}{c:Str}{ks:List Str}{xs:List PV}{m:List PV->Mo PV}(h:st[n]?=some (.ins c ks xs)) (hk:name∉ks) (ht:tab c=some m) (k:Nat->(List PV->Mo PV)->Res PV):methAt name tab (.ref n) st k=k n m:=by
 unfold methAt
 simp only [jQ h,if_neg hk,ht]
@[simp] theorem zbe (f:Str) (i x:Str->Bool) (n:Nat):fldAt f i x (.ref n) st=yH st n fun c ks xs=>if i c=true then optR ((ks.zip xs).lookup f) st else .stuck:=(rfl)
@[simp] theorem zmu (f:Str) (i x:Str->Bool) (c:Str) (ks:List Str) (xs:List PV):fldAt f i x (.exo c ks xs) st=if x c=true then optR ((ks.zip xs).lookup f) st else .stuck:=(rfl)
@[simp] theorem zqV (ks:List Str) (ps:List PV) (z:Str):kdAt ks ps (.str z) st=optR ((ks.zip ps).lookup z) st:=(rfl)
@[simp] theorem zqW (tab:Str->Option (List PV->Mo PV)):zcj tab fa fs env st=(fa env st).bind fun f st1=>match f with | .fn x=>(match tab x with|some m=>(fs env st1).bind m|none=>.stuck)|_=>.stuck:=(rfl)
@[simp] theorem zqX (f:Str) (i:Str->Bool):Mi.sFld f i fo fv env st=(fv env st).bind fun x st1=>(fo env st1).bind fun o st2=>(putAt f i x o st2).bind fun _ st3=>.ok (.nx env) st3:=(rfl)
@[simp] theorem zqY:zba op fo fv env st=(fo env st).bind fun o st1=>(recL o st1).bind fun o st1=>(fv env st1).bind fun y st2=>op o y st2:=(rfl)
@[simp] theorem zqZ (n:Nat):recL (.ref n) st=zW st n fun _=>.ok (.ref n) st:=(rfl)
@[simp] theorem zq0 (a b:String):(Str.ofString a=Str.ofString b)↔a=b:=by
 constructor
 ·intro h
  rw [Str.ofString_eq_byList] at h
  have h1:(a.toList.map Char.toNat)=(b.toList.map Char.toNat):=by
   have:=congrArg (fun z=>z.cps.toList) h
   simpa [Str.ofStringByList] using this
  apply String.ext_iff.mpr
  exact (List.map_inj_right (fun c d e=>Char.toNat_inj.mp e)).mp h1
 ·intro h;rw [h]
@[simp] theorem zq1 (a b:String):(Str.ofString a==Str.ofString b)=(a==b):=by
 rw [Bool.eq_iff_iff];simp
theorem zfj (n:Nat):whileF ga g (n+1) env st=(ga env st).bind fun c st1=>if c=true then (g env st1).bind fun fl st2=>match fl with
   | .nx e=>whileF ga g n e st2
   | .ct e=>whileF ga g n e st2
   | .bk e=>.ok (.nx e) st2
   | .rt v=>.ok (.rt v) st2
  else .ok (.nx env) st1:=rfl
@[simp] theorem zcr:lim=1000000:=(rfl)
@[simp] theorem zq2 (f:Str) (i:Str->Bool) (x:PV) (n:Nat):Mi.putAt f i x (.ref n) st=yH st n fun c ks xs=>if i c=true/\ks.length<1000 then .ok () (st.set n (.ins c (putK f x ks xs).1 (putK f x ks xs).2)) else .stuck:=(rfl)
end
section
variable {K:Frag}{mg:Str->Option Value}{h:Heap}{x:Str}{f C:Addr}{oc:Value}{od an:Option Addr}{osl:Array (Option Value)}{kV doc pm cdv ct:Value}{sm:Stmt}{ps:List Str}
theorem yj (X:K.In h) (G:h.Ns mainGlobals mg) (a:nsIn K mainGlobals x=some (some (.ref f))) (l:K.lookup f=some ⟨oc,od,.func (fnOf x x (yN sm) (yt sm) (zw sm) .none kV doc pm an cdv ct),osl⟩) (c:codeIn K cdv x=true) (k:keepIn K (.ref f)=true)
  (b:∀(kV doc pm:Value) (an:Option Addr) (cdv ct:Value) (us:List Value),us.length=ps.length->bindArgs (fnOf x x (yN sm) (yt sm) (zw sm) .none kV doc pm an cdv ct) ⟨us,[]⟩=pure (ps.zip us)):FnF K mg x sm ps :=
 ⟨f,_,mg_of X G a,jL l c k,(jL l c k).binds b⟩
theorem zcs {c name qual:Str} (X:K.In h) (G:h.Ns mainGlobals mg) (aC:nsIn K mainGlobals c=some (some (.ref C))) (pg:plainGet K C Str.empty=true) (hd:hasDictIn K C=true) (po:plainOver K C=true) (sa:findIn K (.ref C) "__setattr__" = some (some (.builtin "object.__setattr__")))
  (a:findIn K (.ref C) name=some (some (.ref f))) (i:isFn K (.ref f)=true) (l:K.lookup f=some ⟨oc,od,.func (fnOf name qual (yN sm) (yt sm) (zw sm) .none kV doc pm an cdv ct),osl⟩) (cd:codeIn K cdv qual=true) (k:keepIn K (.ref f)=true)
  (b:∀(kV doc pm:Value) (an:Option Addr) (cdv ct:Value) (us:List Value),us.length=ps.length->bindArgs (fnOf name qual (yN sm) (yt sm) (zw sm) .none kV doc pm an cdv ct) ⟨us,[]⟩=pure (ps.zip us)):MtF K mg c name qual sm ps :=
 ⟨C,f,_,mg_of X G aC,⟨pg,hd,po,sa⟩,⟨a,i,k⟩,jL l cd k,(jL l cd k).binds b⟩
theorem zmv {c qual:Str}(X:K.In h) (G:h.Ns mainGlobals mg) (aC:nsIn K mainGlobals c=some (some (.ref C))) (mk:makesIn K C=true) (kc:keepIn K (.ref C)=true)
  (a:findIn K (.ref C) "__init__" = some (some (.ref f))) (i:isFn K (.ref f)=true) (l:K.lookup f=some ⟨oc,od,.func (fnOf "__init__" qual (yN sm) (yt sm) (zw sm) .none kV doc pm an cdv ct),osl⟩) (cd:codeIn K cdv qual=true) (k:keepIn K (.ref f)=true)
  (b:∀(kV doc pm:Value) (an:Option Addr) (cdv ct:Value) (us:List Value),us.length=ps.length->bindArgs (fnOf "__init__" qual (yN sm) (yt sm) (zw sm) .none kV doc pm an cdv ct) ⟨us,[]⟩=pure (ps.zip us)):NwF K mg c qual sm ps :=
 ⟨C,f,_,mg_of X G aC,⟨mk,a,i,kc⟩,jL l cd k,(jL l cd k).binds b⟩
theorem zmw {cd:ClassData}(h:clsIn K C=some cd) (v:valLine cd.mro=true):lineIn K C=true:=by unfold lineIn;rw [h];exact v
theorem zfk {c fld qual:Str}{B N:Addr}{nm q:Str}{bs:List Value}{hdct:Bool}{sn:List Str}{sub:List Value}{ab:Bool}{col:Option Bool}{dd:Option Addr}{k0 k1 k2 k3 k5:Option Value}{cc:Value}{d:Option Addr}{es:Array DictEntry}{n:Nat}{sl:Array (Option Value)}{cd0:ClassData}
  (X:K.In h) (G:h.Ns mainGlobals mg) (aC:nsIn K mainGlobals c=some (some (.ref C)))
  (hC:K.lookup C=some (excClassObj nm q C N bs (.ref B::veLine) hdct sn sub ab col dd k0 k1 k2 k3 k5 "ValueError.__new__")) (hB:excIn K B veLine "ValueError.__new__" = true)
  (hN:K.lookup N=some ⟨cc,d,.dict es n,sl⟩) (he:(es.all fun e=>match e.key with | .str _ _=>true|_=>false)=true) (hi:nsIn K N "__init__" = some (some (.ref f))) (fn:isFn K (.ref f)=true) (kp:keepIn K (.ref C)=true)
  (sa:findIn K (.ref C) "__setattr__" = some (some (.builtin "object.__setattr__"))) (hcl:clsIn K C=some cd0) (hl:valLine cd0.mro=true) (no:takerIn K C fld=some none) (hdI:hasDictIn K C=true)
  (l:K.lookup f=some ⟨oc,od,.func (fnOf "__init__" qual (yN sm) (yt sm) (zw sm) .none kV doc pm an cdv ct),osl⟩) (cdd:codeIn K cdv qual=true) (k:keepIn K (.ref f)=true)
  (b:∀(kV doc pm:Value) (an:Option Addr) (cdv ct:Value) (us:List Value),us.length=[("self" : Str),fld].length->bindArgs (fnOf "__init__" qual (yN sm) (yt sm) (zw sm) .none kV doc pm an cdv ct) ⟨us,[]⟩=pure ([("self" : Str),fld].zip us)):XnF K mg c fld qual sm :=
 ⟨C,f,_,mg_of X G aC,ExMk.mk' hC hB hN he hi fn kp,⟨sa,zmw hcl hl,no,hdI⟩,jL l cdd k,(jL l cdd k).binds b⟩
theorem zfl {c fld:Str} (X:K.In h) (G:h.Ns mainGlobals mg) (aC:nsIn K mainGlobals c=some (some (.ref C))) (pg:plainGet K C Str.empty=true) (hd:hasDictIn K C=true) (po:plainOver K C=true) (sa:findIn K (.ref C) "__setattr__" = some (some (.builtin "object.__setattr__"))) (na:findIn K (.ref C) fld=some none) :
  ∃C,mg c=some (.ref C)/\Cls K C/\NoAttr K C fld:=⟨C,mg_of X G aC,⟨pg,hd,po,sa⟩,na⟩
theorem zbf {c fld:Str} (X:K.In h) (G:h.Ns mainGlobals mg) (aC:nsIn K mainGlobals c=some (some (.ref C))) (ga:findIn K (.ref C) "__getattribute__" = some (some (.builtin "BaseException.__getattribute__"))) (hk:findIn K (.ref C) "__getattr__" = some none) (hB:mroIn K C (.type "BaseException")=some true)
  (hd:hasDictIn K C=true) (no:findIn K (.ref C) fld=some none):∃C,mg c=some (.ref C)/\ExGa K C/\hasDictIn K C=true/\findIn K (.ref C) fld=some none:=⟨C,mg_of X G aC,⟨ga,hk,hB⟩,hd,no⟩
theorem zad {α:Type}{P:α->Prop}:∀p∈([]:List α),P p:=fun _ h=>nomatch h
theorem all_cons {α:Type}{P:α->Prop}{a:α}{l:List α}(h:P a) (t:∀p∈l,P p):∀p∈a::l,P p:=fun p hp=>by
 rcases List.mem_cons.mp hp with rfl|hp
 ·exact h
 ·exact t p hp
theorem jD {c B:Str} {D:Addr} {b:Bool} {cdD:ClassData} (X:K.In h) (G:h.Ns mainGlobals mg) (aC:nsIn K mainGlobals c=some (some (.ref C))) (aD:nsIn K mainGlobals B=some (some (.ref D))) (h1:clsIn K D=some cdD) (h2:typeIn K (.ref D)=some (.type "type")) (h3:subIn K (.ref C) (.ref D)=some b) (hne:C≠D) :
  ∃C D,mg c=some (.ref C)/\mg B=some (.ref D)/\kitOne K (.ref C) (.ref D)=some b:=⟨C,D,mg_of X G aC,mg_of X G aD,zlW (by rw [h1];rfl) h2 h3 hne⟩
theorem zmx {c:Str}{T:String}{b:Bool}(X:K.In h) (G:h.Ns mainGlobals mg) (aC:nsIn K mainGlobals c=some (some (.ref C))) (h1:kitMeta T=true) (h3:subIn K (.ref C) (.type T)=some b):∃C,mg c=some (.ref C)/\kitOne K (.ref C) (.type T)=some b:=⟨C,mg_of X G aC,zlX h1 h3⟩
theorem zmy {c:Str} (X:K.In h) (G:h.Ns mainGlobals mg) (aC:nsIn K mainGlobals c=some (some (.ref C))) (ga:findIn K (.ref C) "__getattribute__" = some (some (.builtin "BaseException.__getattribute__"))) (hk:findIn K (.ref C) "__getattr__" = some none) (hB:mroIn K C (.type "BaseException")=some true)
  (hd:hasDictIn K C=true) (ha:findIn K (.ref C) "__class__" = some (some (.builtin "object.__class__"))) (hn:specialIn K (.builtin "object.__class__") "__get__" = some (some (.builtin "getset_descriptor.__get__"))) (tk:takesIn K (.builtin "object.__class__")=some true) (hm:mroIn K C (.type "object")=some true) :
  ∀D,mg c=some (.ref D)->ExIs K D:=fun D hD=>by
 have e:=mg_of X G aC
 rw [hD] at e
 cases e
 exact ⟨⟨ga,hk,hB⟩,hd,ha,hn,tk,hm⟩
theorem wB {α β:Type} [BEq α] [LawfulBEq α] {a:α}{b:β}:∀{l:List (α×β)},l.lookup a=some b->(a,b)∈l
 | [],h=>by simp at h
 | (c,d)::l,h=>by
  rw [List.lookup_cons] at h
  split at h
  ·rename_i e;cases h;rw [eq_of_beq e];simp
  ·exact List.mem_cons_of_mem _ (wB h)
theorem jo {O t t2:Addr} {wd k1 k2 y:Str} {u1 u2:Tok} {n n2:Nat} {od2:Option Addr} {sl sl2:Array (Option Value)} (X:K.In h) (G:h.Ns mainGlobals mg) (e:nsIn K O wd=some (some (.ref t))) (l1:K.lookup t=some ⟨.type "tuple", od,.seq #[.ref t2,.ref f] n,sl⟩)
  (l2:K.lookup t2=some ⟨.type "tuple", od2,.seq #[.str k1 u1,.str k2 u2] n2,sl2⟩) (a:nsIn K mainGlobals y=some (some (.ref f))):∃u v,nsIn K O wd=some (some u)/\RelV v u/\∀ρ H,R K mg ρ H (.tup [.tup [.str k1,.str k2],.fn y]) v:=by
 refine ⟨_,.ref t,e,rfl,wy (xs:=[.tup [.str k1,.str k2],.fn y]) (vs:=[.ref t2,.ref f]) l1 rfl (by simp) (.cons rfl (.cons rfl .nil)) fun ρ H=>?_⟩
 exact ⟨_,_,rfl,wy (xs:=[.str k1,.str k2]) (vs:=[.str k1,.str k2]) l2 rfl (by simp) (.cons ⟨_,rfl⟩ (.cons ⟨_,rfl⟩ .nil)) (fun ρ H=>⟨_,_,rfl,rfl,_,_,rfl,rfl,rfl⟩) ρ H,_,_,rfl,⟨f,rfl,mg_of X G a⟩,rfl⟩
theorem zae {O t t2:Addr} {wd k1 y:Str} {u1:Tok} {n n2:Nat} {od2:Option Addr} {sl sl2:Array (Option Value)} (X:K.In h) (G:h.Ns mainGlobals mg) (e:nsIn K O wd=some (some (.ref t))) (l1:K.lookup t=some ⟨.type "tuple", od,.seq #[.ref t2,.ref f] n,sl⟩)
  (l2:K.lookup t2=some ⟨.type "tuple", od2,.seq #[.str k1 u1] n2,sl2⟩) (a:nsIn K mainGlobals y=some (some (.ref f))):∃u v,nsIn K O wd=some (some u)/\RelV v u/\∀ρ H,R K mg ρ H (.tup [.tup [.str k1],.fn y]) v:=by
 refine ⟨_,.ref t,e,rfl,wy (xs:=[.tup [.str k1],.fn y]) (vs:=[.ref t2,.ref f]) l1 rfl (by simp) (.cons rfl (.cons rfl .nil)) fun ρ H=>?_⟩
 exact ⟨_,_,rfl,wy (xs:=[.str k1]) (vs:=[.str k1]) l2 rfl (by simp) (.cons ⟨_,rfl⟩ .nil) (fun ρ H=>⟨_,_,rfl,rfl,rfl⟩) ρ H,_,_,rfl,⟨f,rfl,mg_of X G a⟩,rfl⟩
end
theorem zmz {P:Program}{w:World}{K:Frag}{mg:Str->Option Value}{x y:Str}{sm:Stmt}{fa:Addr}{k:Nat}{m:List PV->Mo PV}(h:FnF K mg x sm [y]) (hmg:mg x=some (.ref fa))
  (hb:∀(kV doc pm:Value) (an:Option Addr) (cdv ct:Value) (u:Value),bindArgs (fnOf x x (yN sm) (yt sm) (zw sm) .none kV doc pm an cdv ct) ⟨[u],[]⟩=pure [(y,u)])
  (hok:∀(f:Addr) (fd:FuncData),Fun K x x sm f fd->∀base:Heap,FnOk P w K mg base (CXe P w) k f fd [y] (spM K mg m)) (hp:∀ns:List Int,ns.length<=63->∃st,m [.frl (ns.map PV.int)] []=.ok (.bl true) st) :
  ∃fd:FuncData,(∀(s:Shared) (u:Value),BindsTo s fd ⟨[u],[]⟩ [(y,u)])/\∀base:Heap,K.In base->base.Ns mainGlobals mg->FnOk P w K mg base (CXe P w) k fa fd [y] (spLaw K):=by
 obtain ⟨f,fd,hm,F,_⟩:=h
 rw [hmg] at hm
 cases hm
 refine ⟨fd,fun s u=>?_,fun base _ _=>zl0 (hok fa fd F base) hp⟩
 obtain ⟨oc,od,kV,doc,pm,an,cdv,ct,osl,rfl,_⟩:=F.ex
 exact .of_eq (hb kV doc pm an cdv ct u)
theorem jh {K:Frag}{mg:Str->Option Value}{h:Heap}{x:Str}{f:Addr}(X:K.In h) (G:h.Ns mainGlobals mg) (a:nsIn K mainGlobals x=some (some (.ref f))):∃f,mg x=some (.ref f):=⟨f,mg_of X G a⟩
theorem zmA {K:Frag}{mg:Str->Option Value}{h:Heap}{x:Str}{i:Int}{t:Tok}(X:K.In h) (G:h.Ns mainGlobals mg) (a:nsIn K mainGlobals x=some (some (.int i t))):∃t,mg x=some (.int i t):=⟨t,mg_of X G a⟩
theorem yZ {K:Frag}{mg:Str->Option Value}{h:Heap}{x:Str}(X:K.In h) (G:h.Ns mainGlobals mg) (a:nsIn K mainGlobals x=some none):mg x=none:=mg_none_of X G a
section
variable {X:Cx}{Er:XK}{K:Frag}{mg:Str->Option Value}{a b c e o:Expr}{es:List Expr}{pos p apos pos':Pos}{fa fb fc fo:zc->Mo PV}{fs:zc->Mo (List PV)}
abbrev kz (ks:List Str) (vs:List V):List (Key×V):=(ks.map Sum.inr).zip vs
theorem zct {z:Str}:∀{ks:List Str}{vs:List V},valV (kz ks vs) (Sum.inr z)=(ks.zip vs).lookup z
 | [],_=>by simp [kz,valV]
 | k::ks,[]=>by simp [kz,valV]
 | k::ks,v::vs=>by
  have ih:=zct (z:=z) (ks:=ks) (vs:=vs)
  by_cases h:k=z
  ·subst h
   rw [show kz (k::ks) (v::vs)=(Sum.inr k,v)::kz ks vs from rfl,zaM rfl]
   simp [List.lookup_cons]
  ·rw [show kz (k::ks) (v::vs)=(Sum.inr k,v)::kz ks vs from rfl,zaN (by simpa using h),ih]
   have:(z==k)=false:=by simpa using fun q=>h q.symm
   simp [List.lookup_cons,this]
theorem zfm {z:Str}:∀{ks:List Str}{vs:List V},ks.length=vs.length->((kz ks vs).any fun kv=>decide (kv.1=Sum.inr z))=ks.contains z
 | [],_,_=>by simp [kz]
 | k::ks,[],h=>by simp at h
 | k::ks,v::vs,h=>by
  have ih:=zfm (z:=z) (ks:=ks) (vs:=vs) (by simpa using h)
  rw [show kz (k::ks) (v::vs)=(Sum.inr k,v)::kz ks vs from rfl,List.any_cons,ih,List.contains_cons]
  congr 1
  by_cases hz:k=z
  ·subst hz;simp
  ·have:(z==k)=false:=by simpa using fun q=>hz q.symm
   simp [hz,this]
def repl {α:Type}(z:Str) (x:α):List Str->List α->List α
 | k::ks,y::ys=>(if k=z then x else y)::repl z x ks ys
 | _,ys=>ys
def yS (z:Str) (x:PV) (ks:List Str) (xs:List PV):List Str×List PV:=if ks.contains z=true then (ks,repl z x ks xs) else (ks++[z],xs++[x])
theorem zfn {z:Str}{v:V}:∀{ks:List Str}{vs:List V},(kz ks vs).map (fun kv=>if kv.1=Sum.inr z then (kv.1,v) else kv)=kz ks (repl z v ks vs)
 | [],_=>by simp [kz]
 | k::ks,[]=>by simp [kz,repl]
 | k::ks,w::vs=>by
  rw [show kz (k::ks) (w::vs)=(Sum.inr k,w)::kz ks vs from rfl,List.map_cons,zfn,show repl z v (k::ks) (w::vs)=(if k=z then v else w)::repl z v ks vs from rfl,show ∀u us,kz (k::ks) (u::us)=(Sum.inr k,u)::kz ks us from fun _ _=>rfl]
  by_cases h:k=z
  ·subst h;simp
  ·rw [if_neg (by simpa using h),if_neg h]
theorem zfo {ρ:List Addr}{H:Hp}{z:Str}{x:PV}{v:V}(r:R K mg ρ H x v):∀{ks:List Str}{xs:List PV}{vs:List V},Rs K mg ρ H xs vs->Rs K mg ρ H (repl z x ks xs) (repl z v ks vs)
 | [],xs,vs,h=>by cases xs<;>cases vs<;>exact h
 | k::ks,[],vs,h=>by cases h;exact rfl
 | k::ks,y::ys,vs,h=>by
  obtain ⟨w,ws,rfl,h1,h2⟩:=h
  refine ⟨_,_,rfl,?_,zfo r h2⟩
  split
  ·exact r
  ·exact h1
theorem zfp {α:Type}{z:Str}{x:α}:∀{ks:List Str}{xs:List α},(repl z x ks xs).length=xs.length
 | [],xs=>by cases xs<;>rfl
 | k::ks,[]=>rfl
 | k::ks,y::ys=>by simp [repl,zfp (ks:=ks)]
theorem zfq {ρ:List Addr}{H:Hp}{z:Str}{x:PV}{v:V}(r:R K mg ρ H x v) {ks:List Str}{xs:List PV}{vs:List V}(hl:ks.length=vs.length) (h:Rs K mg ρ H xs vs):∃ws,L2.putK (kz ks vs) (Sum.inr z) v=kz (yS z x ks xs).1 ws/\Rs K mg ρ H (yS z x ks xs).2 ws/\(yS z x ks xs).1.length=ws.length:=by
 unfold L2.putK yS
 rw [zfm hl]
 by_cases hc:ks.contains z=true
 ·rw [if_pos hc,if_pos hc]
  exact ⟨repl z v ks vs,zfn,zfo r h,by rw [zfp];exact hl⟩
 ·rw [if_neg hc,if_neg hc]
  refine ⟨vs++[v],?_,h.append ⟨v,[],rfl,r,rfl⟩,by simp [hl]⟩
  show _=(List.map Sum.inr (ks++[z])).zip (vs++[v])
  rw [List.map_append,List.zip_append (by simpa using hl)]
  rfl
def zfr:zc->Mo PV:=fun _ st=>.ok (.ref st.length) (st++[.dic [] []])
theorem zmB:ME X Er (.Dict [] [] pos) zfr:=PE.weak zj6 fun U H Q ⟨env,st,ρ,re,rs,h⟩=>fun q hq =>
 h (ρ++[q]) _ (Ext.push hq) (rs.push hq ⟨[],zY,rfl,rfl⟩) _ ⟨q,rfl,by rw [<-rs.len];simp⟩
def zfs:PV->PV->Mo PV
 | .ref n,.str z,st=>yC st n fun ks xs=>optR ((ks.zip xs).lookup z) st
 | _,_,_=>.stuck
def zI:PV->PV->Mo PV
 | .ref n,.str z,st=>zfs (.ref n) (.str z) st
 | x,y,st=>oIx x y st
def zmC:R2:=fun x y H Q=>∃a v,x=.ref a/\DGet H a y (some v)/\Q v H
theorem zmD (hu:X.A.units+1<cLine):IxR X zmC:=by
 intro value slice pins s U H x y v u Q I rx ry h hs
 obtain ⟨a,w,rfl,g,q⟩:=h
 obtain rfl:v=Value.ref a:=rx
 exact PyProof.Rows.tail_any (zj2 I g) PySem.F.slot_dict_getitem.lookup (zjX hu I g ry fun w' s' I' rw'=>⟨w,H,I',rw',q⟩) hs
theorem R.refD {ρ:List Addr}{H:Hp}{st:Sto}{n:Nat}{ks:List Str}{xs:List PV}{v:V}(s:StR K mg ρ H st) (r:R K mg ρ H (.ref n) v) (h:st[n]?=some (.dic ks xs)):∃a vs,v=.ref a/\ρ[n]?=some a/\H a=some (.dK (kz ks vs))/\Rs K mg ρ H xs vs/\ks.length=vs.length:=by
 obtain ⟨a,rfl,ha⟩:=r
 obtain ⟨vs,h1,h2,h3⟩:=s.addr h ha
 exact ⟨a,vs,rfl,ha,h1,h2,h3⟩
theorem zft {H:Hp}{a:Addr}{ks:List Str}{vs:List V}{z:Str}(h:H a=some (.dK (kz ks vs))):DGet H a (.str z) ((ks.zip vs).lookup z):=by
 have g:=DGet.k (k:=Sum.inr z) h
 rw [zct] at g
 exact g
theorem yg (hu:X.A.units+200<cLine):IxOk X zI:=by
 obtain ⟨r,h1,h2⟩:=zk9 (X:=X)
 refine ⟨_,h1.or (zmD (by omega)),fun ρ H st x y v w Q E s rx ry h=>?_⟩
 by_cases hx:∃n z,x=.ref n/\y=.str z
 ·obtain ⟨n,z,rfl,rfl⟩:=hx
  obtain ⟨ks,xs,e,h⟩:=zcb (show Out X.K X.mg ρ H (yC st n fun ks xs=>optR ((ks.zip xs).lookup z) st) (gV X.K X.mg Q) E from h)
  obtain ⟨q,hq,h⟩:=jP h
  obtain ⟨a,vs,rfl,_,k1,k2,_⟩:=R.refD s rx e
  cases ry
  obtain ⟨v,hv,rv⟩:=wv k2 hq
  refine .inr ⟨a,v,rfl,?_,h.now s _ rv⟩
  have g:=zft (z:=z) k1
  rw [hv] at g
  exact g
 ·refine .inl (h2 ρ H st x y v w Q E s rx ry ?_)
  have:zI x y st=oIx x y st:=by
   unfold zI
   split
   ·rename_i n z;exact absurd ⟨n,z,rfl,rfl⟩ hx
   ·rfl
  rw [this] at h
  exact h
def jp (z x:PV):PV->Mo Unit
 | .ref n,st=>match z with
  | .str z=>yC st n fun ks xs=>if ks.length<lim then .ok () (st.set n (.dic (yS z x ks xs).1 (yS z x ks xs).2)) else .stuck
  | _=>.stuck
 | _,_=>.stuck
def zaf (fo fi fv:zc->Mo PV):zc->Mo Fl:=fun env st=>(fv env st).bind fun x st1=>(fo env st1).bind fun o st2=>(fi env st2).bind fun z st3=>(jp z x o st3).bind fun _ st4=>.ok (.nx env) st4
theorem zmE {i value:Expr}{fi fv:zc->Mo PV}(hu:X.A.units+200<cLine) (ho:ME X Er o fo) (hi:ME X Er i fi) (hv:ME X Er value fv) (hs:swapsWith value (some (.Subscript o i pos')) pos.line X.env=pure false:=by rfl):MS X Er (.Assign [.Subscript o i pos'] value pos) (zaf fo fi fv) :=
 PS.weak (zj4 (by omega) ho hi hv hs) fun D U H ⟨env,st,ρ,re,rs,h⟩=>⟨env,st,ρ,re,rs,h.then fun ad H1 x st1 e1 s1 h1 v rv=>⟨env,st1,ad,re.ext e1,s1,h1.then fun al H2 y st2 e2 s2 h2 w rw=>⟨env,st2,al,(re.ext e1).ext e2,s2,h2.then fun am H3 zz st3 e3 s3 h3 u ru=>by
  cases y with
  | ref n =>
   cases zz with
   | str z =>
    cases hn:st3[n]? with
    | none=>simp only [jp,yC,hn] at h3;exact False.elim h3
    | some so =>
     cases so with
     | lst _=>simp only [jp,yC,hn] at h3;exact False.elim h3
     | ins _ _ _=>simp only [jp,yC,hn] at h3;exact False.elim h3
     | fdi _ _=>simp only [jp,yC,hn] at h3;exact False.elim h3
     | dic ks xs =>
      simp only [jp,yC,hn] at h3
      by_cases hc:ks.length<lim
      ·rw [if_pos hc] at h3
       obtain ⟨a,vs,e4,ha,k1,k2,k3⟩:=R.refD s3 (R.ext e3 _ rw) hn
       subst e4
       cases ru
       obtain ⟨ws,q1,q2,q3⟩:=zfq (z:=z) (R.ext e3 x (R.ext e2 x rv)) k3 k2
       have hlen:(kz ks vs).length<sizeLine:=by
        have:(kz ks vs).length=ks.length:=by simp [kz,k3]
        rw [this,sizeLine_eq]
        have:ks.length<1000000:=hc
        omega
       have g:=DPut.k (k:=Sum.inr z) (v:=v) k1 hlen
       have ew:Ext am H3 am (upd H3 a (.dK (L2.putK (kz ks vs) (Sum.inr z) v))):=Ext.write k1 rfl
       refine ⟨a,_,rfl,g,h3 am _ ew (s3.write ha ew ⟨ws,by rw [zY,q1],Rs.ext ew _ q2,q3⟩) U ((((re.ext e1).ext e2).ext e3).ext ew)⟩
      ·rw [if_neg hc] at h3;exact False.elim h3
   | _=>exact False.elim h3
  | _=>exact False.elim h3⟩⟩⟩
end
open Classical in
noncomputable def eIn (K:Frag) (mg:Str->Option Value) (ρ:List Addr) (H:Hp) (ys:List PV) (x:PV) (u:Value):Bool:=decide (∃y v,y∈ys/\R K mg ρ H y v/\RelV v u/\eqP y x=true)
section
variable {X:Cx}{Er:XK}{K:Frag}{mg:Str->Option Value}{ρ:List Addr}{pins:List (Addr×Obj)}{U:L2.St}{H:Hp}{s:Shared}
def okIn (x:PV) (ys:List PV):Prop:=Mi.plain x=true/\plains ys=true/\deps ys<=150
instance (x:PV) (ys:List PV):Decidable (okIn x ys):=by unfold okIn;infer_instance
theorem Rs.mem:∀{xs:List PV}{vs:List V}{us:List Value}{u:Value},Rs K mg ρ H xs vs->Vals vs us->u∈us->∃y v,y∈xs/\R K mg ρ H y v/\RelV v u
 | [],_,_,_,h,hv,hu=>by cases h;cases hv;cases hu
 | x::xs,_,_,u,h,hv,hu=>by
  obtain ⟨v,r,rfl,h1,h2⟩:=h
  cases hv with
  | cons r1 r2 =>
   rcases List.mem_cons.mp hu with rfl|hu
   ·exact ⟨x,v,by simp,h1,r1⟩
   ·obtain ⟨y,w,q1,q2,q3⟩:=Rs.mem h2 r2 hu
    exact ⟨y,w,by simp [q1],q2,q3⟩
theorem Rs.mem':∀{xs:List PV}{vs:List V}{us:List Value}{y:PV},Rs K mg ρ H xs vs->Vals vs us->y∈xs->∃u v,u∈us/\R K mg ρ H y v/\RelV v u
 | [],_,_,_,_,_,hy=>by cases hy
 | x::xs,_,_,y,h,hv,hy=>by
  obtain ⟨v,r,rfl,h1,h2⟩:=h
  cases hv with
  | cons r1 r2 =>
   rcases List.mem_cons.mp hy with rfl|hy
   ·exact ⟨_,v,by simp,h1,r1⟩
   ·obtain ⟨u,w,q1,q2,q3⟩:=Rs.mem' h2 r2 hy
    exact ⟨u,w,by simp [q1],q2,q3⟩
theorem zmF {ys:List PV}{y:PV}(h:plains ys=true) (hy:y∈ys):Mi.plain y=true:=by
 obtain ⟨i,hi⟩:=List.getElem?_of_mem hy
 exact za0 h hi
theorem zmG {ys:List PV}{y:PV}(hy:y∈ys):dep y<=deps ys:=by
 obtain ⟨i,hi⟩:=List.getElem?_of_mem hy
 exact zcg hi
open Classical in
theorem zbg (I:Inv X pins U H s) {A:Around}(hu:A.units+200<cLine) {ys:List PV}{vs:List V}{us:List Value}{x:PV}{w:V}{v:Value}(ok:okIn x ys) (ry:Rs X.K mg ρ H ys vs) (rv:Vals vs us) (rx:R X.K mg ρ H x w) (rw:RelV w v) :
  (∀u∈us,SeqAt.EqAt A.in1 s u v (eIn X.K mg ρ H ys x u))/\us.any (eIn X.K mg ρ H ys x)=ys.any fun y=>eqP y x:=by
 obtain ⟨px,py,hd⟩:=ok
 have one:∀y v' u,y∈ys->R X.K mg ρ H y v'->RelV v' u->SeqAt.EqAt A.in1 s u v (eqP y x):=fun y v' u hy r1 r2 =>
  (zch I 150 y x A.in1 (Nat.le_trans (zmG hy) hd) (zmF py hy) px r1 rx r2 rw (by rw [w5];omega)).1
 refine ⟨fun u hu'=>?_,?_⟩
 ·obtain ⟨y,v',q1,q2,q3⟩:=Rs.mem ry rv hu'
  by_cases h:∃y v,y∈ys/\R X.K mg ρ H y v/\RelV v u/\eqP y x=true
  ·have e:eIn X.K mg ρ H ys x u=true:=by simpa [eIn] using h
   obtain ⟨y2,v2,z1,z2,z3,z4⟩:=h
   rw [e,<-z4]
   exact one y2 v2 u z1 z2 z3
  ·have e:eIn X.K mg ρ H ys x u=false:=by unfold eIn;exact decide_eq_false h
   rw [e]
   have:eqP y x=false:=by
    cases hq:eqP y x with
    | false=>rfl
    | true=>exact absurd ⟨y,v',q1,q2,q3,hq⟩ h
   rw [<-this]
   exact one y v' u q1 q2 q3
 ·rw [Bool.eq_iff_iff]
  simp only [List.any_eq_true]
  constructor
  ·rintro ⟨u,hu',he⟩
   have h:∃y v,y∈ys/\R X.K mg ρ H y v/\RelV v u/\eqP y x=true:=by unfold eIn at he;exact of_decide_eq_true he
   obtain ⟨y,v',z1,_,_,z4⟩:=h
   exact ⟨y,z1,z4⟩
  ·rintro ⟨y,hy,he⟩
   obtain ⟨u,v',q1,q2,q3⟩:=Rs.mem' ry rv hy
   exact ⟨u,q1,by unfold eIn;exact decide_eq_true ⟨y,v',hy,q2,q3,he⟩⟩
def yk (neg:Bool):PV->PV->Mo PV
 | x,.tup ys,st=>if okIn x ys then .ok (.bl (neg.xor (ys.any fun y=>eqP y x))) st else .stuck
 | x,.frl ys,st=>if okIn x ys then .ok (.bl (neg.xor (ys.any fun y=>eqP y x))) st else .stuck
 | x,.ref n,st=>match st[n]?,x with
  | some (.lst ys),x=>if okIn x ys then .ok (.bl (neg.xor (ys.any fun y=>eqP y x))) st else .stuck
  | some (.dic ks xs),.str z=>.ok (.bl (neg.xor ((ks.zip xs).lookup z).isSome)) st
  | _,_=>.stuck
 | .str ⟨⟨[c]⟩⟩,.str z,st=>.ok (.bl (neg.xor (decide (c∈z.cps.toList)))) st
 | _,_,_=>.stuck
def zcu (K:Frag) (mg:Str->Option Value) (neg:Bool):R2:=fun v w H Q =>
 (∃ρ x ys vs p,okIn x ys/\w=.ref p/\(SqL K H p vs\/SqT K H p vs)/\Rs K mg ρ H ys vs/\R K mg ρ H x v/\Q (.bl (neg.xor (ys.any fun y=>eqP y x))) H) \/
 (∃p o,w=.ref p/\DGet H p v o/\Q (.bl (neg.xor o.isSome)) H)\/∃(c:Nat) (z:Str),v=.str ⟨#[c]⟩/\w=.str z/\Q (.bl (neg.xor (decide (c∈z.cps.toList)))) H
theorem zmH (hu:X.A.units+200<cLine):OpR X (compareOp .In) (zcu X.K X.mg false):=by
 intro pins s U H x y v u Q I rx ry h
 rcases h with ⟨ρ,a,ys,vs,p,ok,rfl,hq,rys,ra,q⟩|⟨p,o,rfl,g,q⟩|⟨c,z,rfl,rfl,q⟩
 ·obtain rfl:u=Value.ref p:=ry
  rcases hq with hq|hq
  ·obtain ⟨its,r,pl,_⟩:=I.list hq
   obtain ⟨f1,f2⟩:=zbg I hu ok rys r ra rx
   refine SeqAt.in_listAt (eIn X.K X.mg ρ H ys a) pl.isList (fun w hw=>f1 w (by simpa using hw)) ⟨.bl _,H,I,rfl,?_⟩
   rw [show its.toArray.any (eIn X.K X.mg ρ H ys a)=its.any (eIn X.K X.mg ρ H ys a) by simp,f2]
   simpa using q
  ·obtain ⟨its,r,pl,_⟩:=I.tuple hq
   obtain ⟨f1,f2⟩:=zbg I hu ok rys r ra rx
   refine SeqAt.in_tupleAt (eIn X.K X.mg ρ H ys a) pl (fun w hw=>f1 w (by simpa using hw)) ⟨.bl _,H,I,rfl,?_⟩
   rw [show its.toArray.any (eIn X.K X.mg ρ H ys a)=its.any (eIn X.K X.mg ρ H ys a) by simp,f2]
   simpa using q
 ·obtain rfl:u=Value.ref p:=ry
  exact zjY (by omega) I g rx fun s' I'=>⟨.bl o.isSome,H,I',rfl,by simpa using q⟩
 ·exact zjV pins s U H _ _ v u Q I rx ry ⟨c,z,rfl,rfl,by simpa using q⟩
theorem zmI (hu:X.A.units+200<cLine):OpR X (compareOp .NotIn) (zcu X.K X.mg true):=by
 intro pins s U H x y v u Q I rx ry h
 rcases h with ⟨ρ,a,ys,vs,p,ok,rfl,hq,rys,ra,q⟩|⟨p,o,rfl,g,q⟩|⟨c,z,rfl,rfl,q⟩
 ·obtain rfl:u=Value.ref p:=ry
  rcases hq with hq|hq
  ·obtain ⟨its,r,pl,_⟩:=I.list hq
   obtain ⟨f1,f2⟩:=zbg I hu ok rys r ra rx
   refine SeqAt.notIn_listAt (eIn X.K X.mg ρ H ys a) pl.isList (fun w hw=>f1 w (by simpa using hw)) ⟨.bl _,H,I,rfl,?_⟩
   rw [show its.toArray.any (eIn X.K X.mg ρ H ys a)=its.any (eIn X.K X.mg ρ H ys a) by simp,f2]
   simpa using q
  ·obtain ⟨its,r,pl,_⟩:=I.tuple hq
   obtain ⟨f1,f2⟩:=zbg I hu ok rys r ra rx
   refine SeqAt.notIn_tupleAt (eIn X.K X.mg ρ H ys a) pl (fun w hw=>f1 w (by simpa using hw)) ⟨.bl _,H,I,rfl,?_⟩
   rw [show its.toArray.any (eIn X.K X.mg ρ H ys a)=its.any (eIn X.K X.mg ρ H ys a) by simp,f2]
   simpa using q
 ·obtain rfl:u=Value.ref p:=ry
  exact zjZ (by omega) I g rx fun s' I'=>⟨.bl (!o.isSome),H,I',rfl,by simpa using q⟩
 ·refine L2.zjz pins s U H _ _ v u Q I rx ry ⟨_,_,rfl,rfl,?_⟩
  rw [StrLaws.found_one]
  simpa using q
theorem zfu {neg:Bool}:OpM K mg (zcu K mg neg) (yk neg):=by
 intro ρ H st x y v w Q E s rx ry h
 cases y with
 | tup ys =>
  obtain ⟨p,vs,rfl,k1,k2⟩:=ry
  obtain ⟨ok,h⟩:=Out.ifp (show Out K mg ρ H (if okIn x ys then .ok (.bl (neg.xor (ys.any fun y=>eqP y x))) st else .stuck) (gV K mg Q) E from by cases x<;>exact h)
  exact .inl ⟨ρ,x,ys,vs,p,ok,rfl,.inr k1,k2,rx,h.now s _ rfl⟩
 | frl ys =>
  obtain ⟨p,vs,rfl,k1,k2⟩:=ry
  obtain ⟨ok,h⟩:=Out.ifp (show Out K mg ρ H (if okIn x ys then .ok (.bl (neg.xor (ys.any fun y=>eqP y x))) st else .stuck) (gV K mg Q) E from by cases x<;>exact h)
  exact .inl ⟨ρ,x,ys,vs,p,ok,rfl,.inl k1.sq,k2,rx,h.now s _ rfl⟩
 | ref n =>
  cases hn:st[n]? with
  | none=>exfalso;cases x<;>(simp only [yk,hn] at h;exact h)
  | some so =>
   cases so with
   | lst ys =>
    obtain ⟨p,vs,rfl,_,k1,k2⟩:=R.refL s ry hn
    obtain ⟨ok,h⟩:=Out.ifp (show Out K mg ρ H (if okIn x ys then .ok (.bl (neg.xor (ys.any fun y=>eqP y x))) st else .stuck) (gV K mg Q) E from by cases x<;>(simp only [yk,hn] at h;exact h))
    exact .inl ⟨ρ,x,ys,vs,p,ok,rfl,.inl (SqL.of k1),k2,rx,h.now s _ rfl⟩
   | dic ks xs =>
    obtain ⟨p,vs,rfl,_,k1,k2,k3⟩:=R.refD s ry hn
    cases x with
    | str z =>
     simp only [yk,hn] at h
     cases rx
     refine .inr (.inl ⟨p,_,rfl,zft k1,?_⟩)
     have e:((ks.zip vs).lookup z).isSome=((ks.zip xs).lookup z).isSome:=by
      cases hq:(ks.zip xs).lookup z with
      | some q=>obtain ⟨v,hv,_⟩:=wv k2 hq;rw [hv];rfl
      | none =>
       have:z∉ks:=by
        intro hz
        obtain ⟨i,hi⟩:=List.getElem?_of_mem hz
        have hl:i<xs.length:=by rw [k2.len,<-k3];exact (List.getElem?_eq_some_iff.mp hi).1
        have:=List.lookup_eq_none_iff.mp hq (z,xs[i]) (List.mem_iff_getElem?.mpr ⟨i,by simp [List.getElem?_zip_eq_some,hi,hl]⟩)
        simp at this
       rw [za5 this];rfl
     rw [e]
     exact h.now s _ rfl
    | _=>simp only [yk,hn] at h;exact False.elim h
   | ins c ks xs=>exfalso;cases x<;>(simp only [yk,hn] at h;exact h)
   | fdi ks xs=>exfalso;cases x<;>(simp only [yk,hn] at h;exact h)
 | str z =>
  cases x with
  | str q =>
   obtain ⟨⟨l⟩⟩:=q
   match l,rx,h with
   | [c],rx,h=>cases rx;cases ry;exact .inr (.inr ⟨c,z,rfl,rfl,Out.now (x:=PV.bl _) h s _ rfl⟩)
   | [],rx,h=>exact False.elim h
   | _::_::_,rx,h=>exact False.elim h
  | _=>exact False.elim h
 | non=>exfalso;cases x<;>exact h
 | bl _=>exfalso;cases x<;>exact h
 | int _=>exfalso;cases x<;>exact h
 | ty _=>exfalso;cases x<;>exact h
 | fn _=>exfalso;cases x<;>exact h
 | kd _ _=>exfalso;cases x<;>exact h
 | exo _ _ _=>exfalso;cases x<;>exact h
theorem jR (hu:X.A.units+200<cLine):CmpOk X .In (yk false):=⟨_,zmH hu,zfu⟩
theorem zmJ (hu:X.A.units+200<cLine):CmpOk X .NotIn (yk true):=⟨_,zmI hu,zfu⟩
end
section
variable {X:Cx}{Er:XK}{pos:Pos}
abbrev XN:XK:=fun _ _ _=>False
theorem zag:yO X XN:=fun _ _ _ _ _ _ _ _ _ q=>q.elim
def compL (fe:zc->Mo PV) (env:zc):List PV->List PV->Mo PV
 | [],ys,st=>.ok (.ref st.length) (st++[.lst ys])
 | x::xs,ys,st=>(noErr (fe (some x::env) st)).bind fun y st1=>compL fe env xs (ys++[y]) st1
def compR (fe:zc->Mo PV) (env:zc) (n:Nat):Nat->Nat->List PV->Mo PV
 | 0,_,_,_=>.stuck
 | m+1,i,ys,st=>zW st n fun xs=>match xs[i]? with
  | none=>.ok (.ref st.length) (st++[.lst ys])
  | some x=>(noErr (fe (some x::env) st)).bind fun y st1=>compR fe env n m (i+1) (ys++[y]) st1
def compS (fe:zc->Mo PV) (env:zc):Sq->Mo PV
 | .im xs,st=>if xs.length<=lim then compL fe env xs [] st else .stuck
 | .rf n,st=>compR fe env n (lim+1) 0 [] st
def jq (src:zc->Mo Sq) (fe:zc->Mo PV):zc->Mo PV:=fun env st=>(src env st).bind fun q st1=>compS fe env q st1
theorem Rs.snoc {K:Frag}{mg:Str->Option Value}{ρ:List Addr}{H:Hp}{x:PV}{v:V}(r:R K mg ρ H x v):∀{xs:List PV}{vs:List V},Rs K mg ρ H xs vs->Rs K mg ρ H (xs++[x]) (vs++[v])
 | [],_,h=>by cases h;exact ⟨v,[],rfl,r,rfl⟩
 | y::xs,_,h=>by
  obtain ⟨w,q,rfl,h1,h2⟩:=h
  exact ⟨w,q++[v],rfl,h1,Rs.snoc r h2⟩
theorem zmK {elt iter:Expr} {x:Str} {px:Pos} {scope:Scope} {src:zc->Mo Sq} {fe:zc->Mo PV} {M:List Str} (hc:X.calm=true) (S:CompSc X.env.scope scope x) (eN:Hid scope M X.N) (hN0:((".0" : Str)::x::M).Nodup)
  (hi:MI X Er (.Name x px) iter src) (he:∀cl C ae aj fp,ME (cxH X M scope cl x C ae aj fp (fun _ _=>False)) XN elt fe)
  (hs:∀v,foldedSetIterable iter X.env v=pure v:=by intro _;rfl):ME X Er (.ListComp elt [⟨.Name x px,iter,[],0⟩] scope pos) (jq src fe) :=
 PE.weak (zeo (te:=tM X.K X.mg XN fe) hc S eN hN0 hi (fun cl C ae aj fp=>he cl C ae aj fp) hs) fun U H Q ⟨env,st,ρ,re,rs,h⟩=>⟨env,st,ρ,re,rs,h.then fun ao H0 q st0 e0 s0 h0 J wk=>by
  cases q with
  | im xs =>
   obtain ⟨hl,h0⟩:=Out.ifp h0
   obtain ⟨w1,w2,w3⟩:=wk
   refine ⟨fun i m ys H=>m=xs.length-i/\i<=xs.length/\ys.length=i/\∃ps st ρ,Rs X.K X.mg ρ H ps ys/\StR X.K X.mg ρ H st/\Ext ao H0 ρ H/\Out X.K X.mg ρ H (compL fe env (xs.drop i) ps st) (gV X.K X.mg Q) Er,⟨xs.length,by simp,Nat.zero_le _,rfl,[],st0,ao,rfl,s0,Ext.refl,h0⟩,?_⟩
   rintro i m ys H ⟨rfl,hi,hy,ps,st,ρ,rps,rs,ex,h⟩
   by_cases hlt:i<xs.length
   ·refine .inr ⟨w1 i ρ H ex hlt,yB (by omega),fun v H' y=>?_⟩
    obtain ⟨x,hx,ex2,s2,rx⟩:=w3 i ρ H st v H' ex rs hlt y
    have hd:xs.drop i=x::xs.drop (i+1):=by
     rw [List.drop_eq_getElem_cons hlt]
     have:=(List.getElem?_eq_some_iff.mp hx).2
     rw [this]
    rw [hd] at h
    simp only [compL] at h
    refine ⟨some x::env,st,ρ,(re.ext (e0.trans (ex.trans ex2))).cons rx,s2,jC (Out.ext h ex2) fun am H3 y st3 e3 s3 h3 v ry=>⟨xs.length-(i+1),by omega,rfl,hlt,by simp [hy],ps++[y],st3,am,Rs.snoc ry (Rs.ext (ex2.trans e3) ps rps),s3,(ex.trans ex2).trans e3,h3⟩⟩
   ·have e:i=xs.length:=by omega
    subst e
    rw [List.drop_length] at h
    exact .inl ⟨w2 _ ρ H ex (Nat.le_refl _),yB (by omega),fun l hl=>Out.newList h rs rps hl⟩
  | rf n =>
   obtain ⟨a,ha,rfl⟩:=wk
   refine ⟨fun i m ys H=>m+i=lim+1/\ys.length=i/\∃ps st ρ,Rs X.K X.mg ρ H ps ys/\StR X.K X.mg ρ H st/\Ext ao H0 ρ H/\ρ[n]?=some a/\Out X.K X.mg ρ H (compR fe env n m i ps st) (gV X.K X.mg Q) Er,⟨lim+1,rfl,rfl,[],st0,ao,rfl,s0,Ext.refl,ha,h0⟩,?_⟩
   rintro i m ys H ⟨hm,hy,ps,st,ρ,rps,rs,ex,ha,h⟩
   cases m with
   | zero=>exact False.elim h
   | succ m =>
    obtain ⟨xs,hn,h⟩:=yI h
    obtain ⟨vs,hH,hR⟩:=rs.addr hn ha
    cases hx:xs[i]? with
    | none =>
     simp only [hx] at h
     have:vs.length<=i:=by rw [<-hR.len];exact List.getElem?_eq_none_iff.mp hx
     exact .inl ⟨⟨vs,SqL.of hH,this⟩,yB (by omega),fun l hl=>Out.newList h rs rps hl⟩
    | some x =>
     simp only [hx] at h
     obtain ⟨v,hv,rv⟩:=hR.get hx
     refine .inr ⟨⟨vs,v,SqL.of hH,hv⟩,yB (by omega),fun v' H' y=>?_⟩
     obtain ⟨e1,y⟩:=y
     subst e1
     have e2:=y vs (SqL.of hH)
     rw [hv] at e2
     cases e2
     exact ⟨some x::env,st,ρ,(re.ext (e0.trans ex)).cons rv,rs,jC h fun am H3 y st3 e3 s3 h3 v ry=>⟨m,Nat.lt_succ_self m,by omega,by simp [hy],ps++[y],st3,am,Rs.snoc ry (Rs.ext e3 ps rps),s3,ex.trans e3,e3.get ha,h3⟩⟩⟩
theorem zfv {elt iter:Expr} {x:Str} {px:Pos} {scope:Scope} {src:zc->Mo Sq} {fe:zc->Mo PV} {N:List Str} (hc:X.calm=true) (S:CompSc X.env.scope scope x) (eN:X.N=N) (hN0:((".0" : Str)::x::N).Nodup)
  (hi:MI X Er (.Name x px) iter src) (he:∀cl C ae aj fp,ME (cxC X scope cl x C ae aj fp (fun _ _=>False)) XN elt fe)
  (hs:∀v,foldedSetIterable iter X.env v=pure v:=by intro _;rfl):ME X Er (.ListComp elt [⟨.Name x px,iter,[],0⟩] scope pos) (jq src fe) :=
 zmK hc S Hid.refl (eN▸hN0) hi he hs
end
section
variable {env:Env}{es:List Expr}{pos:Pos}
abbrev St1 (e:Expr) (es:List Expr) (env:Env):Prop:=starEach (e::es) env=(false,eval e env)::starEach es env
theorem zmL {c j}:St1 (.Constant c j pos) es env:=(rfl)
end
end Mi
namespace L2
open PySem PySem.Spec PyProof.Rows PySem.W
abbrev ZB (h:Heap) (z TI TO T:Addr) (f:Bool):Prop:=h.get? z=some { cls:=.type "zip", dict:=none,data:=.fields #[rawInt T,.bool f,.bool false,.ref TI,.ref TO],slots:=#[] }
section
variable {prog:Program}{w:World}{A:Around}{E:Value->Shared->Prop}{s:Shared}{z TI TO T i1 i2 t1 t2:Addr}{k:Nat}{xs ys:Array Value}{x y a b:Value}{S1 S2:Nat->Heap->Prop}{f:Bool}{o:Obj}
end
structure ZS (z TI TO i1 i2 a b:Addr) (xs ys:Array Value) (k:Nat) (h:Heap):Prop where
 zi:(IsZip h z TI TO .none/\∃u v,IsPair h TO u v)\/∃T f o,ZB h z TI TO T f/\h.get? T=some o
 ti:IsPair h TI (.ref i1) (.ref i2)
 s1:StT i1 a xs k h
 s2:StT i2 b ys k h
section
variable {prog:Program}{w:World}{A:Around}{E:Value->Shared->Prop}{s:Shared}{z TI TO i1 i2 a b:Addr}{k:Nat}{xs ys:Array Value}{x y:Value}
end
def putAll (ps:List (Key×V)) (kvs:List (Key×V)):List (Key×V):=ps.foldl (fun m p=>putK m p.1 p.2) kvs
structure Ap (d z TI TO i1 i2 a b:Addr):Prop where
 z:d≠z
 TI:d≠TI
 TO:d≠TO
 i1:d≠i1
 i2:d≠i2
 a:d≠a
 b:d≠b
section
variable {prog:Program}{w:World}{A:Around}{R:Result->Shared->Prop}{z TI TO i1 i2 a b d:Addr}{xs ys:Array Value}{keys:List Key}{vals:List V}
theorem ZS.keep {k:Nat}{h h':Heap}(st:ZS z TI TO i1 i2 a b xs ys k h) (P:Ap d z TI TO i1 i2 a b) (hs:Heap.SameBut d h h') (hd:∃o,h'.get? d=some o):ZS z TI TO i1 i2 a b xs ys k h':=by
 have up:∀c o,c≠d->h.get? c=some o->h'.get? c=some o:=fun c o n e=>hs.extBut _ _ n e
 obtain ⟨⟨⟨o1,g1,r1⟩,⟨p1,e1,t1⟩⟩,⟨⟨o2,g2,r2⟩,⟨p2,e2,t2⟩⟩⟩:=And.intro st.s1 st.s2
 refine ⟨?_,up _ _ P.TI.symm st.ti,⟨⟨o1,up _ _ P.i1.symm g1,r1⟩,⟨p1,up _ _ P.a.symm e1,t1⟩⟩,⟨⟨o2,up _ _ P.i2.symm g2,r2⟩,⟨p2,up _ _ P.b.symm e2,t2⟩⟩⟩
 rcases st.zi with ⟨hz,u,v,hTO⟩|⟨T,f,o,hz,hT⟩
 ·exact .inl ⟨up _ _ P.z.symm hz,u,v,up _ _ P.TO.symm hTO⟩
 ·by_cases e:T=d
  ·obtain ⟨o',ho'⟩:=hd
   exact .inr ⟨T,f,o',up _ _ P.z.symm hz,by rw [e];exact ho'⟩
  ·exact .inr ⟨T,f,o,up _ _ P.z.symm hz,up _ _ e hT⟩
end
section
variable {prog:Program}{w:World}{A:Around}{E:Value->Shared->Prop}{s:Shared}{z TI TO i1 i2 a b:Addr}{xs ys:Array Value}{keys:List Key}{vals:List V}
end
end L2
namespace Mi
open PySem L2 PySem.W PySem.Spec
section
variable {X:Cx}{K:Frag}{mg:Str->Option Value}{Er:XK}{e o:Expr}{es:List Expr}{pos p apos:Pos}{k:Nat}{x:Str}{m:List PV->Mo PV}{fs:zc->Mo (List PV)}{fo fa:zc->Mo PV}
def tryFl (j:Nat):Fl->Mo Fl
 | .nx e,st=>.ok (.nx (e.set j none)) st
 | .rt x,st=>.ok (.rt x) st
 | _,_=>.stuck
end
section
variable {X:Cx}{K:Frag}{mg:Str->Option Value}{Er:XK}{e o:Expr}{es:List Expr}{pos p apos:Pos}{fs:zc->Mo (List PV)}{fo fa:zc->Mo PV}
def strsOf:List PV->Option (List Str)
 | []=>some []
 | .str z::r=>(strsOf r).map (z::·)
 | _::_=>none
def j5:List (Str×PV)->List Str->List PV->List Str×List PV
 | [],ks,xs=>(ks,xs)
 | q::r,ks,xs=>j5 r (yS q.1 q.2 ks xs).1 (yS q.1 q.2 ks xs).2
theorem zfx {ρ:List Addr}{H:Hp}:∀{xs:List PV}{zs:List Str}{vs:List V},strsOf xs=some zs->Rs K mg ρ H xs vs->vs=(zs.map Sum.inr:List Key).map kV
 | [],zs,vs,e,h=>by cases e;cases h;rfl
 | .str z::r,zs,vs,e,h=>by
  simp only [strsOf,Option.map_eq_some_iff] at e
  obtain ⟨zr,e1,rfl⟩:=e
  obtain ⟨v,r',rfl,h1,h2⟩:=h
  cases h1
  rw [zfx e1 h2]
  rfl
 | .non::_,_,_,e,_=>by cases e
 | .bl _::_,_,_,e,_=>by cases e
 | .int _::_,_,_,e,_=>by cases e
 | .ty _::_,_,_,e,_=>by cases e
 | .tup _::_,_,_,e,_=>by cases e
 | .frl _::_,_,_,e,_=>by cases e
 | .ref _::_,_,_,e,_=>by cases e
 | .fn _::_,_,_,e,_=>by cases e
 | .kd _ _::_,_,_,e,_=>by cases e
 | .exo _ _ _::_,_,_,e,_=>by cases e
theorem zfy {ρ:List Addr}{H:Hp}:∀{zs:List Str}{ys:List PV}{us:List V}{ks:List Str}{xs:List PV}{vs:List V},Rs K mg ρ H ys us->Rs K mg ρ H xs vs->ks.length=vs.length ->
  ∃ws,putAll ((zs.map Sum.inr:List Key).zip us) (kz ks vs)=kz (j5 (zs.zip ys) ks xs).1 ws/\Rs K mg ρ H (j5 (zs.zip ys) ks xs).2 ws/\(j5 (zs.zip ys) ks xs).1.length=ws.length
 | [],ys,us,ks,xs,vs,_,h,hl=>⟨vs,rfl,h,hl⟩
 | z::zs,[],us,ks,xs,vs,hy,h,hl=>by
  cases hy
  exact ⟨vs,rfl,h,hl⟩
 | z::zs,y::ys,us,ks,xs,vs,hy,h,hl=>by
  obtain ⟨u,r,rfl,h1,h2⟩:=hy
  obtain ⟨ws,q1,q2,q3⟩:=zfq (z:=z) h1 hl h
  obtain ⟨ws',p1,p2,p3⟩:=zfy (zs:=zs) h2 q2 q3
  refine ⟨ws',?_,p2,p3⟩
  show putAll _ (L2.putK (kz ks vs) (Sum.inr z) u)=_
  rw [q1]
  exact p1
end
end Mi
namespace L2
open PySem PySem.Spec PyProof.Rows PySem.W
end L2
namespace Mi
open PySem L2 PySem.W PySem.Spec
section
variable {X:Cx}{Er:XK}{pos:Pos}{sts:List Stmt}{gb:zc->Mo Fl}{fs:zc->Mo (List PV)}
def zbh:List PV->Mo Nat
 | [.ref n],st=>zW st n fun _=>.ok n st
 | _,_=>.stuck
theorem zmM {α:Type}{K:Frag}{mg:Str->Option Value}{ρ:List Addr}{H:Hp}{vs:List PV}{st:Sto}{f:Nat->Mo α}{good:List Addr->Hp->α->Sto->Prop}(h:Out K mg ρ H ((zbh vs st).bind f) good Er):∃n xs,vs=[.ref n]/\st[n]?=some (.lst xs)/\Out K mg ρ H (f n st) good Er:=by
 unfold zbh at h
 split at h
 ·rename_i n
  unfold zW at h
  cases hn:st[n]? with
  | none=>simp only [hn] at h;exact False.elim h
  | some so =>
   cases so with
   | lst xs=>simp only [hn] at h;exact ⟨n,xs,rfl,hn,h⟩
   | _=>simp only [hn] at h;exact False.elim h
 ·exact False.elim h
end
section
variable {X:Cx}{Er:XK}{pos:Pos}{fs:zc->Mo (List PV)}
end
end Mi
namespace L2
open PySem PySem.Spec PyProof.Rows PySem.W
def repS (z:Str) (n:Int):Str:=if n<1 then Str.empty else if (n==1||z.length==0)=true then z else ⟨(List.replicate n.toNat z.cps).foldl (·++·) #[]⟩
theorem zfz (c:Array Nat):∀(k:Nat) (a:Array Nat),((List.replicate k c).foldl (·++·) a).size=a.size+k*c.size
 | 0,a=>by simp
 | k+1,a=>by
  rw [List.replicate_succ,List.foldl_cons,zfz c k,Array.size_append,Nat.succ_mul]
  omega
theorem zmN (z:Str) (n:Int):(repS z n).length=n.toNat*z.length:=by
 unfold repS
 split
 ·rename_i h
  have:n.toNat=0:=by omega
  rw [this,Nat.zero_mul];rfl
 ·rename_i h
  split
  ·rename_i h2
   simp only [Bool.or_eq_true,beq_iff_eq] at h2
   rcases h2 with h2|h2
   ·subst h2;simp
   ·rw [h2];simp
  ·show ((List.replicate n.toNat z.cps).foldl (·++·) #[]).size=_
   rw [zfz]
   show 0+n.toNat*z.cps.size=_
   rw [Nat.zero_add];rfl
def zfA:R2:=fun x y H Q=>∃z n,x=.str z/\y=.int n/\(0<=n/\n<=1000/\z.length<=1000)/\Q (.str (repS z n)) H
theorem zmO {X:Cx}:OpR X (binaryOp .Mult) zfA:=by
 intro pins s U H x y v u Q I rx ry h
 obtain ⟨z,n,rfl,rfl,⟨h0,h1,h2⟩,q⟩:=h
 obtain ⟨t,rfl⟩:=rx
 obtain ⟨t',rfl⟩:=ry
 have hb:n.toNat*z.length<=1000000:=by
  have:n.toNat<=1000:=by omega
  calc n.toNat*z.length<=1000*1000:=Nat.mul_le_mul this h2
   _=1000000:=rfl
 have hsz:=sizeLine_eq
 refine PySem.P.mul_str (by rw [decide_eq_false (by omega),decide_eq_false (by omega)];rfl) (fun ha _=>?_) (fun _ _=>?_) ?_
 ·have:(2 ^ 63-1:Int)/n>=1000:=by
   rw [ge_iff_le,Int.le_ediv_iff_mul_le (by omega)]
   omega
  omega
 ·show decide _=false
  rw [decide_eq_false_iff_not]
  have:z.length*n.toNat<=1000000:=by rw [Nat.mul_comm];exact hb
  rw [sizeLine_eq];omega
 ·by_cases c1:n<1
  ·rw [if_pos c1]
   have e:repS z n=Str.empty:=by unfold repS;rw [if_pos c1]
   rw [e] at q
   exact ⟨by decide,.str Str.empty,H,I.tok _,⟨_,rfl⟩,q⟩
  ·rw [if_neg c1]
   by_cases c2:(n==1||z.length==0)=true
   ·rw [if_pos c2]
    have e:repS z n=z:=by unfold repS;rw [if_neg c1,if_pos c2]
    rw [e] at q
    exact ⟨.str z,H,I,⟨_,rfl⟩,q⟩
   ·rw [if_neg c2]
    have e:repS z n=⟨(List.replicate n.toNat z.cps).foldl (·++·) #[]⟩:=by unfold repS;rw [if_neg c1,if_neg c2]
    have hl:=zmN z n
    rw [e] at q hl
    exact ⟨by rw [hl,sizeLine_eq];omega,.str _,H,I.tok _,⟨_,rfl⟩,q⟩
end L2
namespace Mi
open PySem L2 PySem.W PySem.Spec
section
variable {X:Cx}{K:Frag}{mg:Str->Option Value}{Er:XK}{e o:Expr}{es:List Expr}{pos apos:Pos}{fs:zc->Mo (List PV)}{fo fa:zc->Mo PV}
def jS:PV->PV->Mo PV
 | .int i,.int j,st=>zeP (.int i) (.int j) st
 | .str z,.int n,st=>if 0<=n/\n<=1000/\z.length<=1000 then .ok (.str (repS z n)) st else .stuck
 | _,_,_=>.stuck
theorem zbi:BinOk X .Mult jS:=by
 obtain ⟨r,h1,h2⟩:=zk1 (X:=X)
 refine ⟨fun x y H Q=>r x y H Q\/zfA x y H Q,h1.or zmO,fun ρ H st x y v w Q E s rx ry h=>?_⟩
 cases x with
 | int i =>
  cases y with
  | int j=>exact .inl (h2 ρ H st (.int i) (.int j) v w Q E s rx ry h)
  | _=>exact False.elim h
 | str z =>
  cases y with
  | int n =>
   obtain ⟨c,h⟩:=Out.ifp h
   cases rx;cases ry
   exact .inr ⟨z,n,rfl,rfl,c,Out.now (x:=PV.str (repS z n)) h s _ rfl⟩
  | _=>exact False.elim h
 | _=>exact False.elim h
def strE:List Expr->Option (List Str)
 | []=>some []
 | .Constant (.str z) _ _::r=>(strE r).map (z::·)
 | _::_=>none
def j6 (zs:List Str):zc->Mo (List PV):=fun _ st=>.ok (zs.map PV.str) st
theorem zah:∀{es:List Expr}{zs:List Str},strE es=some zs->MA X Er es (j6 zs):=by
 intro es
 induction es with
 | nil=>intro zs h;cases h;exact zm
 | cons e r ih =>
  intro zs h
  cases e with
  | Constant c j p =>
   cases c with
   | str z =>
    simp only [strE,Option.map_eq_some_iff] at h
    obtain ⟨zr,h1,rfl⟩:=h
    exact zeN yh (ih h1) zmL
   | _=>cases h
  | _=>cases h
end
section
variable {env:zc}{st:Sto}{fa fb fo fi fv fe:zc->Mo PV}{fs:zc->Mo (List PV)}{ft:zc->Mo Bool}{g:zc->Mo Fl}{src:zc->Mo Sq}
@[simp] theorem zmP (xs:List PV) (i:Int):zI (.tup xs) (.int i) st=optR (atI xs i) st:=(rfl)
@[simp] theorem zq3 (xs:List PV) (i:Int):zI (.frl xs) (.int i) st=optR (atI xs i) st:=(rfl)
@[simp] theorem zcv (n:Nat) (i:Int):zI (.ref n) (.int i) st=zW st n fun xs=>optR (atI xs i) st:=(rfl)
@[simp] theorem zfB (z:Str) (i:Int):zI (.str z) (.int i) st=if z.length<=lim then optR ((atI z.cps.toList i).map fun c=>.str ⟨#[c]⟩) st else .stuck:=(rfl)
@[simp] theorem zcw:jq src fe env st=(src env st).bind fun q st1=>compS fe env q st1:=(rfl)
@[simp] theorem zcx (xs:List PV):compS fe env (.im xs) st=if xs.length<=lim then compL fe env xs [] st else .stuck:=(rfl)
@[simp] theorem zcy:iRng1 fs env st=(fs env st).bind wx:=(rfl)
@[simp] theorem zfC (j:Int):wx [.int j] st=if cR j=true then .ok (.im (nums 0 j.toNat)) st else .stuck:=(rfl)
@[simp] theorem zmQ (n:Nat):zbh [.ref n] st=zW st n fun _=>.ok n st:=(rfl)
@[simp] theorem zmR (i j:Int):jS (.int i) (.int j) st=if cMul i j=true then .ok (.int (i*j)) st else .stuck:=(rfl)
@[simp] theorem zmS (neg:Bool) (x:PV) (ys:List PV):yk neg x (.tup ys) st=if okIn x ys then .ok (.bl (neg.xor (ys.any fun y=>eqP y x))) st else .stuck:=by unfold yk;cases x<;>rfl
theorem zmT {neg:Bool}{x:PV}{n:Nat}{ys:List PV}(h:st[n]?=some (.lst ys)):yk neg x (.ref n) st=if okIn x ys then .ok (.bl (neg.xor (ys.any fun y=>eqP y x))) st else .stuck:=by unfold yk;cases x<;>(simp only [h])
@[simp] theorem zcz (n:Nat):za3 [.ref n] st=zW st n fun xs=>.ok (.tup xs) st:=(rfl)
end
def Pre (a b:Sto):Prop:=∃d,b=a++d
theorem Pre.refl (st:Sto):Pre st st:=⟨[],by simp⟩
theorem Pre.of (st d:Sto):Pre st (st++d):=⟨d,rfl⟩
theorem Pre.get {a b:Sto}(h:Pre a b) {n:Nat}{so:SO}(e:a[n]?=some so):b[n]?=some so:=by
 obtain ⟨d,rfl⟩:=h
 rw [List.getElem?_append_left (List.getElem?_eq_some_iff.mp e).1]
 exact e
theorem yx (st:Sto) (so:SO):(st++[so])[st.length]?=some so:=by simp
section
variable {X:Cx}{Er:XK}{pos:Pos}
def wC:List (zc->Mo PV)->zc->Mo (List PV)
 | [],_,st=>.ok [] st
 | f::r,env,st=>(f env st).bind fun x st1=>(wC r env st1).bind fun xs st2=>.ok (x::xs) st2
inductive MPs (X:Cx) (Er:XK):List (Option Expr)->List Expr->List Str->List (zc->Mo PV)->Prop
 | nil:MPs X Er [] [] [] []
 | cons {z:Str} {j} {p:Pos} {v:Expr} {f:zc->Mo PV} {ks:List (Option Expr)} {vs:List Expr} {zs:List Str} {fs:List (zc->Mo PV)} (hv:ME X Er v f) (hr:MPs X Er ks vs zs fs):MPs X Er (some (.Constant (.str z) j p)::ks) (v::vs) (z::zs) (f::fs)
theorem MPs.pps:∀{ks:List (Option Expr)}{vs:List Expr}{zs:List Str}{fs:List (zc->Mo PV)},MPs X Er ks vs zs fs->PPs X pos ks vs ((zs.zip fs).map fun q=>(tC (.str q.1),tM X.K X.mg Er q.2))
 | _,_,_,_,.nil=>zj7
 | _,_,_,_,.cons hv hr=>zj8 zdN hv hr.pps
theorem MPs.len {ks:List (Option Expr)}{vs:List Expr}{zs:List Str}{fs:List (zc->Mo PV)}(h:MPs X Er ks vs zs fs):ks.length=vs.length/\zs.length=fs.length/\ks.length=zs.length/\ks.all (·.isSome)=true:=by
 induction h with
 | nil=>exact ⟨rfl,rfl,rfl,rfl⟩
 | cons hv hr ih=>exact ⟨by simp [ih.1],by simp [ih.2.1],by simp [ih.2.2.1],by simpa using ih.2.2.2⟩
theorem zfD {K:Frag}{mg:Str->Option Value}:∀{zs:List Str}{fs:List (zc->Mo PV)}{env:zc}{st:Sto}{ρ:List Addr}{H:Hp}{U:L2.St}{Q:List (V×V)->Hp->Prop},zs.length=fs.length->EnvR K mg ρ H env U->StR K mg ρ H st ->
  Out K mg ρ H (wC fs env st) (fun af H' xs st'=>∀vs,Rs K mg af H' xs vs->Q ((zs.map V.str).zip vs) H') Er->zaO ((zs.zip fs).map fun q=>(tC (.str q.1),tM K mg Er q.2)) U H Q
 | [],[],env,st,ρ,H,U,Q,_,re,rs,h=>h.now rs [] rfl
 | z::zs,f::fs,env,st,ρ,H,U,Q,hl,re,rs,h=>by
  refine ⟨env,st,ρ,re,rs,Out.then h fun ad H1 x st1 e1 s1 h1 v rv=>?_⟩
  refine zfD (env:=env) (st:=st1) (ρ:=ad) (by simpa using hl) (re.ext e1) s1 (Out.then h1 fun al H2 xs st2 e2 s2 h2 vs rvs=>?_)
  exact h2.now s2 (v::vs) ⟨v,vs,rfl,R.ext e2 x rv,rvs⟩
 | [],_::_,_,_,_,_,_,_,hl,_,_,_=>by simp at hl
 | _::_,[],_,_,_,_,_,_,hl,_,_,_=>by simp at hl
def isEmp:Option SO->Bool
 | some (.dic [] [])=>true
 | _=>false
def zcA (zs:List Str) (fs:List (zc->Mo PV)):zc->Mo PV:=fun env st=>(wC fs env (st++[.dic [] []])).bind fun xs st1 =>
 if isEmp st1[st.length]?=true then .ok (.ref st.length) (st1.set st.length (.dic (j5 (zs.zip xs) [] []).1 (j5 (zs.zip xs) [] []).2)) else .stuck
theorem zmU {o:Option SO}(h:isEmp o=true):o=some (.dic [] []):=by
 unfold isEmp at h
 split at h
 ·rfl
 ·cases h
theorem zfE:∀{zs:List Str}{vs:List V},(zs.map V.str).zip vs=((zs.map Sum.inr:List Key).zip vs).map fun kv=>(kV kv.1,kv.2)
 | [],_=>rfl
 | _::_,[]=>rfl
 | z::zs,v::vs=>by simp only [List.map_cons,List.zip_cons_cons,zfE (zs:=zs) (vs:=vs)];rfl
theorem zmV {keys:List (Option Expr)}{values:List Expr}{zs:List Str}{fs:List (zc->Mo PV)}(h:MPs X Er keys values zs fs) (h0:keys≠[]) (h15:keys.length<=15):ME X Er (.Dict keys values pos) (zcA zs fs):=by
 obtain ⟨l1,l2,l3,l4⟩:=h.len
 exact PE.weak (zka h.pps l4 l1 h0 h15) fun U H Q ⟨env,st,ρ,re,rs,ho⟩=>fun p hp=>by
  have e0:Ext ρ H (ρ++[p]) (upd H p (.dK [])):=Ext.push hp
  have s0:StR X.K X.mg (ρ++[p]) (upd H p (.dK [])) (st++[.dic [] []]):=rs.push hp ⟨[],zY,rfl,rfl⟩
  have hp0:(ρ++[p])[st.length]?=some p:=by rw [<-rs.len];simp
  refine zfD l2 (re.ext e0) s0 (Out.then (Out.ext ho e0) fun ad H1 xs st1 e1 s1 h1 vs rv=>?_)
  obtain ⟨c,h1⟩:=Out.ifp h1
  have hd:=zmU c
  have hp1:=e1.get hp0
  obtain ⟨ws,k1,k2,k3⟩:=s1.addr hd hp1
  have ew:ws=[]:=by cases ws with|nil=>rfl|cons=>simp at k3
  subst ew
  refine ⟨k1,(zs.map Sum.inr:List Key).zip vs,zfE,by rw [List.length_zip,List.length_map];omega,?_⟩
  have eq:Ext ad H1 ad (upd H1 p (.dK (mergeK [] ((zs.map Sum.inr:List Key).zip vs)))):=Ext.write k1 rfl
  obtain ⟨us,q1,q2,q3⟩:=zfy (K:=X.K) (mg:=X.mg) (zs:=zs) (ks:=[]) (xs:=[]) (vs:=[]) rv rfl rfl
  exact h1 ad _ eq (s1.write hp1 eq ⟨us,by rw [zY];exact congrArg (fun t=>some (HO.dK t)) q1,Rs.ext eq _ q2,q3⟩) _ ⟨p,rfl,hp1⟩
theorem zmW:MPs X Er [] [] [] []:=.nil
theorem zfF {z:Str}{j}{p:Pos}{v:Expr}{f:zc->Mo PV}{ks:List (Option Expr)}{vs:List Expr}{zs:List Str}{fs:List (zc->Mo PV)}(hv:ME X Er v f) (hr:MPs X Er ks vs zs fs):MPs X Er (some (.Constant (.str z) j p)::ks) (v::vs) (z::zs) (f::fs):=.cons hv hr
end
section
variable {X:Cx}
end
section
variable {X:Cx}
theorem zmX:OpR X (compareOp .Is) (fun x y H Q=>∃a b,x=.bl a/\y=.bl b/\Q (.bl (a==b)) H):=by
 intro pins s U H x y v u Q I rx ry h
 obtain ⟨a,b,rfl,rfl,q⟩:=h
 cases rx;cases ry
 exact PyProof.Rows.is_bool ⟨.bl (a==b),H,I,rfl,q⟩
theorem zmY:OpR X (compareOp .IsNot) (fun x y H Q=>∃a b,x=.bl a/\y=.bl b/\Q (.bl (!(a==b))) H):=by
 intro pins s U H x y v u Q I rx ry h
 obtain ⟨a,b,rfl,rfl,q⟩:=h
 cases rx;cases ry
 exact PyProof.Rows.isnot_bool ⟨.bl (!(a==b)),H,I,rfl,q⟩
def zcB:PV->PV->Mo PV
 | .bl a,.bl b,st=>.ok (.bl (a==b)) st
 | x,y,st=>oIs x y st
def zbj:PV->PV->Mo PV
 | .bl a,.bl b,st=>.ok (.bl (!(a==b))) st
 | x,y,st=>zeT x y st
theorem zmZ:CmpOk X .Is zcB:=by
 obtain ⟨r,h1,h2⟩:=zk7 (X:=X)
 refine ⟨fun x y H Q=>r x y H Q\/_,h1.or zmX,fun ρ H st x y v w Q E s rx ry h=>?_⟩
 unfold zcB at h
 split at h
 ·rename_i a b
  cases rx;cases ry
  exact .inr ⟨_,_,rfl,rfl,Out.now (x:=PV.bl (a==b)) h s _ rfl⟩
 ·exact .inl (h2 ρ H st _ _ v w Q E s rx ry h)
theorem zfG:CmpOk X .IsNot zbj:=by
 obtain ⟨r,h1,h2⟩:=zk8 (X:=X)
 refine ⟨fun x y H Q=>r x y H Q\/_,h1.or zmY,fun ρ H st x y v w Q E s rx ry h=>?_⟩
 unfold zbj at h
 split at h
 ·rename_i a b
  cases rx;cases ry
  exact .inr ⟨_,_,rfl,rfl,Out.now (x:=PV.bl (!(a==b))) h s _ rfl⟩
 ·exact .inl (h2 ρ H st _ _ v w Q E s rx ry h)
end
def allE (f:PV->PV->Option Bool):List PV->List PV->Option Bool
 | [],[]=>some true
 | x::xs,y::ys=>match f x y,allE f xs ys with
  | some a,some b=>some (a&&b)
  | _,_=>none
 | _,_=>some false
def hitsE (f:PV->PV->Option Bool) (ks':List Str) (xs':List PV):List Str->List PV->Option Bool
 | k::ks,x::xs=>match (ks'.zip xs').lookup k with
  | none=>some false
  | some y=>match f x y,hitsE f ks' xs' ks xs with
   | some a,some b=>some (a&&b)
   | _,_=>none
 | _,_=>some true
theorem zcC {f:PV->PV->Option Bool}:∀{xs ys:List PV}{b:Bool},allE f xs ys=some b->∃e:Nat->Bool,(∀j x y,xs[j]?=some x->ys[j]?=some y->f x y=some (e j))/\((List.range (min xs.length ys.length)).all e&&xs.length==ys.length)=b
 | [],[],b,h=>by cases h;exact ⟨fun _=>true,fun j x y h=>by simp at h,by simp⟩
 | [],y::ys,b,h=>by cases h;exact ⟨fun _=>true,fun j x y h=>by simp at h,by simp⟩
 | x::xs,[],b,h=>by cases h;exact ⟨fun _=>true,fun j x y _ h=>by simp at h,by simp⟩
 | x::xs,y::ys,b,h=>by
  simp only [allE] at h
  cases hf:f x y with
  | none=>rw [hf] at h;cases h
  | some a =>
   cases hr:allE f xs ys with
   | none=>rw [hf,hr] at h;cases h
   | some c =>
    rw [hf,hr] at h
    cases h
    obtain ⟨e,h1,h2⟩:=zcC hr
    refine ⟨fun j=>match j with|0=>a|j+1=>e j,fun j u v hu hv=>?_,?_⟩
    ·cases j with
     | zero=>simp at hu hv;subst hu;subst hv;exact hf
     | succ j=>simp at hu hv;exact h1 j u v hu hv
    ·have e1:min (x::xs).length (y::ys).length=min xs.length ys.length+1:=by simp only [List.length_cons];omega
     have e2:((x::xs).length==(y::ys).length)=(xs.length==ys.length):=by
      rw [Bool.eq_iff_iff];simp
     rw [e1,e2,List.range_succ_eq_map,List.all_cons,List.all_map,<-h2,Bool.and_assoc]
     rfl
section
variable {X:Cx}{Er:XK}{K:Frag}{mg:Str->Option Value}{ρ:List Addr}{pins:List (Addr×Obj)}{U:L2.St}{H:Hp}{s:Shared}{st:Sto}
theorem zm0 {ρ:List Addr}(nd:ρ.Nodup) {n m:Nat}{a:Addr}(h:ρ[n]?=some a) (h':ρ[m]?=some a):n=m:=by
 obtain ⟨h1,h2⟩:=List.getElem?_eq_some_iff.mp h
 obtain ⟨h3,h4⟩:=List.getElem?_eq_some_iff.mp h'
 have pw:=List.pairwise_iff_getElem.mp nd
 rcases Nat.lt_trichotomy n m with c|c|c
 ·exact absurd (h2.trans h4.symm) (pw n m h1 h3 c)
 ·exact c
 ·exact absurd (h4.trans h2.symm) (pw m n h3 h1 c)
theorem zfH {f:PV->PV->Option Bool}(hf:∀x y v b,f x y=some b->R K mg ρ H x v->R K mg ρ H y v->b=true):∀{xs ys:List PV}{vs:List V}{b:Bool},allE f xs ys=some b->Rs K mg ρ H xs vs->Rs K mg ρ H ys vs->b=true
 | [],[],vs,b,h,_,_=>by cases h;rfl
 | [],y::ys,vs,b,h,rx,ry=>by cases rx;obtain ⟨_,_,e,_⟩:=ry;cases e
 | x::xs,[],vs,b,h,rx,ry=>by cases ry;obtain ⟨_,_,e,_⟩:=rx;cases e
 | x::xs,y::ys,vs,b,h,rx,ry=>by
  obtain ⟨v,r,rfl,r1,r2⟩:=rx
  obtain ⟨v',r',e,r3,r4⟩:=ry
  cases e
  simp only [allE] at h
  cases h1:f x y with
  | none=>rw [h1] at h;cases h
  | some a =>
   cases h2:allE f xs ys with
   | none=>rw [h1,h2] at h;cases h
   | some c =>
    rw [h1,h2] at h
    cases h
    rw [hf x y v a h1 r1 r3,zfH hf h2 r2 r4]
    rfl
theorem zfI {f:PV->PV->Option Bool}(hf:∀x v b,f x x=some b->R K mg ρ H x v->b=true) {ks0:List Str}{xs0:List PV}:∀{ks:List Str}{xs:List PV}{vs:List V}{b:Bool},(∀k x,(k,x)∈ks.zip xs->(ks0.zip xs0).lookup k=some x)->hitsE f ks0 xs0 ks xs=some b->Rs K mg ρ H xs vs->b=true
 | [],xs,vs,b,_,h,_=>by cases xs<;>(cases h;rfl)
 | k::ks,[],vs,b,_,h,_=>by cases h;rfl
 | k::ks,x::xs,vs,b,hm,h,rx=>by
  obtain ⟨v,r,rfl,r1,r2⟩:=rx
  simp only [hitsE] at h
  rw [hm k x (by simp)] at h
  simp only at h
  cases h1:f x x with
  | none=>rw [h1] at h;cases h
  | some a =>
   cases h2:hitsE f ks0 xs0 ks xs with
   | none=>rw [h1,h2] at h;cases h
   | some c =>
    rw [h1,h2] at h
    cases h
    rw [hf x v a h1 r1,zfI hf (fun k' x' h'=>hm k' x' (by simp [h'])) h2 r2]
    rfl
theorem zfJ:∀{ks:List Str}{xs:List PV},ks.Nodup->∀k x,(k,x)∈ks.zip xs->(ks.zip xs).lookup k=some x
 | [],_,_,k,x,h=>by simp at h
 | _::_,[],_,k,x,h=>by simp at h
 | k0::ks,x0::xs,nd,k,x,h=>by
  rw [List.nodup_cons] at nd
  rw [List.zip_cons_cons] at h ⊢
  rcases List.mem_cons.mp h with e|h'
  ·cases e;simp [List.lookup_cons]
  ·have hk:k∈ks:=(List.of_mem_zip h').1
   have ne:(k==k0)=false:=by
    simp only [beq_eq_false_iff_ne]
    intro e;subst e;exact nd.1 hk
   rw [List.lookup_cons,ne]
   exact zfJ nd.2 k x h'
end
def EqW (P:Program) (W:World) (A:Around) (s:Shared) (u u':Value) (b:Bool):Prop:=∀(E:Value->Shared->Prop) (Q:Bool->Shared->Prop),Q b s->wpAny (model P W) A (eqBool u u') Q E s
def RcW (P:Program) (W:World) (A:Around) (s:Shared) (u u':Value) (b:Bool):Prop:=∀(E Q:Value->Shared->Prop),Q (.bool b) s->wpAny (model P W) A (richCompare .Eq u u') Q E s
section
variable {P:Program}{W:World}{A:Around}{s:Shared}
theorem EqW.of_refs {l b:Addr}{k:Bool}(hne:l≠b) (h:RcW P W A s (.ref l) (.ref b) k):EqW P W A s (.ref l) (.ref b) k:=fun E Q hq=>by
 unfold eqBool
 refine wpAny_holding (wpAny_ite_split (fun hab=>absurd (by have:=eq_of_beq hab;injection this) hne) fun _=>?_)
 exact wpAny_bind (h E _ (wpAny_truthy_bool hq))
theorem zm1 {l b:Addr}{its its2:Array Value}{n n2:Nat}{dd dd2:Option Addr}{sl sl2:Array (Option Value)}{e:Nat->Bool}{E Q:Value->Shared->Prop}
  (hl:s.heap.get? l=some { cls:=.type "tuple", dict:=dd,data:=.seq its n,slots:=sl }) (hb:s.heap.get? b=some { cls:=.type "tuple", dict:=dd2,data:=.seq its2 n2,slots:=sl2 })
  (he:∀j (h1:j<its.size) (h2:j<its2.size),EqW P W A.in1 s its[j] its2[j] (e j)) (h:Q (.bool ((List.range (min its.size its2.size)).all e&&its.size==its2.size)) s) :
  wpAny (model P W) A.in1 (Builtin.«tuple.__eq__» ⟨[.ref l,.ref b],[]⟩) (fun fin s'=>∃v,fin=.done (.ret v)/\Q v s') E s:=by
 obtain ⟨hp,g,d,tk,os⟩:=s
 have f2:=AutoSeq1.sub_tuple_tuple
 have hZ:(its.toList.zip its2.toList).length=min its.size its2.size:=by simp
 wp_walk using AutoSeq1.wpAny_loadPart' hl,AutoSeq1.wpAny_loadPart' hb,wpAny_forIn_list _ (fun rest b s'=>b.1=none/\s'=⟨hp,g,d,tk,os⟩/\∃i,rest=(its.toList.zip its2.toList).drop i/\Q (.bool (((List.range (min its.size its2.size)).drop i).all e&&its.size==its2.size)) ⟨hp,g,d,tk,os⟩) _
 case turn =>
  rintro ⟨y,x⟩ rest b s' ⟨hb',rfl,i,hz,hR⟩
  have hlt:i<(its.toList.zip its2.toList).length:=by
   rcases Nat.lt_or_ge i (its.toList.zip its2.toList).length with h'|h'
   ·exact h'
   ·rw [List.drop_of_length_le h'] at hz;cases hz
  have hm:i<min its.size its2.size:=hZ▸hlt
  have h1:i<its.size:=by omega
  have h2:i<its2.size:=by omega
  rw [List.drop_eq_getElem_cons hlt] at hz
  injection hz with hyx hrest
  have hy:y=its[i]:=by have:=congrArg Prod.fst hyx;simpa using this
  have hx:x=its2[i]:=by have:=congrArg Prod.snd hyx;simpa using this
  subst hy hx
  have hd:(List.range (min its.size its2.size)).drop i=i::(List.range (min its.size its2.size)).drop (i+1):=by simp [List.drop_eq_getElem_cons,hm]
  rw [hd,List.all_cons] at hR
  refine wpAny_bind (he i h1 h2 _ _ ?_)
  cases hy:e i with
  | true =>
   rw [hy] at hR
   wp_walk
   exact ⟨rfl,rfl,i+1,hrest,by simpa using hR⟩
  | false =>
   rw [hy] at hR
   wp_walk
   exact ⟨_,rfl,by simpa using hR⟩
 case fin =>
  rintro ⟨b1,b2⟩ s' ⟨hb',rfl,i,hz,hR⟩
  simp only at hb'
  subst hb'
  have hge:min its.size its2.size<=i:=by
   rcases Nat.lt_or_ge i (its.toList.zip its2.toList).length with h'|h'
   ·rw [List.drop_eq_getElem_cons h'] at hz;cases hz
   ·exact hZ▸h'
  rw [List.drop_of_length_le (by simpa using hge)] at hR
  wp_walk
  exact ⟨_,rfl,by simpa [Builtin.Tuple.tupleCompareSizes] using hR⟩
 case h=>exact ⟨rfl,rfl,0,rfl,by simpa using h⟩
theorem RcW.tuples {l b:Addr}{its its2:Array Value}{e:Nat->Bool}(hl:s.heap.IsTuple l its) (hb:s.heap.IsTuple b its2) (hu:A.units<cLine)
  (he:∀j (h1:j<its.size) (h2:j<its2.size),EqW P W A.in1 s its[j] its2[j] (e j)):RcW P W A s (.ref l) (.ref b) ((List.range (min its.size its2.size)).all e&&its.size==its2.size):=fun E Q h=>by
 obtain ⟨⟨cls,dd,data,sl⟩,ho,hc,n,hd⟩:=id hl
 obtain ⟨⟨cls2,dd2,data2,sl2⟩,ho2,hc2,n2,hd2⟩:=id hb
 simp only at hc hd hc2 hd2
 subst hc hd hc2 hd2
 refine wpAny_richCompare_same_room (op:=.Eq) ⟨_,ho,rfl⟩ ⟨_,ho2,rfl⟩ F.slot_tuple_eq (wpAny_call_entry F.slot_tuple_eq ⟨_,ho,rfl⟩ F.entry_tuple_eq (zm1 (Q:=fun v s'=>v ≠ .notImplemented/\Q v s') ho ho2 he (show Value.bool ((List.range (min its.size its2.size)).all e&&its.size==its2.size)≠Value.notImplemented/\Q (.bool ((List.range (min its.size its2.size)).all e&&its.size==its2.size)) s from ⟨(fun x=>nomatch x),h⟩)) (F.args_tuple_eq_2 _ _)) hu
end
section
variable {X:Cx}{Er:XK}{K:Frag}{mg:Str->Option Value}{ρ:List Addr}{pins:List (Addr×Obj)}{U:L2.St}{H:Hp}{s:Shared}{st:Sto}
theorem zfK {k:Str}{ks:List Str}{v:V}{vs:List V}{us:List (Key×Value)}(h:KV (kz (k::ks) (v::vs)) us):∃u r,us=(Sum.inr k,u)::r/\RelV v u/\KV (kz ks vs) r:=by
 cases h with
 | @cons p q ps qs h t =>
  obtain ⟨h1,h2⟩:=h
  obtain ⟨k',u⟩:=q
  have:k'=Sum.inr k:=h1.symm
  subst this
  exact ⟨u,qs,rfl,h2,t⟩
theorem zfL {f:Str}:∀{ks:List Str}{xs:List PV}{vs:List V},Rs K mg ρ H xs vs->(ks.zip xs).lookup f=none->(ks.zip vs).lookup f=none
 | [],_,_,_,_=>by simp
 | k::ks,[],_,r,_=>by cases r;simp
 | k::ks,y::xs,_,r,h=>by
  obtain ⟨v,r',rfl,h1,h2⟩:=r
  simp only [List.zip_cons_cons,List.lookup_cons] at h ⊢
  split at h
  ·cases h
  ·exact zfL h2 h
theorem zfM {f:PV->PV->Option Bool}{G:Value->Value->Bool->Prop}(hf:∀x y v w u u' b,f x y=some b->R K mg ρ H x v->R K mg ρ H y w->RelV v u->RelV w u'->G u u' b) {xs ys:List PV}{vs ws:List V}{its its2:List Value}{e:Nat->Bool}(h2:Rs K mg ρ H xs vs) (h4:Rs K mg ρ H ys ws) (r1:Vals vs its) (r2:Vals ws its2) (he:∀j x y,xs[j]?=some x->ys[j]?=some y->f x y=some (e j)) :
  ∀j (g1:j<its.toArray.size) (g2:j<its2.toArray.size),G its.toArray[j] its2.toArray[j] (e j):=by
 intro j g1 g2
 have l1:=h2.len
 have l2:=h4.len
 have l3:=r1.length
 have l4:=r2.length
 have k1:j<xs.length:=by rw [l1,l3];simpa using g1
 have k2:j<ys.length:=by rw [l2,l4];simpa using g2
 obtain ⟨v1,e1,rr1⟩:=h2.get (List.getElem?_eq_getElem k1)
 obtain ⟨v2,e2,rr2⟩:=h4.get (List.getElem?_eq_getElem k2)
 obtain ⟨u1,f1,ru1⟩:=r1.get e1
 obtain ⟨u2,f2,ru2⟩:=r2.get e2
 have w1:its.toArray[j]=u1:=by
  obtain ⟨_,z⟩:=List.getElem?_eq_some_iff.mp f1
  simpa using z
 have w2:its2.toArray[j]=u2:=by
  obtain ⟨_,z⟩:=List.getElem?_eq_some_iff.mp f2
  simpa using z
 rw [w1,w2]
 exact hf xs[j] ys[j] v1 v2 u1 u2 (e j) (he j _ _ (List.getElem?_eq_getElem k1) (List.getElem?_eq_getElem k2)) rr1 rr2 ru1 ru2
end
section
variable {X:Cx}{Er:XK}{K:Frag}{mg:Str->Option Value}
theorem vals_strs:∀{ks:List Str}{us:List Value},us.length=ks.length->(∀(j:Nat) v,us[j]?=some v->∃k,ks[j]?=some k/\∃t,v=Value.str k t)->Vals (ks.map V.str) us
 | [],[],_,_=>.nil
 | [],_::_,h,_=>by simp at h
 | _::_,[],h,_=>by simp at h
 | k::ks,u::us,h,hv=>by
  obtain ⟨k',e,t,ev⟩:=hv 0 u rfl
  simp at e
  subst e
  exact .cons ⟨t,ev⟩ (vals_strs (by simpa using h) fun j v e=>by simpa using hv (j+1) v (by simpa using e))
theorem zm2 (hc:X.calm=true):CallR X (.type "list") (fun xs H Q=>∃p ks vs,xs=[.ref p]/\H p=some (.dK (kz ks vs))/\ks.length=vs.length/\∀l,H l=none->Q (.ref l) (upd H l (.lst (ks.map V.str)))):=by
 intro pins s U H xs us Q I r h
 obtain ⟨p,ks,vs,rfl,hp,hl,q⟩:=h
 obtain ⟨u,rfl,rx⟩:=jx r
 cases rx
 obtain ⟨hz,lo,kv,kvr,hd⟩:=yA I.hok (.inl hp)
 obtain ⟨ep,hat⟩:=hd.dictAt
 have lk:kv.length=ks.length:=by rw [<-kvr.length];simp [kz,hl]
 have keys:kv.map (·.1)=ks.map Sum.inr:=by
  rw [<-kvr.keys]
  simp [kz,hl,List.map_fst_zip]
 refine kdl_call (kdl_dict (knd:=mixKind X.prog X.w) (kvs:=kv) (ep:=ep) lo) (I.ok.hd hc) hat (by rw [<-kvr.length];exact hz) fun h' tk acc' c' hk hS hitems=>?_
 have hv:Vals (ks.map V.str) acc'.toList:=vals_strs (by rw [Array.length_toList,hitems.1,lk]) fun j v e=>by
  obtain ⟨k,x,e1,e2⟩:=hitems.2 j v (by rw [<-Array.getElem?_toList];exact e)
  have e3:(kv.map (·.1))[j]?=some k:=by rw [List.getElem?_map,e1];rfl
  rw [keys,List.getElem?_map] at e3
  cases e4:ks[j]? with
  | none=>rw [e4] at e3;cases e3
  | some k' =>
   rw [e4] at e3
   cases e3
   rcases ji (show keyIs (Sum.inr k') v=true from e2) with ⟨i,t,z,_⟩|⟨y,t,z,z'⟩
   ·cases z
   ·cases z;exact ⟨k',rfl,t,z'⟩
 exact ⟨.ref s.heap.objs.size,_,I.laid (t':=tk) hk (Nat.le_refl _) (show ObjOk X.prog X.w _ h' _ (.lst (ks.map V.str)) from ⟨by rw [List.length_map,<-lk,<-kvr.length];exact hz,acc'.toList,c',hv,by simpa using hS⟩),rfl,q _ I.fresh⟩
def wD:List PV->Mo PV:=fun xs st=>match xs with
 | [.ref n]=>match st[n]? with
  | some (.dic ks _)=>.ok (.ref st.length) (st++[.lst (ks.map PV.str)])
  | _=>w8 xs st
 | _=>w8 xs st
theorem zcD {ρ:List Addr}{H:Hp}:∀{ks:List Str},Rs K mg ρ H (ks.map PV.str) (ks.map V.str)
 | []=>rfl
 | k::ks=>⟨_,_,rfl,rfl,zcD⟩
theorem zm3 (hc:X.calm=true):BltOk X (.type "list") wD:=by
 obtain ⟨r,h1,h2⟩:=zlh (X:=X)
 refine ⟨_,h1.or (zm2 hc),fun ρ H st xs vs Q E s rx h=>?_⟩
 by_cases hx:∃n ks ys,xs=[.ref n]/\st[n]?=some (.dic ks ys)
 ·obtain ⟨n,ks,ys,rfl,e⟩:=hx
  have h:Out X.K X.mg ρ H (.ok (.ref st.length) (st++[.lst (ks.map PV.str)])) (gV X.K X.mg Q) E:=by
   simpa only [wD,e] using h
  obtain ⟨v,rfl,rv⟩:=Rs.one rx
  obtain ⟨a,vs,rfl,_,k1,_,k3⟩:=R.refD s rv e
  exact .inr ⟨a,ks,vs,rfl,k1,k3,fun l hl=>Out.newList (xs:=ks.map PV.str) h s zcD hl⟩
 ·refine .inl (h2 ρ H st xs vs Q E s rx ?_)
  have:wD xs st=w8 xs st:=by
   unfold wD
   split
   ·rename_i n
    split
    ·rename_i ks ys e;exact absurd ⟨n,ks,ys,rfl,e⟩ hx
    ·rfl
   ·rfl
  rw [this] at h
  exact h
theorem zm4 {h:Heap} {C:Addr} {c:Str} (X:K.In h) (G:h.Ns mainGlobals mg) (aC:nsIn K mainGlobals c=some (some (.ref C))) (pg:plainGet K C Str.empty=true) (hd:hasDictIn K C=true) (po:plainOver K C=true) (sa:findIn K (.ref C) "__setattr__" = some (some (.builtin "object.__setattr__")))
  (ha:findIn K (.ref C) "__class__" = some (some (.builtin "object.__class__"))) (hn:specialIn K (.builtin "object.__class__") "__get__" = some (some (.builtin "getset_descriptor.__get__"))) (tk:takesIn K (.builtin "object.__class__")=some true) (hm:mroIn K C (.type "object")=some true):∀D,mg c=some (.ref D)->InIs K D:=fun D hD=>by
 have e:=mg_of X G aC
 rw [hD] at e
 cases e
 exact ⟨⟨pg,hd,po,sa⟩,ha,hn,tk,hm⟩
theorem zfN {h:Heap}{C:Addr}{c:Str}(X:K.In h) (G:h.Ns mainGlobals mg) (aC:nsIn K mainGlobals c=some (some (.ref C))):∃C D,mg c=some (.ref C)/\mg c=some (.ref D)/\kitOne K (.ref C) (.ref D)=some true:=⟨C,C,mg_of X G aC,mg_of X G aC,by unfold kitOne;rw [if_pos (by simp)]⟩
theorem zm5 {ss:List Stmt}:MSs X Er ss ze8:=PSs.weak zh9 fun D U H ⟨env,st,ρ,re,rs,h⟩=>h
end
section
variable {P:Program}{W:World}{A:Around}{s:Shared}{E:Value->Shared->Prop}{K:Type} [DecidableEq K] {knd:KeyKind P W K}
theorem wE {d:Addr} {kv:List (K×Value)} {x:Value} {T:String} {name:Str} (sl:Slot "dict" name "dict.__eq__") (hd:s.heap.DictOf knd d kv) (hx:s.TypeIs x T) (hs:isSubtype (.type T) (.type "dict")=pure false) (Q:Value->Shared->Prop) (h:Q .notImplemented s) :
  wpAny (model P W) A (call (.builtin "dict.__eq__") [.ref d,x]) Q E s:=by
 refine wpAny_call_entry sl hd.typeIs PySem.F.entry_dict_eq ?_ (PySem.F.args_dict_eq_2 _ _)
 show wpAny _ _ (Builtin.Dict.dictSlotArgs "__eq__" ⟨[.ref d,x],[]⟩ >>= _) _ _ s
 refine wpAny_bind ?_
 unfold Builtin.Dict.dictSlotArgs
 refine wpAny_bind (wpAny_notOrdered_dict hd.typeIs ?_)
 show wpAny _ _ (pure (Value.ref d,x)) _ _ s
 refine wpAny_pure ?_
 refine wpAny_bind (wpAny_isInstance hx hs ?_)
 simp only [Bool.not_false,if_true]
 exact wpAny_bind (wpAny_rule (wpAny_pure ⟨_,rfl,h⟩))
theorem zfO {d:Addr} {o:Obj} {b:Int} {u:Tok} {name:Str} (sl:Slot "int" name "int.__eq__") (ho:s.heap.get? d=some o) (hd:o.cls=.type "dict") {es:Array DictEntry} {ep:Nat} (hq':o.data=.dict es ep) (Q:Value->Shared->Prop) (h:Q .notImplemented s) :
  wpAny (model P W) A (call (.builtin "int.__eq__") [.int b u,.ref d]) Q E s:=by
 refine wpAny_call_entry sl (typeIs_int s b u) PySem.F.entry_int_eq ?_ (PySem.F.args_int_eq_2 _ _)
 obtain ⟨hp,g,dd,tk,os⟩:=s
 obtain ⟨c,d1,d2,d3⟩:=o
 cases hd
 cases hq'
 wp_walk using AutoSeq1.wpAny_loadPart' ho,wpAny_load ho
 exact ⟨_,rfl,h⟩
theorem zfP {d:Addr} {o:Obj} {b:Str} {u:Tok} {name:Str} (sl:Slot "str" name "str.__eq__") (ho:s.heap.get? d=some o) (hd:o.cls=.type "dict") {es:Array DictEntry} {ep:Nat} (hq':o.data=.dict es ep) (Q:Value->Shared->Prop) (h:Q .notImplemented s) :
  wpAny (model P W) A (call (.builtin "str.__eq__") [.str b u,.ref d]) Q E s:=by
 refine wpAny_call_entry sl (typeIs_str s b u) PySem.F.entry_str_eq ?_ (PySem.F.args_str_eq_2 _ _)
 obtain ⟨hp,g,dd,tk,os⟩:=s
 obtain ⟨c,d1,d2,d3⟩:=o
 cases hd
 cases hq'
 wp_walk using AutoSeq1.wpAny_loadPart' ho,wpAny_load ho
 exact ⟨_,rfl,h⟩
theorem zfQ {d t:Addr} {o ot:Obj} {its:Array Value} {n:Nat} {name:Str} (sl:Slot "tuple" name "tuple.__eq__") (ht:s.heap.get? t=some ot) (hc:ot.cls=.type "tuple") (hq:ot.data=.seq its n) (ho:s.heap.get? d=some o) (hd:o.cls=.type "dict") {es:Array DictEntry} {ep:Nat} (hq':o.data=.dict es ep) (Q:Value->Shared->Prop) (h:Q .notImplemented s) :
  wpAny (model P W) A (call (.builtin "tuple.__eq__") [.ref t,.ref d]) Q E s:=by
 refine wpAny_call_entry sl ⟨_,ht,hc⟩ PySem.F.entry_tuple_eq ?_ (PySem.F.args_tuple_eq_2 _ _)
 obtain ⟨hp,g,dd,tk,os⟩:=s
 obtain ⟨c,d1,d2,d3⟩:=o
 obtain ⟨c',d1',d2',d3'⟩:=ot
 cases hd
 cases hq'
 cases hc
 cases hq
 have f1:=PySem.F.sub_dict_tuple
 wp_walk using AutoSeq1.wpAny_loadPart' ht,AutoSeq1.wpAny_loadPart' ho
 exact ⟨_,rfl,h⟩
theorem EqW.of_ref {d:Addr}{u':Value}{k:Bool}(hne:Value.ref d≠u') (h:RcW P W A s (.ref d) u' k):EqW P W A s (.ref d) u' k:=fun E Q hq=>by
 unfold eqBool
 refine wpAny_holding (wpAny_ite_split (fun hab=>absurd (eq_of_beq hab) hne) fun _=>?_)
 exact wpAny_bind (h E _ (wpAny_truthy_bool hq))
theorem EqW.of_num {d:Addr}{b:Int}{u:Tok}{k:Bool}(h:RcW P W A s (.int b u) (.ref d) k):EqW P W A s (.int b u) (.ref d) k:=fun E Q hq=>by
 unfold eqBool
 refine wpAny_holding (wpAny_ite_split (fun hab=>absurd (eq_of_beq hab) nofun) fun _=>?_)
 exact wpAny_bind (h E _ (wpAny_truthy_bool hq))
theorem EqW.of_txt {d:Addr}{b:Str}{u:Tok}{k:Bool}(h:RcW P W A s (.str b u) (.ref d) k):EqW P W A s (.str b u) (.ref d) k:=fun E Q hq=>by
 unfold eqBool
 refine wpAny_holding (wpAny_ite_split (fun hab=>absurd (eq_of_beq hab) nofun) fun _=>?_)
 exact wpAny_bind (h E _ (wpAny_truthy_bool hq))
theorem RcW.rec_num {d:Addr}{kv:List (K×Value)}(hd:s.heap.DictOf knd d kv) (b:Int) (u:Tok) (hu:A.units<cLine):RcW P W A s (.ref d) (.int b u) false:=fun E Q h=>by
 obtain ⟨o,es,ep,ho,hx,hda,_⟩:=id hd
 have ty:=hd.typeIs
 obtain ⟨o',ho',hc⟩:=id ty
 rw [ho] at ho'
 cases ho'
 exact SeqAt.rc_eq_decline_or (k:=false) ty (typeIs_int s b u) (by decide) PySem.F.sub_int_dict PySem.F.slot_dict_eq PySem.F.slot_int_eq_refl (wE PySem.F.slot_dict_eq hd (typeIs_int s b u) PySem.F.sub_int_dict) (zfO PySem.F.slot_int_eq_refl ho hc hda)
  (fun _ hq=>wpAny_of_eq (rfl:isSame (.ref d) (.int b u)=pure false) hq) (.inr hu) h
theorem RcW.num_rec {d:Addr}{kv:List (K×Value)}(hd:s.heap.DictOf knd d kv) (b:Int) (u:Tok) (hu:A.units<cLine):RcW P W A s (.int b u) (.ref d) false:=fun E Q h=>by
 obtain ⟨o,es,ep,ho,hx,hda,_⟩:=id hd
 have ty:=hd.typeIs
 obtain ⟨o',ho',hc⟩:=id ty
 rw [ho] at ho'
 cases ho'
 exact SeqAt.rc_eq_decline_or (k:=false) (typeIs_int s b u) ty (by decide) PySem.F.sub_dict_int PySem.F.slot_int_eq PySem.F.slot_dict_eq_refl (zfO PySem.F.slot_int_eq ho hc hda) (wE PySem.F.slot_dict_eq_refl hd (typeIs_int s b u) PySem.F.sub_int_dict)
  (fun _ hq=>wpAny_of_eq (rfl:isSame (.int b u) (.ref d)=pure false) hq) (.inr hu) h
theorem RcW.rec_txt {d:Addr}{kv:List (K×Value)}(hd:s.heap.DictOf knd d kv) (b:Str) (u:Tok) (hu:A.units<cLine):RcW P W A s (.ref d) (.str b u) false:=fun E Q h=>by
 obtain ⟨o,es,ep,ho,hx,hda,_⟩:=id hd
 have ty:=hd.typeIs
 obtain ⟨o',ho',hc⟩:=id ty
 rw [ho] at ho'
 cases ho'
 exact SeqAt.rc_eq_decline_or (k:=false) ty (typeIs_str s b u) (by decide) PySem.F.sub_str_dict PySem.F.slot_dict_eq PySem.F.slot_str_eq_refl (wE PySem.F.slot_dict_eq hd (typeIs_str s b u) PySem.F.sub_str_dict) (zfP PySem.F.slot_str_eq_refl ho hc hda)
  (fun _ hq=>wpAny_of_eq (rfl:isSame (.ref d) (.str b u)=pure false) hq) (.inr hu) h
theorem RcW.txt_rec {d:Addr}{kv:List (K×Value)}(hd:s.heap.DictOf knd d kv) (b:Str) (u:Tok) (hu:A.units<cLine):RcW P W A s (.str b u) (.ref d) false:=fun E Q h=>by
 obtain ⟨o,es,ep,ho,hx,hda,_⟩:=id hd
 have ty:=hd.typeIs
 obtain ⟨o',ho',hc⟩:=id ty
 rw [ho] at ho'
 cases ho'
 exact SeqAt.rc_eq_decline_or (k:=false) (typeIs_str s b u) ty (by decide) PySem.F.sub_dict_str PySem.F.slot_str_eq PySem.F.slot_dict_eq_refl (zfP PySem.F.slot_str_eq ho hc hda) (wE PySem.F.slot_dict_eq_refl hd (typeIs_str s b u) PySem.F.sub_str_dict)
  (fun _ hq=>wpAny_of_eq (rfl:isSame (.str b u) (.ref d)=pure false) hq) (.inr hu) h
theorem wF {d t:Addr}{kv:List (K×Value)}{its:Array Value}(hd:s.heap.DictOf knd d kv) (ht:s.heap.IsTuple t its):d≠t:=fun e=>by
 subst e
 obtain ⟨o,ho,hc⟩:=hd.typeIs
 obtain ⟨o2,ho2,hc2,_⟩:=ht
 rw [ho] at ho2
 cases ho2
 rw [hc] at hc2
 exact absurd hc2 (by simp)
theorem RcW.rec_row {d t:Addr}{kv:List (K×Value)}{its:Array Value}(hd:s.heap.DictOf knd d kv) (ht:s.heap.IsTuple t its) (hu:A.units<cLine):RcW P W A s (.ref d) (.ref t) false:=fun E Q h=>by
 have ne:=wF hd ht
 obtain ⟨o,es,ep,ho,hx,hda,_⟩:=id hd
 have ty:=hd.typeIs
 obtain ⟨o',ho',hc⟩:=id ty
 rw [ho] at ho'
 cases ho'
 obtain ⟨ot,ht1,ht2,n,ht3⟩:=id ht
 exact SeqAt.rc_eq_decline_or (k:=false) ty ⟨_,ht1,ht2⟩ (by decide) PySem.F.sub_tuple_dict PySem.F.slot_dict_eq PySem.F.slot_tuple_eq_refl (wE PySem.F.slot_dict_eq hd ⟨_,ht1,ht2⟩ PySem.F.sub_tuple_dict) (zfQ PySem.F.slot_tuple_eq_refl ht1 ht2 ht3 ho hc hda)
  (fun _ hq=>wpAny_isSame_ref_other ne ho ht1 (by rw [hc];simp) hq) (.inr hu) h
theorem RcW.row_rec {d t:Addr}{kv:List (K×Value)}{its:Array Value}(hd:s.heap.DictOf knd d kv) (ht:s.heap.IsTuple t its) (hu:A.units<cLine):RcW P W A s (.ref t) (.ref d) false:=fun E Q h=>by
 have ne:=wF hd ht
 obtain ⟨o,es,ep,ho,hx,hda,_⟩:=id hd
 have ty:=hd.typeIs
 obtain ⟨o',ho',hc⟩:=id ty
 rw [ho] at ho'
 cases ho'
 obtain ⟨ot,ht1,ht2,n,ht3⟩:=id ht
 exact SeqAt.rc_eq_decline_or (k:=false) ⟨_,ht1,ht2⟩ ty (by decide) PySem.F.sub_dict_tuple PySem.F.slot_tuple_eq PySem.F.slot_dict_eq_refl (zfQ PySem.F.slot_tuple_eq ht1 ht2 ht3 ho hc hda) (wE PySem.F.slot_dict_eq_refl hd ⟨_,ht1,ht2⟩ PySem.F.sub_tuple_dict)
  (fun _ hq=>SeqAt.wpAny_isSame_ref_other' ne.symm ht1 ho (by rw [hc];simp) hq) (.inr hu) h
inductive HitsW (P:Program) (W:World) (A:Around) (s:Shared) (kb:List (K×Value)):List (K×Value)->Bool->Prop
 | nil:HitsW P W A s kb [] true
 | miss {k:K} {v:Value} {r:List (K×Value)} (h:valueAt kb k=none):HitsW P W A s kb ((k,v)::r) false
 | hit {k:K} {v y:Value} {r:List (K×Value)} {e b:Bool} (h:valueAt kb k=some y) (he:EqW P W A s v y e) (hr:HitsW P W A s kb r b):HitsW P W A s kb ((k,v)::r) (e&&b)
theorem HitsW.inv {kb r:List (K×Value)}{k:K}{v:Value}{b:Bool}(h:HitsW P W A s kb ((k,v)::r) b):(valueAt kb k=none/\b=false)\/∃y e c,valueAt kb k=some y/\EqW P W A s v y e/\HitsW P W A s kb r c/\b=(e&&c):=by
 cases h with
 | miss h=>exact .inl ⟨h,rfl⟩
 | hit h he hr=>exact .inr ⟨_,_,_,h,he,hr,rfl⟩
theorem pairsW {nm:String}{a b:Addr}{ka kb:List (K×Value)}{r:Bool}{Q:Bool->Shared->Prop}(la:(a==sysModules)=false) (lb:(b==sysModules)=false) (da:s.heap.DictOf knd a ka) (db:s.heap.DictOf knd b kb)
  (hits:ka.length=kb.length->HitsW P W A s kb ka r) (h:Q (ka.length==kb.length&&r) s):wpAny (model P W) A (Builtin.Dict.samePairs nm a b) Q E s:=by
 obtain ⟨oa,ea,na,ga,_,qa,ha,pa,_⟩:=da
 obtain ⟨ob,eb,nb,gb,_,qb,hb,pb,_⟩:=db
 have za:ka.length=ea.size:=by rw [<-pa.length];exact Array.length_toList
 have zb:kb.length=eb.size:=by rw [<-pb.length];exact Array.length_toList
 have look:∀k,findBy knd.is eb k=valueAt kb k:=fun k=>by
  rw [<-pb.find k]
  clear zb pb hb qb gb
  obtain ⟨l⟩:=eb
  simp [findBy]
 rw [za,zb] at h
 unfold Builtin.Dict.samePairs Builtin.Dict.showsAll
 rw [if_neg (by rw [la];decide),if_neg (by rw [lb];decide)]
 refine wpAny_bind (wpAny_pure (wpAny_bind (wpAny_pure (wpAny_bind (wpAny_dictEntries ga qa ?_)))))
 dsimp only
 refine wpAny_bind (wpAny_dictEntries gb qb ?_)
 by_cases hz:ea.size=eb.size
 ·have h':Q r s:=by simpa [hz] using h
  have hh:=hits (by rw [za,zb];exact hz)
  rw [if_neg (by rw [hz];simp)]
  refine wpAny_bind (wpAny_dictEpoch ga qa (wpAny_bind ?_))
  rw [Std.Legacy.Range.forIn_eq_forIn_range']
  simp only [Std.Legacy.Range.size,Nat.sub_zero,Nat.add_sub_cancel,Nat.div_one]
  refine wpAny_forIn_list _ (fun rest q s'=>s'=s/\q=(none,())/\∃i,rest=List.range' i (ea.size-i)/\i<=ea.size/\HitsW P W A s kb (ka.drop i) r) _ ?_ ?_ _ _ ⟨rfl,rfl,0,by simp,Nat.zero_le _,hh⟩
  ·rintro x rest q s' ⟨rfl,rfl,i,hr,hi,hp⟩
   have lt:i<ea.size:=by
    rcases Nat.lt_or_ge i ea.size with c|c
    ·exact c
    ·rw [Nat.sub_eq_zero_of_le c] at hr;simp at hr
   have e0:ea.size-i=(ea.size-(i+1))+1:=by omega
   rw [e0,List.range'_succ] at hr
   injection hr with hx hrest
   subst hx
   refine wpAny_bind (wpAny_dictEntries ga qa ?_)
   rw [Array.getElem?_eq_getElem lt]
   have lt':x<ka.length:=by rw [za];exact lt
   obtain ⟨k,v,hkv⟩:∃k v,ka[x]=(k,v):=⟨_,_,rfl⟩
   have hdrop:ka.drop x=(k,v)::ka.drop (x+1):=by rw [<-hkv];exact List.drop_eq_getElem_cons lt'
   obtain ⟨hkey,hval⟩:=pa.get? (i:=x) (e:=ea[x]) (k:=k) (v:=v) (by rw [Array.getElem?_toList];exact Array.getElem?_eq_getElem lt) (by rw [List.getElem?_eq_getElem lt',hkv])
   obtain ⟨k',hk',hs⟩:=ha ea[x] (Array.getElem_mem lt)
   rw [knd.inj _ _ _ hk' hkey] at hs
   rw [hdrop] at hp
   show wpAny _ _ (holding [ea[x].key,ea[x].val] _ >>= _) _ _ _
   rw [hs]
   refine wpAny_bind (wpAny_holding (wpAny_bind (wpAny_dictFind_of hkey gb qb hb ?_)))
   cases hj:eb.findIdx? fun e=>knd.is k e.key with
   | none =>
    have hn:valueAt kb k=none:=by rw [<-look k,findBy_of_findIdx?,hj]
    rcases hp.inv with ⟨_,er⟩|⟨y,_,_,hy,_⟩
    ·rw [er] at h'
     refine wpAny_pure ?_
     show wpAny _ _ (if (!false)=true then _ else _) _ _ _
     rw [if_pos (by decide)]
     exact wpAny_pure (wpAny_pure h')
    ·rw [hn] at hy;exact nomatch hy
   | some j =>
    obtain ⟨jl,_,_⟩:=Array.findIdx?_eq_some_iff_getElem.mp hj
    have hv':valueAt kb k=some eb[j].val:=by
     rw [<-look k,findBy_of_findIdx?,hj]
     simp [Array.getElem?_eq_getElem jl]
    refine wpAny_bind (wpAny_dictEntries gb qb ?_)
    rw [Array.getElem?_eq_getElem jl]
    rcases hp.inv with ⟨hn,_⟩|⟨y,e,c,hy,he,hrr,er⟩
    ·rw [hv'] at hn;exact nomatch hn
    ·have ey:eb[j].val=y:=Option.some.inj (hv'.symm.trans hy)
     rw [<-ey,<-hval] at he
     refine wpAny_holding (he _ _ ?_)
     cases e with
     | false =>
      rw [er,Bool.false_and] at h'
      show wpAny _ _ (if (!false)=true then _ else _) _ _ _
      rw [if_pos (by decide)]
      exact wpAny_pure (wpAny_pure h')
     | true =>
      rw [Bool.true_and] at er
      rw [<-er] at hrr
      show wpAny _ _ (if (!true)=true then _ else _) _ _ _
      rw [if_neg (by decide)]
      refine wpAny_bind (wpAny_dictEpoch ga qa ?_)
      rw [if_neg (by simp)]
      exact wpAny_pure ⟨rfl,rfl,x+1,hrest,lt,hrr⟩
  ·rintro q s' ⟨rfl,rfl,i,hr,hi,hp⟩
   have hin:i=ea.size:=by
    rcases Nat.lt_or_ge i ea.size with c|c
    ·have e:ea.size-i=(ea.size-(i+1))+1:=by omega
     rw [e,List.range'_succ] at hr;exact nomatch hr
    ·omega
   refine wpAny_pure ?_
   rw [hin,<-za,List.drop_length] at hp
   cases hp
   exact h'
 ·rw [if_pos (by simpa using hz)]
  have hf:(ea.size==eb.size)=false:=by simpa using hz
  rw [hf,Bool.false_and] at h
  exact wpAny_bind (wpAny_rule (wpAny_pure h))
theorem RcW.recs {a b:Addr}{ka kb:List (K×Value)}{r:Bool}(la:(a==sysModules)=false) (lb:(b==sysModules)=false) (da:s.heap.DictOf knd a ka) (db:s.heap.DictOf knd b kb) (hu:A.units<cLine)
  (hits:ka.length=kb.length->HitsW P W A.in1 s kb ka r):RcW P W A s (.ref a) (.ref b) (ka.length==kb.length&&r):=fun E Q h=>by
 refine wpAny_richCompare_same_room (op:=.Eq) da.typeIs db.typeIs PySem.F.slot_dict_eq (wpAny_call_entry PySem.F.slot_dict_eq da.typeIs PySem.F.entry_dict_eq ?_ (PySem.F.args_dict_eq_2 _ _)) hu
 show wpAny _ _ (Builtin.Dict.dictSlotArgs "__eq__" ⟨[.ref a,.ref b],[]⟩ >>= _) _ _ s
 refine wpAny_bind ?_
 unfold Builtin.Dict.dictSlotArgs
 refine wpAny_bind (wpAny_notOrdered_dict da.typeIs ?_)
 show wpAny _ _ (pure (Value.ref a,Value.ref b)) _ _ s
 refine wpAny_pure (wpAny_bind (wpAny_isInstance (T := "dict") db.typeIs PySem.F.sub_dict_dict ?_))
 simp only [Bool.not_true,Bool.false_eq_true,if_false]
 refine wpAny_bind (wpAny_pure (wpAny_bind (wpAny_pure (wpAny_bind (pairsW la lb da db hits ?_)))))
 refine wpAny_pure ⟨_,rfl,(fun x=>nomatch x),?_⟩
 simpa using h
end
section
variable {P:Program}{W:World}
end
def isDic:Option SO->Bool
 | some (.dic _ _)=>true
 | _=>false
def kindN (st:Sto):PV->Option Nat
 | .int _=>some 0
 | .str _=>some 1
 | .tup _=>some 2
 | .ref a=>if isDic st[a]?=true then some 3 else none
 | _=>none
def eqDD (f:PV->PV->Option Bool):Option SO->Option SO->Option Bool
 | some (.dic ks xs),some (.dic ks' xs')=>if ks.Nodup/\ks.length=xs.length then if ks.length=ks'.length then hitsE f ks' xs' ks xs else some false else none
 | _,_=>none
def eqN:Option Nat->Option Nat->Option Bool
 | some i,some j=>if i=j then none else some false
 | _,_=>none
def eqT (st:Sto):Nat->PV->PV->Option Bool
 | 0,_,_=>none
 | n+1,x,y=>match x,y with
  | .int a,.int b=>some (a==b)
  | .str a,.str b=>some (a==b)
  | .tup xs,.tup ys=>allE (eqT st n) xs ys
  | .ref a,.ref b=>eqDD (eqT st n) st[a]? st[b]?
  | x,y=>eqN (kindN st x) (kindN st y)
section
variable {X:Cx}{Er:XK}{K:Frag}{mg:Str->Option Value}{ρ:List Addr}{pins:List (Addr×Obj)}{U:L2.St}{H:Hp}{s:Shared}{st:Sto}
inductive Kn (K:Frag) (mg:Str->Option Value) (ρ:List Addr) (H:Hp) (st:Sto):PV->V->Nat->Prop
 | num (i:Int):Kn K mg ρ H st (.int i) (.int i) 0
 | txt (z:Str):Kn K mg ρ H st (.str z) (.str z) 1
 | row {xs:List PV} {a:Addr} {vs:List V} (h:SqT K H a vs) (r:Rs K mg ρ H xs vs):Kn K mg ρ H st (.tup xs) (.ref a) 2
 | rec_ {n:Nat} {a:Addr} {ks:List Str} {xs:List PV} {vs:List V} (e:st[n]?=some (.dic ks xs)) (ha:ρ[n]?=some a) (h:H a=some (.dK (kz ks vs))) (r:Rs K mg ρ H xs vs) (l:ks.length=vs.length):Kn K mg ρ H st (.ref n) (.ref a) 3
theorem Kn.of (S:StR K mg ρ H st) {x:PV}{v:V}{i:Nat}(r:R K mg ρ H x v) (h:kindN st x=some i):Kn K mg ρ H st x v i:=by
 cases x with
 | int j=>cases h;cases r;exact .num j
 | str z=>cases h;cases r;exact .txt z
 | tup xs=>cases h;obtain ⟨a,vs,rfl,h1,h2⟩:=r;exact .row h1 h2
 | ref n =>
  simp only [kindN] at h
  split at h
  ·rename_i hd
   cases h
   cases e:st[n]? with
   | none=>rw [e] at hd;cases hd
   | some so =>
    cases so with
    | dic ks xs =>
     obtain ⟨a,vs,rfl,ha,k1,k2,k3⟩:=R.refD S r e
     exact .rec_ e ha k1 k2 k3
    | lst _=>rw [e] at hd;cases hd
    | ins _ _ _=>rw [e] at hd;cases hd
    | fdi _ _=>rw [e] at hd;cases hd
  ·cases h
 | _=>cases h
theorem zm6 (I:Inv X pins U H s) {x y:PV}{v:V}{i j:Nat}(hx:Kn X.K mg ρ H st x v i) (hy:Kn X.K mg ρ H st y v j):i=j:=by
 cases hx with
 | num=>cases hy;rfl
 | txt=>cases hy;rfl
 | row h1 r1 =>
  cases hy with
  | row=>rfl
  | rec_ e ha h2 =>
   obtain ⟨_,_,kv,_,d⟩:=yA I.hok (.inl h2)
   obtain ⟨its,_,p,_⟩:=I.tuple h1
   exact absurd rfl (wF d p)
 | rec_ e ha h2 =>
  cases hy with
  | rec_=>rfl
  | row h1 r1 =>
   obtain ⟨_,_,kv,_,d⟩:=yA I.hok (.inl h2)
   obtain ⟨its,_,p,_⟩:=I.tuple h1
   exact absurd rfl (wF d p)
theorem zm7 (I:Inv X pins U H s) {x y:PV}{v w:V}{u u':Value}{i j:Nat}{A:Around}(hx:Kn X.K mg ρ H st x v i) (hy:Kn X.K mg ρ H st y w j) (rv:RelV v u) (rw:RelV w u') (hij:i≠j) (hu:A.units<cLine):EqW X.prog X.w A s u u' false/\RcW X.prog X.w A s u u' false:=by
 cases hx with
 | num a =>
  obtain ⟨t,rfl⟩:=rv
  cases hy with
  | num=>exact absurd rfl hij
  | txt b=>obtain ⟨t',rfl⟩:=rw;exact ⟨fun E Q q=>SeqAt.EqAt.int_str a t b t' _ _ E Q q,fun E Q q=>SeqAt.RcAt.int_str a t b t' _ _ E Q q⟩
  | row h1 r1 =>
   cases rw
   obtain ⟨its,_,p,_⟩:=I.tuple h1
   exact ⟨fun E Q q=>SeqAt.EqAt.int_tuple a t p hu _ _ E Q q,fun E Q q=>SeqAt.RcAt.int_tuple a t p hu _ _ E Q q⟩
  | rec_ e ha h2 =>
   cases rw
   obtain ⟨_,_,kv,_,d⟩:=yA I.hok (.inl h2)
   exact ⟨.of_num (.num_rec d a t hu),.num_rec d a t hu⟩
 | txt a =>
  obtain ⟨t,rfl⟩:=rv
  cases hy with
  | txt=>exact absurd rfl hij
  | num b=>obtain ⟨t',rfl⟩:=rw;exact ⟨fun E Q q=>SeqAt.EqAt.str_int a t b t' _ _ E Q q,fun E Q q=>SeqAt.RcAt.str_int a t b t' _ _ E Q q⟩
  | row h1 r1 =>
   cases rw
   obtain ⟨its,_,p,_⟩:=I.tuple h1
   exact ⟨fun E Q q=>SeqAt.EqAt.str_tuple a t p hu _ _ E Q q,fun E Q q=>SeqAt.RcAt.str_tuple a t p hu _ _ E Q q⟩
  | rec_ e ha h2 =>
   cases rw
   obtain ⟨_,_,kv,_,d⟩:=yA I.hok (.inl h2)
   exact ⟨.of_txt (.txt_rec d a t hu),.txt_rec d a t hu⟩
 | row h0 r0 =>
  cases rv
  obtain ⟨its,_,p,_⟩:=I.tuple h0
  cases hy with
  | row=>exact absurd rfl hij
  | num b=>obtain ⟨t',rfl⟩:=rw;exact ⟨fun E Q q=>SeqAt.EqAt.tuple_int b t' p hu _ _ E Q q,fun E Q q=>SeqAt.RcAt.tuple_int b t' p hu _ _ E Q q⟩
  | txt b=>obtain ⟨t',rfl⟩:=rw;exact ⟨fun E Q q=>SeqAt.EqAt.tuple_str b t' p hu _ _ E Q q,fun E Q q=>SeqAt.RcAt.tuple_str b t' p hu _ _ E Q q⟩
  | rec_ e ha h2 =>
   cases rw
   obtain ⟨_,_,kv,_,d⟩:=yA I.hok (.inl h2)
   have ne:=wF d p
   exact ⟨.of_ref (fun z=>ne (by injection z with z;exact z.symm)) (.row_rec d p hu),.row_rec d p hu⟩
 | rec_ e0 ha0 h0 =>
  cases rv
  obtain ⟨_,_,kv,_,d⟩:=yA I.hok (.inl h0)
  cases hy with
  | rec_=>exact absurd rfl hij
  | num b=>obtain ⟨t',rfl⟩:=rw;exact ⟨.of_ref nofun (.rec_num d b t' hu),.rec_num d b t' hu⟩
  | txt b=>obtain ⟨t',rfl⟩:=rw;exact ⟨.of_ref nofun (.rec_txt d b t' hu),.rec_txt d b t' hu⟩
  | row h1 r1 =>
   cases rw
   obtain ⟨its,_,p,_⟩:=I.tuple h1
   have ne:=wF d p
   exact ⟨.of_ref (fun z=>ne (by injection z)) (.rec_row d p hu),.rec_row d p hu⟩
theorem zm8 {a b:Option Nat}{k:Bool}(h:eqN a b=some k):∃i j,a=some i/\b=some j/\i≠j/\k=false:=by
 unfold eqN at h
 split at h
 ·split at h
  ·cases h
  ·rename_i i j c;cases h;exact ⟨i,j,rfl,rfl,c,rfl⟩
 ·cases h
inductive EqC (st:Sto) (f:PV->PV->Option Bool):PV->PV->Bool->Prop
 | num (a b:Int):EqC st f (.int a) (.int b) (a==b)
 | txt (a b:Str):EqC st f (.str a) (.str b) (a==b)
 | row {xs ys:List PV} {k:Bool} (h:allE f xs ys=some k):EqC st f (.tup xs) (.tup ys) k
 | rec_ {a b:Nat} {k:Bool} (h:eqDD f st[a]? st[b]?=some k):EqC st f (.ref a) (.ref b) k
 | apart {x y:PV} {i j:Nat} (hx:kindN st x=some i) (hy:kindN st y=some j) (h:i≠j):EqC st f x y false
theorem zfR {n:Nat}{x y:PV}{k:Bool}(h:eqT st (n+1) x y=some k):EqC st (eqT st n) x y k:=by
 unfold eqT at h
 split at h
 ·cases h;exact .num _ _
 ·cases h;exact .txt _ _
 ·exact .row h
 ·exact .rec_ h
 ·obtain ⟨i,j,h1,h2,h3,rfl⟩:=zm8 h
  exact .apart h1 h2 h3
theorem zfS {f:PV->PV->Option Bool}{a b:Option SO}{k:Bool}(h:eqDD f a b=some k):∃ks xs ks' xs',a=some (.dic ks xs)/\b=some (.dic ks' xs')/\ks.Nodup/\ks.length=xs.length/\((ks.length=ks'.length/\hitsE f ks' xs' ks xs=some k)\/(ks.length≠ks'.length/\k=false)):=by
 unfold eqDD at h
 split at h
 ·rename_i ks xs ks' xs'
  split at h
  ·rename_i c
   split at h
   ·rename_i c';exact ⟨_,_,_,_,rfl,rfl,c.1,c.2,.inl ⟨c',h⟩⟩
   ·rename_i c';cases h;exact ⟨_,_,_,_,rfl,rfl,c.1,c.2,.inr ⟨c',rfl⟩⟩
  ·cases h
 ·cases h
theorem zfT (I:Inv X pins U H s) (S:StR X.K mg ρ H st):∀(n:Nat) (x y:PV) (v:V) (b:Bool),eqT st n x y=some b->R X.K mg ρ H x v->R X.K mg ρ H y v->b=true:=by
 intro n
 induction n with
 | zero=>intro x y v b h;cases h
 | succ n ih =>
  intro x y v b h rx ry
  cases zfR h with
  | num a c=>cases rx;cases ry;simp
  | txt a c=>cases rx;cases ry;simp
  | row h0 =>
   obtain ⟨a,vs,rfl,h1,h2⟩:=rx
   obtain ⟨a',ws,e,h3,h4⟩:=ry
   cases e
   have:=I.tuple_inj h1 h3
   subst this
   exact zfH (fun x y v b=>ih x y v b) h0 h2 h4
  | @rec_ i j _ h0 =>
   obtain ⟨a,rfl,h1⟩:=rx
   obtain ⟨a',e,h2⟩:=ry
   cases e
   obtain rfl:=zm0 S.nd h1 h2
   obtain ⟨ks,xs,ks',xs',e1,e2,nd,hl,hc⟩:=zfS h0
   rw [e1] at e2
   cases e2
   obtain ⟨vs,_,k2,_⟩:=S.addr e1 h1
   rcases hc with ⟨_,hc⟩|⟨hc,_⟩
   ·exact zfI (fun x v b e r=>ih x x v b e r r) (zfJ nd) hc k2
   ·exact absurd rfl hc
  | apart hx hy hij=>exact absurd (zm6 I (Kn.of S rx hx) (Kn.of S ry hy)) hij
theorem zfU {A:Around}{f:PV->PV->Option Bool}(hf:∀x y v w u u' b,f x y=some b->R K mg ρ H x v->R K mg ρ H y w->RelV v u->RelV w u'->EqW X.prog X.w A s u u' b) {ks':List Str}{xs':List PV}{ws:List V}{kb:List (Key×Value)}(r':Rs K mg ρ H xs' ws) (kv':KV (kz ks' ws) kb) :
  ∀{ks:List Str} {xs:List PV} {vs:List V} {ka:List (Key×Value)} {b:Bool},ks.length=vs.length->Rs K mg ρ H xs vs->KV (kz ks vs) ka->hitsE f ks' xs' ks xs=some b->HitsW X.prog X.w A s kb ka b
 | [],xs,[],ka,b,_,_,kv,h=>by
  have:b=true:=by cases xs<;>(cases h;rfl)
  subst this
  cases kv
  exact .nil
 | [],xs,_::_,ka,b,hl,_,_,_=>by simp at hl
 | k::ks,xs,[],ka,b,hl,_,_,_=>by simp at hl
 | k::ks,xs,v::vs,ka,b,hl,r,kv,h=>by
  obtain ⟨u,ka',rfl,ru,kv2⟩:=zfK kv
  cases xs with
  | nil=>cases r
  | cons x xs =>
   obtain ⟨v',rs',e,r1,r2⟩:=r
   cases e
   simp only [hitsE] at h
   have hv:=kv'.val (Sum.inr k)
   rw [zct] at hv
   cases hl2:(ks'.zip xs').lookup k with
   | none =>
    rw [hl2] at h
    cases h
    rw [zfL r' hl2] at hv
    cases hu:valueAt kb (Sum.inr k) with
    | none=>exact .miss hu
    | some _=>rw [hu] at hv;exact (show False from hv).elim
   | some y =>
    rw [hl2] at h
    simp only at h
    cases h1:f x y with
    | none=>rw [h1] at h;cases h
    | some a =>
     cases h2:hitsE f ks' xs' ks xs with
     | none=>rw [h1,h2] at h;cases h
     | some c =>
      rw [h1,h2] at h
      cases h
      obtain ⟨w,hw,rw'⟩:=wv r' hl2
      rw [hw] at hv
      cases hu:valueAt kb (Sum.inr k) with
      | none=>rw [hu] at hv;exact (show False from hv).elim
      | some u' =>
       rw [hu] at hv
       exact .hit hu (hf x y v w u u' a h1 r1 rw' ru hv) (zfU hf r' kv' (by simpa using hl) r2 kv2 h2)
theorem zfV (I:Inv X pins U H s) (S:StR X.K mg ρ H st):∀(n:Nat) (x y:PV) (v w:V) (u u':Value) (b:Bool) (A:Around),eqT st n x y=some b->R X.K mg ρ H x v->R X.K mg ρ H y w->RelV v u->RelV w u'->A.units+n<cLine ->
  EqW X.prog X.w A s u u' b/\RcW X.prog X.w A s u u' b:=by
 intro n
 induction n with
 | zero=>intro x y v w u u' b A h;cases h
 | succ n ih =>
  intro x y v w u u' b A h rx ry rv rw hu
  cases zfR h with
  | num a c=>cases rx;cases ry;obtain ⟨t,rfl⟩:=rv;obtain ⟨t',rfl⟩:=rw;exact ⟨fun E Q q=>SeqAt.EqAt.int_int a t c t' _ _ E Q q,fun E Q q=>SeqAt.RcAt.int_int a t c t' _ _ E Q q⟩
  | txt a c=>cases rx;cases ry;obtain ⟨t,rfl⟩:=rv;obtain ⟨t',rfl⟩:=rw;exact ⟨fun E Q q=>SeqAt.EqAt.str_str a t c t' _ _ E Q q,fun E Q q=>SeqAt.RcAt.str_str a t c t' _ _ E Q q⟩
  | row h0 =>
   obtain ⟨a,vs,rfl,h1,h2⟩:=id rx
   obtain ⟨a',ws,rfl,h3,h4⟩:=id ry
   cases rv
   cases rw
   obtain ⟨its,r1,p1,_⟩:=I.tuple h1
   obtain ⟨its2,r2,p2,_⟩:=I.tuple h3
   obtain ⟨e,he,hb⟩:=zcC h0
   have it:=zfM (G:=EqW X.prog X.w A.in1 s) (fun x y v w u u' b e r1 r2 r3 r4=>(ih x y v w u u' b A.in1 e r1 r2 r3 r4 (by rw [w5];omega)).1) h2 h4 r1 r2 he
   have eb:((List.range (min its.toArray.size its2.toArray.size)).all e&&its.toArray.size==its2.toArray.size)=b:=by
    rw [h2.len,h4.len,r1.length,r2.length] at hb
    simpa using hb
   have rc:RcW X.prog X.w A s (.ref a) (.ref a') b:=by
    rw [<-eb]
    exact RcW.tuples (show s.heap.IsTuple a its.toArray from p1) (show s.heap.IsTuple a' its2.toArray from p2) (by omega) it
   refine ⟨?_,rc⟩
   by_cases hab:a=a'
   ·subst hab
    rw [zfT I S (n+1) _ _ _ _ h rx ry]
    exact fun E Q q=>SeqAt.EqAt.same _ _ _ E Q q
   ·exact .of_refs hab rc
  | @rec_ i j _ h0 =>
   obtain ⟨a,rfl,h1⟩:=id rx
   obtain ⟨a',rfl,h2⟩:=id ry
   cases rv
   cases rw
   obtain ⟨ks,xs,ks',xs',e1,e2,nd,hl,hc⟩:=zfS h0
   obtain ⟨vs,k1,k2,k3⟩:=S.addr e1 h1
   obtain ⟨ws,k4,k5,k6⟩:=S.addr e2 h2
   obtain ⟨_,s1,ka,kva,da⟩:=yA I.hok (.inl k1)
   obtain ⟨_,s2,kb,kvb,db⟩:=yA I.hok (.inl k4)
   have la:ka.length=ks.length:=by rw [<-kva.length];simp [kz,k3]
   have lb:kb.length=ks'.length:=by rw [<-kvb.length];simp [kz,k6]
   have both:RcW X.prog X.w A s (.ref a) (.ref a') b:=by
    rcases hc with ⟨hkk,hc⟩|⟨hkk,rfl⟩
    ·have hits:ka.length=kb.length->HitsW X.prog X.w A.in1 s kb ka b:=fun _=>zfU (fun x y v w u u' b e r1 r2 r3 r4=>(ih x y v w u u' b A.in1 e r1 r2 r3 r4 (by rw [w5];omega)).1) k5 kvb k3 k2 kva hc
     have hbb:(ka.length==kb.length&&b)=b:=by rw [la,lb,hkk];simp
     rw [<-hbb]
     exact RcW.recs s1 s2 da db (by omega) hits
    ·have hbb:(ka.length==kb.length&&true)=false:=by rw [la,lb];simpa using hkk
     rw [<-hbb]
     exact RcW.recs s1 s2 da db (by omega) fun z=>absurd (by rw [<-la,<-lb];exact z) hkk
   refine ⟨?_,both⟩
   by_cases hab:a=a'
   ·subst hab
    rw [zfT I S (n+1) _ _ _ _ h rx ry]
    exact fun E Q q=>SeqAt.EqAt.same _ _ _ E Q q
   ·exact .of_refs hab both
  | apart hx hy hij=>exact zm7 I (Kn.of S rx hx) (Kn.of S ry hy) rv rw hij (by omega)
def jE:PV->PV->Mo PV:=fun x y st=>match eqT st 150 x y with
 | some b=>.ok (.bl b) st
 | none=>.stuck
def zm9 (K:Frag) (mg:Str->Option Value):R2:=fun v w H Q=>∃ρ st x y b,StR K mg ρ H st/\eqT st 150 x y=some b/\R K mg ρ H x v/\R K mg ρ H y w/\Q (.bl b) H
theorem zna (hu:X.A.units+200<cLine):OpR X (compareOp .Eq) (zm9 X.K X.mg):=by
 intro pins s U H x y v u Q I rx ry h
 obtain ⟨ρ,st,a,b,k,S,e,ra,rb,q⟩:=h
 exact (zfV I S 150 a b x y v u k X.A e ra rb rx ry (by omega)).2 _ _ ⟨.bl k,H,I,rfl,q⟩
theorem zcE (hu:X.A.units+200<cLine):CmpOk X .Eq jE:=⟨_,zna hu,fun ρ H st x y v w Q E s rx ry h=>by
 unfold jE at h
 cases e:eqT st 150 x y with
 | none=>rw [e] at h;exact False.elim h
 | some b=>rw [e] at h;exact ⟨ρ,st,x,y,b,s,e,rx,ry,h.now s _ rfl⟩⟩
end
section
variable {X:Cx}{Er:XK}{K:Frag}{mg:Str->Option Value}{ρ:List Addr}{pins:List (Addr×Obj)}{U:L2.St}{H:Hp}{s:Shared}{st:Sto}{o:Expr}{fo:zc->Mo PV}{apos cpos p0 pos0:Pos}
open Classical in
noncomputable def eInT (K:Frag) (mg:Str->Option Value) (ρ:List Addr) (H:Hp) (st:Sto) (ys:List PV) (x:PV) (u:Value):Bool:=decide (∃y v,y∈ys/\R K mg ρ H y v/\RelV v u/\eqT st 150 y x=some true)
open Classical in
theorem zfW:∀{ks:List Str}{vs:List V}{kv:List (Key×Value)},ks.length=vs.length->KV (kz ks vs) kv->Vals vs (kv.map (·.2))
 | [],[],_,_,h=>by cases h;exact .nil
 | [],_::_,_,hl,_=>by simp at hl
 | _::_,[],_,hl,_=>by simp at hl
 | k::ks,v::vs,kv,hl,h=>by
  obtain ⟨u,r,rfl,h1,h2⟩:=zfK h
  exact .cons h1 (zfW (by simpa using hl) h2)
def tLV (to:TE):TE:=fun U H Q=>to U H fun x H1=>∃a ks vs,x=.ref a/\H1 a=some (.dK (kz ks vs))/\ks.length=vs.length/\∀l,H1 l=none->Q (.ref l) (upd H1 l (.lst vs))
theorem znc {to:TE} (hc:X.calm=true) (hg0:Gl X "list") (hm0:X.mg "list" = none) (ho:PE X o to) (hbase:attributeBase o "values" X.env (eval o X.env)=eval o X.env) (hline:(apos.endLine==cpos.line)=true) :
  PE X (.Call (.Name "list" p0) [.Call (.Attribute o "values" apos) [] [] cpos] [] pos0) (tLV to):=by
 intro pins s U H Q I h
 refine PyProof.Rows.Call_ (we I hg0 hm0 zfa (PyProof.Rows.callWith_type1 ?_ rfl rfl))
 show wpAny _ _ (spliced ((false,eval (.Call (.Attribute o "values" apos) [] [] cpos) X.env)::backTo pos0 (starEach [] X.env))) _ _ s
 refine Calls.spliced_cons ?_
 refine wpAny_Call_method0_late hbase hline (thn (ho pins s U H _ I h) fun v s1 ⟨x,H1,I1,r1,q1⟩=>?_)
 obtain ⟨a,ks,vs,rfl,e,hl,q⟩:=q1
 obtain rfl:v=Value.ref a:=r1
 obtain ⟨hz,lo,kv,kvr,hd⟩:=yA I1.hok (.inl e)
 obtain ⟨ep,hat⟩:=hd.dictAt
 refine ⟨"dict", "dict.values", PySem.F.plainAttrs_dict,PySem.F.slot_dict_values,PySem.F.type_dict_values,?_,?_,Calls.callWith_builtin rfl (PySem.evalArgs_none (call_meetsIn PySem.F.slot_dict_values hd.typeIs PySem.F.entry_dict_values (PySem.F.args_dict_values_1 _) (meets_dict_values (mixKind X.prog X.w) a lo) ⟨⟨kv,hd⟩,?_⟩))⟩
 ·exact (wg I1 (x:=.ref a) rfl (.inr (.inr (.inl ⟨rfl,.inl ⟨_,e⟩⟩)))).1
 ·exact (wg I1 (x:=.ref a) rfl (.inr (.inr (.inl ⟨rfl,.inl ⟨_,e⟩⟩)))).2
 refine Calls.spliced_nil ?_
 have hle:s1.heap.objs.size<=(s1.heap.push { cls:=.type "dict_values", data:=.fields #[.ref a] }).objs.size:=by rw [Heap.size_push];exact Nat.le_succ _
 refine kdl_call (s:={ s1 with heap:=s1.heap.push { cls:=.type "dict_values", data:=.fields #[.ref a] } }) (kdl_values (knd:=mixKind X.prog X.w) (kvs:=kv) (ep:=ep)) (I.ok.hd hc) ⟨⟨_,Heap.get?_push_size _ rfl,rfl,rfl⟩,hat.push _⟩ (by rw [<-kvr.length];exact hz) fun h' tk acc' c' hk hS hitems=>?_
 have ev:acc'.toList=kv.map (·.2):=kdl_vals_eq _ (by rw [Array.length_toList];exact hitems.1) fun j u e=>hitems.2 j u (by rw [<-Array.getElem?_toList];exact e)
 have hv:Vals vs acc'.toList:=by rw [ev];exact zfW hl kvr
 have lv:vs.length<=sizeLine:=by
  have:(kz ks vs).length=vs.length:=by simp [kz,hl]
  rw [<-this];exact hz
 exact ⟨.ref _,_,I1.laid (t':=tk) (fun b ob eb=>hk b ob (Heap.get?_push_of_some _ eb)) hle (show ObjOk X.prog X.w _ h' _ (.lst vs) from ⟨lv,acc'.toList,c',hv,by simpa using hS⟩),rfl,q _ (I1.hok.fresh hle)⟩
def zcF:PV->Mo PV
 | .ref n,st=>yC st n fun _ xs=>.ok (.ref st.length) (st++[.lst xs])
 | _,_=>.stuck
theorem znd (hc:X.calm=true) (hm0:X.mg "list" = none) (ho:ME X Er o fo) (hg0:Gl X "list" := by rfl) (hbase:attributeBase o "values" X.env (eval o X.env)=eval o X.env:=by rfl) (hline:(apos.endLine==cpos.line)=true:=by rfl) :
  ME X Er (.Call (.Name "list" p0) [.Call (.Attribute o "values" apos) [] [] cpos] [] pos0) (z0 zcF fo) :=
 PE.weak (znc hc hg0 hm0 ho hbase hline) fun U H Q ⟨env,st,ρ,re,rs,h⟩=>⟨env,st,ρ,re,rs,h.then fun ad H1 x st1 e1 s1 h1 v rv=>by
  cases x with
  | ref n =>
   obtain ⟨ks,xs,e,h1⟩:=zcb h1
   obtain ⟨a,vs,rfl,_,k1,k2,k3⟩:=R.refD s1 rv e
   exact ⟨a,ks,vs,rfl,k1,k3,fun l hl=>Out.newList (xs:=xs) h1 s1 k2 hl⟩
  | _=>exact False.elim h1⟩
end
end Mi
namespace L2
open PySem PySem.Spec PyProof.Rows
def zne (iy:Nat) (wi:TI) (te:TE):TS:=fun D U H=>wi U H fun J H1=>CompW J te U (fun v H2=>D.nx (U.set iy (some v)) H2) H1
theorem znf {X:Cx} {elt iter:Expr} {x y:Str} {px pos pos' spos:Pos} {scope:Scope} {wi:TI} {te:TE} {M:List Str} {iy:Nat} (hc:X.calm=true) (S:CompSc X.env.scope scope x) (eN:Hid scope M X.N) (hN0:((".0" : Str)::x::M).Nodup)
  (hi:PI X (.Name x px) iter wi) (he:∀cl C ae aj fp,PE (cxH X M scope cl x C ae aj fp (fun _ _=>False)) elt te) (hNX:X.N.Nodup) (hiy:X.N[iy]?=some y) (hy:Loc X.env.scope y) (hfy:X.fn y=true\/X.env.scope.names.lookup y=some .local)
  (hsw:swapsWith (.ListComp elt [⟨.Name x px,iter,[],0⟩] scope pos) (some (.Name y pos')) spos.line X.env=pure true) (hs:∀v,foldedSetIterable iter X.env v=pure v:=by intro _;rfl):PS X (.Assign [.Name y pos'] (.ListComp elt [⟨.Name x px,iter,[],0⟩] scope pos) spos) (zne iy wi te):=by
 intro pins s U H Dn I h
 have hN:(x::M).Nodup:=(List.nodup_cons.mp hN0).2
 have h0N:(".0" : Str)∉M:=fun z=>(List.nodup_cons.mp hN0).1 (List.mem_cons_of_mem _ z)
 obtain ⟨cl,hclos,hcl1,hcl2⟩:=zel X.env scope fun p hp hf=>I.ok.has p.1 (.inl (S.free p hp hf))
 have hkd:X.env.scope.kind=.function:=I.ok.kind
 rw [exec_Assign_Name_used _ _ _ _ hsw]
 refine wpAny_bind (wpAny_standAt ?_)
 rw [arm_evalThenUse_ListComp]
 refine wpAny_bind (wpAny_bind (wpAny_comprehension_free (Q:=fun _ s'=>wpAny (model X.prog X.w) X.A (pure ():Sem Unit) (fun _ s'=>wpAny (model X.prog X.w) X.A (pure .next:Sem Flow) (SP X pins Dn) X.xe s') X.xe s') (use:=some (assign (.Name y pos') X.env)) rfl hs hclos S.kind (fun y hy hl=>(S.names y hy hl).1) ?_))
 refine thn (hi pins s U H _ I h) fun v s1 h1=>thn h1 fun itv ae h2=>?_
 obtain ⟨it,fp,tn,J,H2,e,I2,T,st2,f2,W,⟨m0,w0⟩,turn⟩:=h2
 subst e
 refine wpAny_newObj_type (wpAny_newFunctionEnv S.ncell (by intro y hy;simp at hy) (fun aw az ay=>?_) S.kind)
 dsimp only at az ay ⊢
 generalize hH2:ae.heap.push { cls:=.type "list", dict:=none,data:=.seq ([]:List Value).toArray }=G2 at az ay ⊢
 have hC:G2.objs.size=ae.heap.objs.size+1:=by rw [<-hH2,Heap.size_push]
 have hDC:ae.heap.objs.size≠G2.objs.size:=by rw [hC];exact Nat.ne_of_lt (Nat.lt_succ_self _)
 have hCle:ae.heap.objs.size<=G2.objs.size:=by rw [hC];exact Nat.le_succ _
 have old:∀b o,ae.heap.get? b=some o->aw.get? b=some o:=fun b o e=>by
  have hb:b≠G2.objs.size:=by rw [hC];exact Nat.ne_of_lt (Nat.lt_succ_of_lt (Heap.lt_size e))
  exact ay.extBut b o hb (Heap.get?_push_of_some _ (hH2▸Heap.get?_push_of_some _ e))
 have hacc:aw.get? ae.heap.objs.size=some { cls:=.type "list", data:=.seq (#[]:Array Value) 0 }:=ay.extBut _ _ hDC (Heap.get?_push_of_some _ (hH2▸Heap.get?_push_size _ rfl))
 generalize hD:ae.heap.objs.size=D at *
 generalize hCC:G2.objs.size=C at *
 have ltS:∀{b:Nat} {o:Obj},ae.heap.get? b=some o->b<D:=fun e=>by rw [<-hD];exact Heap.lt_size e
 have nofr:∀b,D<=b->b∉frs X.stack:=fun b hb z=>by
  rcases List.mem_cons.mp (I2.stkSub b z) with q|q
  ·exact ar1 I2.lt hD hb q
  ·exact I2.nofs (by rw [hD];exact hb) q
 let E':Value->Shared->Prop:=notedBy (model X.prog X.w) X.A (compEnvC scope cl C X.env) fun e s'=>compPost (model X.prog X.w) X.A X.xe (some (assign (.Name y pos') X.env)) (fun _ s'=>wpAny (model X.prog X.w) X.A (pure ():Sem Unit) (fun _ s'=>wpAny (model X.prog X.w) X.A (pure .next:Sem Flow) (SP X pins Dn) X.xe s') X.xe s') (.ref D) C (.error e) s'
 let Y:Cx:=cxH X M scope cl x C ae H2 fp E'
 have fpX:∀b∈fp,FpOk X pins H2 b:=f2
 have okY:Y.Ok:=by
  refine ⟨I2.ok.mod,S.kind,I2.ok.glob,I2.ok.blt,(by show ae.heap.objs.size<=C;omega),fun y z c h1 h2=>?_,fun y hy=>?_,fun y c hf=>?_,I2.ok.hd,I2.ok.frames,.inl rfl,fun b hb=>?_,I2.bs,Nat.le_trans I2.ok.bsz I2.sz,fun b o hb hx=>?_,fun b hb hx=>?_,I2.stack,I2.stkFree⟩
  ·exact I2.ok.inj y z c (hcl1 y c h1) (hcl1 z c h2)
  ·exact hcl2 y (zbZ S hkd hy)
  ·cases hf
  ·refine ⟨fun z=>?_,fun y c hy=>(fpX b hb).2.2.2.2.1 y c (hcl1 y c hy)⟩
   obtain ⟨o,ho,_⟩:=T.obj 0 _ st2 b hb
   exact jY (ltS ho) hC z
  ·rcases (fpX b hx).2.2.2.1 with z|z
   ·exact I2.ok.noex b o hb z
   ·exact ar3 (Heap.lt_size hb) I2.ok.bsz z
  ·rcases List.mem_cons.mp (I2.stkSub b hx) with q|q
   ·exact (fpX b hb).2.1 q
   ·exact (fpX b hb).2.2.1 q
 have hpinD:∀{s':Shared} {H':Hp} {o:Obj},s'.heap.get? D=some o->H' D=none->(∀v,o.data ≠ .cell v)->∀p∈[(D,o)],s'.heap.get? p.1=some p.2/\H' p.1=none/\p.1≠Y.env.locals/\p.1∉Y.fs/\∀v,p.2.data ≠ .cell v:=fun {s' H' o} e1 e2 e3 p hp=>by
  have ep:p=(D,o):=by simpa using hp
  subst ep
  exact ⟨e1,e2,hDC,nofr D (Nat.le_refl _),e3⟩
 have I0:Inv Y [(D,{ cls:=.type "list", data:=.seq (#[]:Array Value) 0 })] (none::U) H2 { ae with heap:=aw,toks:=ae.toks+([]:List (Str×Value)).length }:=by
  have fresh:∀b,D<=b->H2 b=none:=fun b hb=>I2.hok.fresh (by rw [hD];exact hb)
  refine ⟨okY,rfl,I2.bare,Un.kept old,⟨_,az,fun i y v e1 e2 e3=>?_⟩,fun y c hy=>?_,fresh C (by omega),fun y c hy=>I2.freeC y c (hcl1 y c hy),fun p hp=>hpinD hacc (fresh D (Nat.le_refl _)) (fun v z=>by cases z) p hp,I2.hok.kept old,?_⟩
  ·cases i with
   | zero=>simp at e2
   | succ i =>
    have e0':M[i]?=some y:=by simpa [Y,cxH] using e1
    have e1':X.N[i]?=some y:=by
     rcases eN.get e0' with q|q
     ·exact q
     ·refine absurd ?_ q
      rcases e3 with e3|e3|e3<;>(obtain ⟨k0,hm,_⟩:=jM e3;exact List.mem_map.mpr ⟨_,hm,rfl⟩)
    have e2':U[i]?=some (some v):=by simpa using e2
    have hyx:¬(y=x\/y = ".0"):=fun z=>by
     have hm:=List.mem_of_getElem? e0'
     rcases z with z|z
     ·rw [z] at hm
      exact (List.nodup_cons.mp hN).1 hm
     ·rw [z] at hm
      exact h0N hm
    have hfr:(y,NameKind.free)∈scope.names:=by
     rcases e3 with e3|e3|e3
     ·exact absurd (zem S e3) hyx
     ·exact zbZ S hkd (.inl e3)
     ·exact zbZ S hkd (.inr e3)
    have hkc:X.env.scope.names.lookup y=some .cell:=S.free _ hfr rfl
    obtain ⟨m,hn,hl⟩:=I2.loc
    obtain ⟨u,r,l⟩:=hl i y v e1' e2' (.inr (.inl hkc))
    refine ⟨u,r,?_⟩
    rcases l with ⟨hk,_⟩|⟨_,c,hcc,hcell⟩
    ·have:X.env.kindOf y=some .cell:=hkc
     rw [this] at hk;cases hk
    ·obtain ⟨c',hc'⟩:=hcl2 y hfr
     have:=hcl1 y c' hc'
     rw [hcc] at this
     cases this
     refine .inr ⟨?_,c,hc',?_⟩
     ·rcases e3 with e3|e3|e3
      ·exact absurd (zem S e3) hyx
      ·exact .inl e3
      ·exact .inr e3
     ·obtain ⟨o,ho,hd⟩:=hcell
      exact ⟨o,old c o ho,hd⟩
  ·obtain ⟨v,o,ho,hd⟩:=I2.cell y c (hcl1 y c hy)
   exact ⟨v,o,old c o ho,hd⟩
  ·show (none::U).length=(x::M).length
   simp [I2.len,eN.1]
 have fpY:∀{pl:List (Addr×Obj)} {H':Hp},(∀p∈pl,p.1=D)->(∀b∈fp,H' b=none)->∀b∈fp,FpOk Y pl H' b:=fun {pl H'} hpl hn b hb=>by
  obtain ⟨o,ho,_⟩:=T.obj 0 _ st2 b hb
  refine ⟨hn b hb,fun z=>?_,?_,.inl hb,(okY.exf b hb).2,fun p hp z=>?_⟩
  ·exact jY (ltS ho) hC z
  ·exact okY.exfs b hb
  ·have hp':p∈pl:=by simpa [Y,cxH] using hp
   exact ar4 (ltS ho) (hpl p hp') z
 have loop:codeAny (model X.prog X.w) X.A (.compLoop (.ListComp elt [⟨.Name x px,iter,[],0⟩] scope pos) 0 (.ref it) (.ref D) (compEnvC scope cl C X.env))
   (compPost (model X.prog X.w) X.A X.xe (some (assign (.Name y pos') X.env)) (fun _ s'=>wpAny (model X.prog X.w) X.A (pure ():Sem Unit) (fun _ s'=>wpAny (model X.prog X.w) X.A (pure .next:Sem Flow) (SP X pins Dn) X.xe s') X.xe s') (.ref D) C) { ae with heap:=aw,toks:=ae.toks+([]:List (Str×Value)).length }:=by
  refine zjO (fun n s'=>∃i ys H' its k,Inv Y [(D,{ cls:=.type "list", data:=.seq (its:List Value).toArray k })] (none::U) H' s'/\Vals ys its/\tn i s'.heap/\(∀b∈fp,H' b=none)/\W i n ys H') ?_ m0
   ⟨0,[],H2,[],0,I0,.nil,T.keep 0 _ _ st2 (fun b hb o e=>old b o e),fun b hb=>(fpX b hb).1,w0⟩
  rintro n s3 ⟨i,ys,H3,its,k,I3,rv,st3,fr3,w3⟩
  have pinl:∀{o:Obj},∀p∈[(D,o)],p.1=D:=fun {o} p hp=>by
   have ep:p=(D,o):=by simpa using hp
   rw [ep]
  obtain ⟨gD,nD,_,_,_⟩:=I3.pin (D,_) (List.mem_append_right _ List.mem_cons_self)
  rcases turn i n ys H3 w3 with ⟨stop,hz,q⟩|⟨go,hz,step⟩
  ·refine thn (T.done Y rfl rfl rfl hc i _ s3 _ H3 E' I3 (fpY pinl fr3) st3 stop) fun r s4 ⟨hr,I4⟩=>?_
   subst hr
   obtain ⟨gD4,nD4,_,_,_⟩:=I4.pin (D,_) (List.mem_append_right _ List.mem_cons_self)
   obtain ⟨m4,hn4,_⟩:=id I4.loc
   have fin:∀h',Heap.SameBut C s4.heap h'->Inv X pins U (upd H3 D (.lst ys)) { s4 with heap:=h' }:=fun h' hsb=>by
    have neC:∀{b:Addr} {u:HO},H3 b=some u->b≠C:=fun e z=>by
     have:H3 C=none:=I4.free
     rw [z,this] at e;cases e
    refine I2.call' (s':={ s4 with heap:=h' }) (ch:=fp) (H':=upd H3 D (.lst ys)) I4.os ?_ ?_ I4.bare fun b hb=>⟨(fpX b hb).2.2.2.1,(fpX b hb).2.1,(fpX b hb).2.2.2.2.1,(fpX b hb).2.2.2.2.2⟩
    ·have B:=I4.base
     have ltC:∀{b:Nat} {o:Obj},ae.heap.get? b=some o->b≠C:=fun e z=>jY (ltS e) hC z
     have neD:∀{b:Addr} {u:HO},H3 b=some u->b≠D:=fun e z=>by rw [z,nD4] at e;cases e
     refine ⟨fun b o e nn hb hx=>(hsb.2 b (ltC e)).trans (B.keep b o e nn hb hx),fun b o e nn hb hx=>?_,fun b o e nn hx=>?_,fun b o e hx=>?_,fun b xs e=>?_,fun b o u e=>?_,fun b ps e=>?_⟩
     ·obtain ⟨sl,z⟩:=B.slot b o e nn hb hx
      exact ⟨sl,(hsb.2 b (ltC e)).trans z⟩
     ·have hbD:b≠D:=Nat.ne_of_lt (ltS e)
      rw [zp hbD]
      exact B.free b o e nn hx
     ·obtain ⟨o',z⟩:=B.there b o e hx
      exact ⟨o',(hsb.2 b (ltC e)).trans z⟩
     ·have z:=B.tups b xs e
      rw [zp (neD z)];exact z
     ·have z:=B.frzs b o u e
      rw [zp (neD z)];exact z
     ·obtain ⟨more,z⟩:=B.tbls b ps e
      exact ⟨more,by rw [zp (neD z)];exact z⟩
    ·intro a o e
     by_cases ha:a=D
     ·subst ha
      rw [zY] at e
      cases e
      exact ⟨hz,its,k,rv,(hsb.2 _ hDC).trans gD4⟩
     ·rw [zp ha] at e
      have keepNe:∀b u,H3 b=some u->(upd H3 D (.lst ys)) b=some u:=fun b u z=>by
       have hb:b≠D:=fun w=>by rw [w,nD4] at z;cases z
       rw [zp hb];exact z
      refine (I4.hok a o e).stay (fun b u hb z=>(hsb.2 b ?_).trans z) (fun b z=>keepNe b _ z) fun b xs z=>keepNe b _ z
      rcases hb with hb|hb
      ·rw [hb];exact neC e
      ·exact neC hb
   have hCD:C≠D:=fun z=>hDC z.symm
   have IX:=fin s4.heap ⟨rfl,fun _ _=>rfl⟩
   obtain ⟨oC,eC,pC,gC,rC⟩:=id hn4
   have hCn:upd H3 D (.lst ys) C=none:=by rw [zp hCD];exact I4.free
   have hCe:∀b o,ae.heap.get? b=some o->b≠C:=fun b o e z=>jY (ltS e) hC z
   have hCl:C≠X.env.locals:=fun z=>by
    obtain ⟨m2,hn2,_⟩:=id I2.loc
    obtain ⟨o2,_,_,g2,_⟩:=hn2
    exact hCe _ _ g2 z.symm
   have hCf:C∉X.fs:=I2.nofs (by rw [hD];omega)
   have IP:Inv X (pins++[(C,oC)]) U (upd H3 D (.lst ys)) s4:=IX.pins_of fun p hp=>by
    rcases List.mem_append.mp hp with hp|hp
    ·exact IX.pin p (List.mem_append_right _ hp)
    ·have ep:p=(C,oC):=by simpa using hp
     subst ep
     exact ⟨gC,hCn,hCl,hCf,fun v z=>by rw [rC.1] at z;cases z⟩
   show wpAny _ _ (assign (.Name y pos') X.env (.ref D)) _ _ s4
   have hst:wpAny (model X.prog X.w) X.A (assign (.Name y pos') X.env (.ref D)) (fun _ s5=>Inv X (pins++[(C,oC)]) (U.set iy (some (.ref D))) (upd H3 D (.lst ys)) s5) X.xe s4:=wpAny_assign_Name (jX IP hNX hiy hy (v:=.ref D) rfl (fun s5 I5=>I5) hfy)
   refine thn hst fun _ s5 I5=>?_
   have g5:=(I5.pin (C,oC) (List.mem_append_right _ (List.mem_append_right _ List.mem_cons_self))).1
   refine ⟨m4,⟨oC,eC,pC,g5,rC⟩,fun h'' hsb=>wpAny_pure (wpAny_pure ⟨_,_,?_,q D nD4⟩)⟩
   exact (I5.pins_of (pins':=pins) fun p hp=>I5.pin p (List.mem_append_right _ (List.mem_append_left _ hp))).turned (it:=C) (t':=s5.toks) (fun b o hb e=>(hsb.2 b hb).trans e) hCn hCl
    (.inr (by have:=I2.sz;rw [hD] at this;omega)) (fun a c ha z=>by
     obtain ⟨v',o',ho',_⟩:=I2.cell a c ha
     exact hCe _ _ ho' z) (fun p hp=>hCe _ _ (I2.pin p hp).1)
  ·refine thn (T.item Y rfl rfl rfl hc i _ s3 _ H3 E' I3 (fpY pinl fr3) st3 go) fun r s4 ⟨u,hr,h4⟩=>?_
   subst hr
   refine thn h4 fun _ s5 ⟨z,H5,I5,r5,y5,st5,fr5⟩=>?_
   have I5':=I5.pinned (fpY pinl fr5) (T.obj _ _ st5)
   have pgx:PG Y (.Name x px) (wf 0):=wS (X:=Y) hN rfl (.inl (lookup_relabel_local S.hx)) (.inr (lookup_relabel_local S.hx))
   have peY:PE Y elt te:=PE.nox (X:=Y) (he cl C ae H2 fp)
   refine thn (pgx _ s5 (none::U) H5 z u (fun ag H'=>ag=some z::U/\H'=H5) I5' r5 ⟨rfl,rfl⟩) fun _ s6 ⟨aG,H6,I6,e1,e2⟩=>?_
   subst e1 e2
   refine thn (peY _ s6 _ _ _ I6 (step z _ y5)) fun uy s7 ⟨y,H7,I7,ry,m',hm,w7⟩=>?_
   obtain ⟨gD7,nD7,_,_,_⟩:=I7.pin (D,_) (List.mem_append_right _ (List.mem_append_left _ List.mem_cons_self))
   refine wpAny_list_append_plain ⟨k,gD7⟩ (fun h' hpl hsb=>?_) (by rw [List.size_toArray,<-rv.length];exact hz)
   obtain ⟨k',gD'⟩:=hpl
   have I8:Inv Y [] (some z::U) H7 { s7 with heap:=h' }:=(I7.pins_of (pins':=[]) (fun p hp=>nomatch hp)).turned (it:=D) (t':=s7.toks) (fun b o hb e=>(hsb.2 b hb).trans e) nD7 hDC
    (.inr (by show ae.heap.objs.size<=D;omega)) (fun a c hy hz'=>by
     obtain ⟨v',o',ho',_⟩:=I2.cell a c (hcl1 a c hy)
     exact Nat.ne_of_lt (ltS ho') hz') (fun p hp=>by simp [Y,cxH] at hp)
   have I9:Inv Y [] (none::U) H7 { s7 with heap:=h' }:=I8.weak (by simp) fun j v e=>by
    cases j with
    | zero=>simp at e
    | succ j=>simpa using e
   have pinOf:∀b∈fp,∃o,s5.heap.get? b=some o/\s7.heap.get? b=some o/\H7 b=none:=fun b hb=>by
    obtain ⟨o,e,_⟩:=T.obj _ _ st5 b hb
    have q:=I7.pin (b,o) (List.mem_append_right _ (List.mem_append_right _ (wU hb e)))
    exact ⟨o,e,q.1,q.2.1⟩
   have fpD:∀b∈fp,b≠D:=fun b hb=>by
    obtain ⟨o,ho,_⟩:=T.obj 0 _ st2 b hb
    exact Nat.ne_of_lt (ltS ho)
   have eT:its.toArray.push uy=(its++[uy]).toArray:=by simp
   rw [eT] at gD'
   refine ⟨m',hm,i+1,ys++[y],H7,its++[uy],k',I9.pins_of (hpinD gD' nD7 fun v e=>by cases e),rv.append (.cons ry .nil),T.keep (i+1) _ _ st5 fun b hb o e=>?_,fun b hb=>?_,w7⟩
   ·obtain ⟨o',e1,e2,_⟩:=pinOf b hb
    rw [e] at e1
    cases e1
    exact (hsb.2 b (fpD b hb)).trans e2
   ·obtain ⟨_,_,_,q⟩:=pinOf b hb
    exact q
 exact codeAny_compStart_list loop (T.self X.A 0 _ _ _ (T.keep 0 _ _ st2 (fun b hb o e=>old b o e)) loop)
end L2
namespace Mi
open PySem L2 PySem.W PySem.Spec
section
variable {X:Cx}{Er:XK}{pos:Pos}
def tMI (X:Cx) (Er:XK) (src:zc->Mo Sq):TI:=fun U H R=>∃env st ρ,EnvR X.K X.mg ρ H env U/\StR X.K X.mg ρ H st/\Out X.K X.mg ρ H (src env st) (fun af H' q st'=>∀J,Walk X.K X.mg J af H' q->R J H') Er
theorem znh {src:zc->Mo Sq}{fe:zc->Mo PV}(U:L2.St) (H:Hp) (Q:VK) (hh:tM X.K X.mg Er (jq src fe) U H Q):zb0 (tMI X Er src) (tM X.K X.mg XN fe) U H Q:=by
 obtain ⟨env,st,ρ,re,rs,h⟩:=hh
 refine ⟨env,st,ρ,re,rs,h.then fun ao H0 q st0 e0 s0 h0 J wk=>?_⟩
 cases q with
 | im xs =>
  obtain ⟨hl,h0⟩:=Out.ifp h0
  obtain ⟨w1,w2,w3⟩:=wk
  refine ⟨fun i m ys H=>m=xs.length-i/\i<=xs.length/\ys.length=i/\∃ps st ρ,Rs X.K X.mg ρ H ps ys/\StR X.K X.mg ρ H st/\Ext ao H0 ρ H/\Out X.K X.mg ρ H (compL fe env (xs.drop i) ps st) (gV X.K X.mg Q) Er,⟨xs.length,by simp,Nat.zero_le _,rfl,[],st0,ao,rfl,s0,Ext.refl,h0⟩,?_⟩
  rintro i m ys H ⟨rfl,hi,hy,ps,st,ρ,rps,rs,ex,h⟩
  by_cases hlt:i<xs.length
  ·refine .inr ⟨w1 i ρ H ex hlt,yB (by omega),fun v H' y=>?_⟩
   obtain ⟨x,hx,ex2,s2,rx⟩:=w3 i ρ H st v H' ex rs hlt y
   have hd:xs.drop i=x::xs.drop (i+1):=by
    rw [List.drop_eq_getElem_cons hlt]
    have:=(List.getElem?_eq_some_iff.mp hx).2
    rw [this]
   rw [hd] at h
   simp only [compL] at h
   refine ⟨some x::env,st,ρ,(re.ext (e0.trans (ex.trans ex2))).cons rx,s2,jC (Out.ext h ex2) fun am H3 y st3 e3 s3 h3 v ry=>⟨xs.length-(i+1),by omega,rfl,hlt,by simp [hy],ps++[y],st3,am,Rs.snoc ry (Rs.ext (ex2.trans e3) ps rps),s3,(ex.trans ex2).trans e3,h3⟩⟩
  ·have e:i=xs.length:=by omega
   subst e
   rw [List.drop_length] at h
   exact .inl ⟨w2 _ ρ H ex (Nat.le_refl _),yB (by omega),fun l hl=>Out.newList h rs rps hl⟩
 | rf n =>
  obtain ⟨a,ha,rfl⟩:=wk
  refine ⟨fun i m ys H=>m+i=lim+1/\ys.length=i/\∃ps st ρ,Rs X.K X.mg ρ H ps ys/\StR X.K X.mg ρ H st/\Ext ao H0 ρ H/\ρ[n]?=some a/\Out X.K X.mg ρ H (compR fe env n m i ps st) (gV X.K X.mg Q) Er,⟨lim+1,rfl,rfl,[],st0,ao,rfl,s0,Ext.refl,ha,h0⟩,?_⟩
  rintro i m ys H ⟨hm,hy,ps,st,ρ,rps,rs,ex,ha,h⟩
  cases m with
  | zero=>exact False.elim h
  | succ m =>
   obtain ⟨xs,hn,h⟩:=yI h
   obtain ⟨vs,hH,hR⟩:=rs.addr hn ha
   cases hx:xs[i]? with
   | none =>
    simp only [hx] at h
    have:vs.length<=i:=by rw [<-hR.len];exact List.getElem?_eq_none_iff.mp hx
    exact .inl ⟨⟨vs,SqL.of hH,this⟩,yB (by omega),fun l hl=>Out.newList h rs rps hl⟩
   | some x =>
    simp only [hx] at h
    obtain ⟨v,hv,rv⟩:=hR.get hx
    refine .inr ⟨⟨vs,v,SqL.of hH,hv⟩,yB (by omega),fun v' H' y=>?_⟩
    obtain ⟨e1,y⟩:=y
    subst e1
    have e2:=y vs (SqL.of hH)
    rw [hv] at e2
    cases e2
    exact ⟨some x::env,st,ρ,(re.ext (e0.trans ex)).cons rv,rs,jC h fun am H3 y st3 e3 s3 h3 v ry=>⟨m,Nat.lt_succ_self m,by omega,by simp [hy],ps++[y],st3,am,Rs.snoc ry (Rs.ext e3 ps rps),s3,ex.trans e3,e3.get ha,h3⟩⟩
theorem zni (i:Nat) {elt iter:Expr} {x y:Str} {px pos' spos:Pos} {scope:Scope} {src:zc->Mo Sq} {fe:zc->Mo PV} {M:List Str} (hc:X.calm=true) (S:CompSc X.env.scope scope x) (eN:Hid scope M X.N) (hN0:((".0" : Str)::x::M).Nodup)
  (hi:MI X Er (.Name x px) iter src) (he:∀cl C ae aj fp,ME (cxH X M scope cl x C ae aj fp (fun _ _=>False)) XN elt fe) (hNX:X.N.Nodup) (hiy:X.N[i]?=some y) (hy:Loc X.env.scope y) (hfy:X.fn y=true\/X.env.scope.names.lookup y=some .local)
  (hsw:swapsWith (.ListComp elt [⟨.Name x px,iter,[],0⟩] scope pos) (some (.Name y pos')) spos.line X.env=pure true) (hs:∀v,foldedSetIterable iter X.env v=pure v:=by intro _;rfl) :
  MS X Er (.Assign [.Name y pos'] (.ListComp elt [⟨.Name x px,iter,[],0⟩] scope pos) spos) (zU i (jq src fe)) :=
 PS.weak (znf (te:=tM X.K X.mg XN fe) hc S eN hN0 hi (fun cl C ae aj fp=>he cl C ae aj fp) hNX hiy hy hfy hsw hs) fun D U H ⟨env,st,ρ,re,rs,h⟩=>by
  refine znh (X:=X) (Er:=Er) (src:=src) (fe:=fe) U H (fun v H2=>D.nx (U.set i (some v)) H2) ⟨env,st,ρ,re,rs,h.then fun ad H1 x st1 e1 s1 h1 v rv=>?_⟩
  exact h1.now s1 (U.set i (some v)) ((re.ext e1).set i rv)
end
end Mi
namespace L2
open PySem PySem.Spec PyProof.Rows PySem.W
section
variable {X:Cx}{pins:List (Addr×Obj)}{U:St}{H:Hp}{s:Shared}{a:Addr}{kvs:List (Key×V)}{o:Obj}
theorem Inv.freeze (I:Inv X pins U H s) (ha:H a=some (.dK kvs)) (ho:s.heap.get? a=some o):Inv X pins U (upd H a (.frz o (.dK kvs))) s:=by
 have mu:Mut (H a):=by rw [ha];trivial
 have d:=I.hok a _ ha
 exact I.un (h':=s.heap) (t':=s.toks) (Un.write (e:=a) mu (.inl rfl) (fun b u _ q=>q) ⟨o,ho⟩) (HOk.write (e:=a) I.hok mu (.inl rfl) (fun b u _ q=>q) ⟨o,ho⟩ ⟨ho,d⟩)
theorem Inv.young (I:Inv X pins U H s) (ha:H a=some (.dK kvs)):∀o u,X.H₀ a≠some (.frz o u):=fun o u e=>by
 have:=I.base.frzs a o u e
 rw [ha] at this
 cases this
theorem Inv.thaw (I:Inv X pins U H s) (ha:H a=some (.frz o (.dK kvs))) (hy:∀o u,X.H₀ a≠some (.frz o u)):Inv X pins U (upd H a (.dK kvs)) s:=by
 have ne:∀b,H b=none->b≠a:=fun b n z=>by rw [z,ha] at n;cases n
 have no:∀b u,H b=some u->(∀o k,u ≠ .frz o k)->b≠a:=fun b u e n z=>by rw [z,ha] at e;cases e;exact n _ _ rfl
 refine ⟨I.ok,I.os,I.bare,⟨I.base.keep,I.base.slot,fun b o e n hx=>?_,I.base.there,fun b xs e=>?_,fun b o u e=>?_,fun b ps e=>?_⟩,I.loc,I.cell,?_,fun x c e=>?_,fun p hp=>?_,fun b u e=>?_,I.len⟩
 ·have:=I.base.free b o e n hx
  rw [zp (ne b this)];exact this
 ·have:=I.base.tups b xs e
  rw [zp (no b _ this fun _ _=>nofun)];exact this
 ·have:=I.base.frzs b o u e
  rw [zp (fun z=>hy o u (by rw [<-z];exact e))];exact this
 ·obtain ⟨m,this⟩:=I.base.tbls b ps e
  exact ⟨m,by rw [zp (no b _ this fun _ _=>nofun)];exact this⟩
 ·rw [zp (ne _ I.free)];exact I.free
 ·rw [zp (ne _ (I.freeC x c e))];exact I.freeC x c e
 ·obtain ⟨h1,h2,h3⟩:=I.pin p hp
  exact ⟨h1,by rw [zp (ne _ h2)];exact h2,h3⟩
 ·by_cases hb:b=a
  ·subst hb
   rw [zY] at e
   cases e
   exact (I.hok b _ ha).2
  ·rw [zp hb] at e
   exact (I.hok b u e).stay (fun c v _ q=>q) (fun c q=>by rw [zp (no c _ q fun _ _=>nofun)];exact q) fun c xs q=>by rw [zp (no c _ q fun _ _=>nofun)];exact q
end
theorem zfX {X:Cx}{pins:List (Addr×Obj)}{U:St}{H:Hp}{s:Shared}{a:Addr}{o:Obj}{kvs:List (Key×V)}{es:Array DictEntry}{ep:Nat}(I:Inv X pins U H s) (ha:H a=some (.frz o (.dK kvs))) (hd:o.data=.dict es ep) :
  ∃vs,KV kvs vs/\s.heap.DictAt (mixKind X.prog X.w) a vs ep:=by
 obtain ⟨ho,_,_,vs,r,o',es',ep',e1,e2,e3,e4⟩:=I.hok a _ ha
 rw [ho] at e1
 cases e1
 rw [hd] at e3
 cases e3
 exact ⟨vs,r,o,es,ho,e2,hd,e4⟩
def Thaw (X:Cx) (H:Hp) (G:Hp->Prop):Prop:=∃a o kvs,H a=some (.frz o (.dK kvs))/\(∀o u,X.H₀ a≠some (.frz o u))/\G (upd H a (.dK kvs))
theorem znj {X:Cx}{e:Expr}{t:TE}(h:PE X e t):PE X e (fun U H Q=>t U H fun v H'=>Thaw X H' (Q v)):=by
 intro pins s U H Q I q
 refine thn (h pins s U H _ I q) fun u s1 ⟨v,H',I',r,a,o,kvs,ha,hy,q'⟩=>?_
 exact ⟨v,_,I'.thaw ha hy,r,q'⟩
end L2
namespace Mi
open PySem L2 PySem.W PySem.Spec
section
variable {K:Frag}{mg:Str->Option Value}{ρ:List Addr}{H:Hp}{a:Addr}{o:Obj}{kvs:List (Key×V)}{u:HO}
theorem zai (ha:H a=some (.frz o (.dK kvs))) {b:Addr}{w:HO}(h:H b=some w) (n:∀o k,w ≠ .frz o (.dK k)):upd H a u b=some w:=by
 rw [zp]
 ·exact h
 ·intro z;subst z;rw [ha] at h;cases h;exact n _ _ rfl
theorem znk (ha:H a=some (.frz o (.dK kvs))) {p:Addr}{xs:List V}(h:SqT K H p xs):SqT K (upd H a u) p xs:=by
 rcases h with (h|⟨o,h⟩)|h
 ·exact .inl (.inl (zai ha h (fun _ _=>nofun)))
 ·exact .inl (.inr ⟨o,zai ha h (fun _ _=>nofun)⟩)
 ·exact .inr h
theorem znl (ha:H a=some (.frz o (.dK kvs))) {p:Addr}{xs:List V}(h:FrL K H p xs):FrL K (upd H a u) p xs:=by
 rcases h with ⟨o,h⟩|h
 ·exact .inl ⟨o,zai ha h (fun _ _=>nofun)⟩
 ·exact .inr h
mutual
theorem R.th (ha:H a=some (.frz o (.dK kvs))):∀(x:PV) {v:V},R K mg ρ H x v->R K mg ρ (upd H a u) x v
 | .non,_,h=>h
 | .bl _,_,h=>h
 | .int _,_,h=>h
 | .str _,_,h=>h
 | .ty _,_,h=>h
 | .tup xs,_,h=>by
  obtain ⟨a,vs,h1,h2,h3⟩:=h
  exact ⟨a,vs,h1,znk ha h2,Rs.th ha xs h3⟩
 | .frl xs,_,h=>by
  obtain ⟨a,vs,h1,h2,h3⟩:=h
  exact ⟨a,vs,h1,znl ha h2,Rs.th ha xs h3⟩
 | .ref n,_,h=>h
 | .fn _,_,h=>h
 | .kd ks xs,_,h=>by
  obtain ⟨a,us,vs,h1,h2,h4,h3⟩:=h
  exact ⟨a,us,vs,h1,h2,h4,Rs.th ha xs h3⟩
 | .exo c ks xs,_,h=>by
  obtain ⟨a,C,d,vs,h1,h2,h3,h4,h5,h6⟩:=h
  exact ⟨a,C,d,vs,h1,h2,zai ha h3 (fun _ _=>nofun),zai ha h4 (fun _ _=>nofun),Rs.th ha xs h5,h6⟩
theorem Rs.th (ha:H a=some (.frz o (.dK kvs))):∀(xs:List PV) {vs:List V},Rs K mg ρ H xs vs->Rs K mg ρ (upd H a u) xs vs
 | [],_,h=>h
 | x::xs,_,h=>by
  obtain ⟨v,r,h1,h2,h3⟩:=h
  exact ⟨v,r,h1,R.th ha x h2,Rs.th ha xs h3⟩
end
theorem EnvR.th (ha:H a=some (.frz o (.dK kvs))) {env:zc}{U:L2.St}(h:EnvR K mg ρ H env U):EnvR K mg ρ (upd H a u) env U :=
 ⟨h.len,fun i x hx=>let ⟨v,p,q⟩:=h.at_ i x hx;⟨v,p,R.th ha x q⟩⟩
theorem znm (ha:H a=some (.frz o (.dK kvs))) {so:SO}{b:Addr}(ne:b≠a) (h:SoR K mg ρ H so b):SoR K mg ρ (upd H a u) so b:=by
 cases so with
 | lst xs=>obtain ⟨vs,h1,h2⟩:=h;exact ⟨vs,by rw [zp ne];exact h1,Rs.th ha xs h2⟩
 | dic ks xs=>obtain ⟨vs,h1,h2,h3⟩:=h;exact ⟨vs,by rw [zp ne];exact h1,Rs.th ha xs h2,h3⟩
 | ins c ks xs=>obtain ⟨C,dx,vs,h0,h1,h2,h3⟩:=h;exact ⟨C,dx,vs,h0,by rw [zp ne];exact h1,Rs.th ha xs h2,h3⟩
 | fdi ks xs=>obtain ⟨o,vs,h1,h2,h3⟩:=h;exact ⟨o,vs,by rw [zp ne];exact h1,Rs.th ha xs h2,h3⟩
theorem StR.thaw {st:Sto}{n:Nat}{ks:List Str}{xs:List PV}(s:StR K mg ρ H st) (hn:ρ[n]?=some a) (ha:H a=some (.frz o (.dK kvs))) (hs:st[n]?=some (.fdi ks xs)):StR K mg ρ (upd H a (.dK kvs)) (st.set n (.dic ks xs)):=by
 refine ⟨by simp [s.len],s.nd,fun i so' e=>?_⟩
 rw [List.getElem?_set] at e
 by_cases hij:n=i
 ·subst hij
  rw [if_pos rfl] at e
  split at e
  ·cases e
   obtain ⟨o',vs,h1,h2,h3⟩:=s.addr hs hn
   rw [ha] at h1
   cases h1
   exact ⟨a,hn,vs,zY,Rs.th ha xs h2,h3⟩
  ·cases e
 ·rw [if_neg hij] at e
  obtain ⟨b,hb,q⟩:=s.at_ i so' e
  have ne:b≠a:=by
   intro z
   subst z
   obtain ⟨h1,h2⟩:=List.getElem?_eq_some_iff.mp hn
   obtain ⟨h3,h4⟩:=List.getElem?_eq_some_iff.mp hb
   have pw:=List.pairwise_iff_getElem.mp s.nd
   rcases Nat.lt_trichotomy n i with c|c|c
   ·exact pw n i h1 h3 c (h2.trans h4.symm)
   ·exact hij c
   ·exact pw i n h3 h1 c (h4.trans h2.symm)
  exact ⟨b,hb,znm ha ne q⟩
theorem Ext.thawed {af:List Addr}{H':Hp}{w:HO}(ha:H a=some (.dK kvs)) (e:Ext ρ (upd H a (.frz o (.dK kvs))) af H'):Ext ρ H af (upd H' a w) :=
 ⟨e.pre,fun b x h m=>by
  have ne:b≠a:=by intro z;subst z;rw [ha] at h;cases h;cases m
  rw [zp ne]
  exact e.imm b x (by rw [zp ne];exact h) m⟩
end
section
variable {X:Cx}{Er:XK}{pos:Pos}{o:Expr}{sts:List Stmt}{gb:zc->Mo Fl}{fo:zc->Mo PV}{fs:zc->Mo (List PV)}
def zbk {α:Type}(v:PV) (st:Sto) (f:Nat->List Str->List PV->Res α):Res α:=match v with
 | .ref n=>yC st n fun ks xs=>f n ks xs
 | _=>.stuck
def thawM {α:Type}(n:Nat) (st:Sto) (f:Sto->Res α):Res α:=match st[n]? with
 | some (.fdi ks xs)=>f (st.set n (.dic ks xs))
 | _=>.stuck
theorem znn {α:Type}{K:Frag}{mg:Str->Option Value}{ρ:List Addr}{H:Hp}{st:Sto}{v:PV}{k:Nat->List Str->List PV->Res α}{good:List Addr->Hp->α->Sto->Prop}(h:Out K mg ρ H (zbk v st k) good Er):∃n ks xs,v=.ref n/\st[n]?=some (.dic ks xs)/\Out K mg ρ H (k n ks xs) good Er:=by
 unfold zbk at h
 split at h
 ·rename_i n
  obtain ⟨ks,xs,e,h⟩:=zcb h
  exact ⟨n,ks,xs,rfl,e,h⟩
 ·exact False.elim h
theorem zno {α:Type}{K:Frag}{mg:Str->Option Value}{ρ:List Addr}{H:Hp}{st:Sto}{n:Nat}{k:Sto->Res α}{good:List Addr->Hp->α->Sto->Prop}(h:Out K mg ρ H (thawM n st k) good Er):∃ks xs,st[n]?=some (.fdi ks xs)/\Out K mg ρ H (k (st.set n (.dic ks xs))) good Er:=by
 unfold thawM at h
 split at h
 ·rename_i ks xs e;exact ⟨ks,xs,e,h⟩
 ·exact False.elim h
theorem znp {α β:Type}{K:Frag}{mg:Str->Option Value}{ρ:List Addr}{H:Hp}{r:Res β}{f:β->Mo α}{good:List Addr->Hp->α->Sto->Prop}(h:Out K mg ρ H ((noErr r).bind f) good Er):∃x st,r=.ok x st/\Out K mg ρ H (f x st) good Er:=by
 cases r with
 | ok x st=>exact ⟨x,st,rfl,h⟩
 | err=>exact False.elim h
 | stuck=>exact False.elim h
theorem znq {α β:Type}{r:Res β}{f:β->Mo α}{x:α}{st:Sto}(h:(noErr r).bind f=.ok x st):∃y st1,r=.ok y st1/\f y st1=.ok x st:=by
 cases r with
 | ok y st1=>exact ⟨y,st1,rfl,h⟩
 | err=>cases h
 | stuck=>cases h
def compK (fe:zc->Mo PV) (env:zc):List PV->List PV->Mo (List PV)
 | [],ys,st=>.ok ys st
 | x::xs,ys,st=>(noErr (fe (some x::env) st)).bind fun y st1=>compK fe env xs (ys++[y]) st1
end
end Mi
namespace L2
open PySem PySem.Spec PyProof.Rows PySem.W
end L2
namespace Mi
open PySem L2 PySem.W PySem.Spec
section
variable {X:Cx}{Er:XK}{K:Frag}{mg:Str->Option Value}{pos p apos cpos:Pos}{o e f:Expr}{fo fk fx:zc->Mo PV}
def boolsP:List PV->Option (List Bool)
 | []=>some []
 | .bl b::r=>(boolsP r).map (b::·)
 | _::_=>none
theorem zfY {ρ:List Addr}{H:Hp}:∀{xs:List PV}{bs:List Bool}{vs:List V},boolsP xs=some bs->Rs K mg ρ H xs vs->vs=bs.map V.bl
 | [],bs,vs,e,h=>by cases e;cases h;rfl
 | .bl i::r,bs,vs,e,h=>by
  simp only [boolsP,Option.map_eq_some_iff] at e
  obtain ⟨ir,e1,rfl⟩:=e
  obtain ⟨v,r',rfl,h1,h2⟩:=h
  cases h1
  rw [zfY e1 h2]
  rfl
 | .non::_,_,_,e,_=>by cases e
 | .int _::_,_,_,e,_=>by cases e
 | .str _::_,_,_,e,_=>by cases e
 | .ty _::_,_,_,e,_=>by cases e
 | .tup _::_,_,_,e,_=>by cases e
 | .frl _::_,_,_,e,_=>by cases e
 | .ref _::_,_,_,e,_=>by cases e
 | .fn _::_,_,_,e,_=>by cases e
 | .kd _ _::_,_,_,e,_=>by cases e
 | .exo _ _ _::_,_,_,e,_=>by cases e
theorem boolsP_map:∀bs:List Bool,boolsP (bs.map PV.bl)=some bs
 | []=>rfl
 | b::bs=>by simp [boolsP,boolsP_map bs]
inductive MPk (X:Cx) (Er:XK):List (Option Expr)->List Expr->List ((zc->Mo PV)×(zc->Mo PV))->Prop
 | nil:MPk X Er [] [] []
 | cons {k v:Expr} {fk fv:zc->Mo PV} {ks:List (Option Expr)} {vs:List Expr} {fs:List ((zc->Mo PV)×(zc->Mo PV))} (hk:ME X Er k fk) (hv:ME X Er v fv) (hr:MPk X Er ks vs fs):MPk X Er (some k::ks) (v::vs) ((fk,fv)::fs)
theorem MPk.len {ks:List (Option Expr)}{vs:List Expr}{fs:List ((zc->Mo PV)×(zc->Mo PV))}(h:MPk X Er ks vs fs):ks.length=vs.length/\ks.length=fs.length/\ks.all (·.isSome)=true:=by
 induction h with
 | nil=>exact ⟨rfl,rfl,rfl⟩
 | cons hk hv hr ih=>exact ⟨by simp [ih.1],by simp [ih.2.1],by simpa using ih.2.2⟩
end
section
variable {K:Frag}{mg:Str->Option Value}{h:Heap}
def keyIn (ks:List Str) (e:DictEntry):Bool:=match e.key with
 | .str x _=>ks.contains x
 | _=>false
theorem znr {ks:List Str}{e:DictEntry}(h:keyIn ks e=true):∃x∈ks,∃t,e.key=.str x t:=by
 unfold keyIn at h
 split at h
 ·rename_i x t ek;exact ⟨x,by simpa using h,t,ek⟩
 ·cases h
theorem zns {w:World} {name:Str} {O:Addr} {es:Array DictEntry} {n:Nat} {ks:List Str} {qs:List PV} (X:K.In h) (G:h.Ns mainGlobals mg) (aO:nsIn K mainGlobals name=some (some (.ref O))) (lO:K.lookup O=some ⟨.type "dict", none,.dict es n,#[]⟩) (hk:KeysLit w.params es.toList) (no:(O==sysModules)=false)
  (hl:ks.length=qs.length) (hks:es.toList.all (keyIn ks)=true)
  (hi:∀p∈ks.zip qs,∃u v,nsIn K O p.1=some (some u)/\RelV v u/\∀ρ H,R K mg ρ H p.2 v):∀Y:Cx,Y.K=K->Y.mg=mg->Y.w=w->KdF Y name ks qs true:=fun Y e1 e2 e3=>by
 have hks:∀e∈es.toList,∃x∈ks,∃t,e.key=.str x t:=fun e he=>znr (List.all_eq_true.mp hks e he)
 refine ⟨O,by rw [e2];exact mg_of X G aO,⟨⟨es,n,by rw [e1];exact lO,by rw [e3];exact hk⟩,no⟩,fun z q hz=>?_,fun _ z hz=>?_⟩
 ·rw [e1,e2]
  exact hi _ (wB hz)
 ·have hn:z∉ks:=fun hz'=>by
   obtain ⟨i,hi⟩:=List.getElem?_of_mem hz'
   have hl':i<qs.length:=by rw [<-hl];exact (List.getElem?_eq_some_iff.mp hi).1
   have:=List.lookup_eq_none_iff.mp hz (z,qs[i]) (List.mem_iff_getElem?.mpr ⟨i,by simp [List.getElem?_zip_eq_some,hi,hl']⟩)
   simp at this
  rw [e1]
  unfold nsIn
  rw [lO]
  dsimp only
  have f1:es.toList.find? (·.key.isStr z)=none:=by
   rw [List.find?_eq_none]
   intro e he
   obtain ⟨x,hx,t,ek⟩:=hks e he
   rw [ek]
   intro hc
   have:x=z:=by
    simp [Value.isStr] at hc
    exact hc
   exact hn (this▸hx)
  rw [f1]
  dsimp only
  rw [if_neg]
  intro hc
  obtain ⟨e,he,hr⟩:=List.any_eq_true.mp hc
  obtain ⟨x,hx,t,ek⟩:=hks e he
  simp [DictEntry.refKey,ek] at hr
end
section
variable {X:Cx}{Er:XK}{K:Frag}{mg:Str->Option Value}
theorem call_len_dict:CallR X (.builtin "len") (fun xs H Q=>∃p kvs,xs=[.ref p]/\H p=some (.dK kvs)/\Q (.int kvs.length) H):=by
 intro pins s U H xs us Q I r h
 obtain ⟨p,kvs,rfl,hp,q⟩:=h
 obtain ⟨u,rfl,rx⟩:=jx r
 cases rx
 exact zj1 I (.inl hp) fun t s' I'=>⟨.int kvs.length,H,I',⟨t,rfl⟩,q⟩
def ye:List PV->Mo PV:=fun xs st=>match xs with
 | [.ref n]=>match st[n]? with
  | some (.dic ks _)=>.ok (.int ks.length) st
  | _=>w6 xs st
 | _=>w6 xs st
theorem y0:BltOk X (.builtin "len") ye:=by
 obtain ⟨r,h1,h2⟩:=zlf (X:=X)
 refine ⟨_,h1.or call_len_dict,fun ρ H st xs vs Q E s rx h=>?_⟩
 by_cases hx:∃n ks ys,xs=[.ref n]/\st[n]?=some (.dic ks ys)
 ·obtain ⟨n,ks,ys,rfl,e⟩:=hx
  have h:Out X.K X.mg ρ H (.ok (.int ks.length) st) (gV X.K X.mg Q) E:=by
   simpa only [ye,e] using h
  obtain ⟨v,rfl,rv⟩:=Rs.one rx
  obtain ⟨a,ws,rfl,_,k1,k2,k3⟩:=R.refD s rv e
  refine .inr ⟨a,_,rfl,k1,?_⟩
  have hl:(kz ks ws).length=ks.length:=by simp [kz,k3]
  rw [hl]
  exact Out.now (x:=PV.int ks.length) h s _ rfl
 ·refine .inl (h2 ρ H st xs vs Q E s rx ?_)
  have:ye xs st=w6 xs st:=by
   unfold ye
   split
   ·rename_i n
    split
    ·rename_i ks ys e;exact absurd ⟨n,ks,ys,rfl,e⟩ hx
    ·rfl
   ·rfl
  rw [this] at h
  exact h
end
section
variable {α:Type}{env:zc}{st:Sto}{fa fb fo fk fx:zc->Mo PV}{fs:zc->Mo (List PV)}{g:zc->Mo Fl}
theorem zcG {n:Nat}{ks:List Str}{xs:List PV}(h:st[n]?=some (.dic ks xs)) (k:List Str->List PV->Res α):yC st n k=k ks xs:=by unfold yC;rw [h]
theorem zbl {n:Nat}{xs:List PV}(h:st[n]?=some (.lst xs)):ye [.ref n] st=.ok (.int xs.length) st:=by
 simp only [ye,h]
 show zW st n _=_
 rw [yF h]
@[simp] theorem jr (xs:List PV):ye [.tup xs] st=.ok (.int xs.length) st:=(rfl)
@[simp] theorem zq4 (xs:List PV):ye [.frl xs] st=.ok (.int xs.length) st:=(rfl)
@[simp] theorem znt (z:Str):ye [.str z] st=w6 [.str z] st:=(rfl)
@[simp] theorem znu (n:Nat) (f:Nat->List Str->List PV->Res α):zbk (.ref n) st f=yC st n fun ks xs=>f n ks xs:=(rfl)
end
end Mi
namespace L2
open PySem PySem.Spec PyProof.Rows PySem.W
section
variable {X:Cx}
theorem znv (hc:X.calm=true):CallR X (.builtin "any") (fun xs H Q=>∃(a:Addr) (bs:List Bool),xs=[.ref a]/\SqL X.K H a (bs.map V.bl)/\Q (.bl (bs.any id)) H):=by
 intro pins s U H xs us Q I r h
 obtain ⟨a,bs,rfl,hl,q⟩:=h
 obtain ⟨u,rfl,ru⟩:=jx r
 cases ru
 obtain ⟨its,rv,pl,hz⟩:=I.list hl
 have e:=zeq rv
 subst e
 refine call_any_walk (wpAny_pyIter_list pl.isList ?_)
 have hh:X.A.in1.handled=none:=I.ok.hd hc
 have hlt:a<s.heap.objs.size:=by
  obtain ⟨o,e,_⟩:=pl.isList
  exact Heap.lt_size e
 have hne:a≠s.heap.objs.size:=Nat.ne_of_lt hlt
 refine ⟨s.heap.objs.size,_,_,_,_,_,fun i=>(bs[i]?).getD false,rfl,Walks.list hh s.heap.objs.size a hne (bs.map Value.bool).toArray,⟨⟨_,Heap.get?_push_size _ rfl,rfl,rfl⟩,pl.isList.at fun o e=>Heap.get?_push_of_some _ e⟩,?_,fun h' tk kk=>?_⟩
 ·intro i v s' Q' E' hp hq
  have hp':(bs.map Value.bool)[i]?=some v:=by simpa using hp
  rw [List.getElem?_map] at hp'
  cases eb:bs[i]? with
  | none=>rw [eb] at hp';cases hp'
  | some b =>
   rw [eb] at hp'
   have:Value.bool b=v:=Option.some.inj hp'
   subst this
   refine wpAny_truthy_bool ?_
   dsimp only at hq
   rw [eb] at hq
   exact hq
 ·have e1:(List.range (bs.map Value.bool).toArray.size).any (fun i=>(bs[i]?).getD false)=bs.any id:=by
   rw [List.size_toArray,List.length_map]
   rw [Bool.eq_iff_iff,List.any_eq_true,List.any_eq_true]
   constructor
   ·rintro ⟨i,hi,hh⟩
    have hi':=List.mem_range.mp hi
    rw [List.getElem?_eq_getElem hi'] at hh
    exact ⟨_,List.getElem_mem hi',hh⟩
   ·rintro ⟨b,hb,hh⟩
    obtain ⟨i,hi,e⟩:=List.getElem_of_mem hb
    refine ⟨i,List.mem_range.mpr hi,?_⟩
    rw [List.getElem?_eq_getElem hi,e]
    exact hh
  rw [e1]
  refine ⟨.bl (bs.any id),H,?_,rfl,q⟩
  exact I.kept (t':=tk) fun b o e=>kk b o (fun z=>by
   have z':b=s.heap.objs.size:=by simpa using z
   exact absurd (Heap.lt_size e) (by rw [z'];exact Nat.lt_irrefl _)) (Heap.get?_push_of_some _ e)
end
end L2
namespace Mi
open PySem L2 PySem.W PySem.Spec
section
variable {X:Cx}{Er:XK}{pos:Pos}{K:Frag}{mg:Str->Option Value}{fs:zc->Mo (List PV)}
def zaj:List PV->Mo PV:=fun vs st=>(zbh vs st).bind fun n st=>zW st n fun xs=>match boolsP xs with
 | some bs=>.ok (.bl (bs.any id)) st
 | none=>.stuck
theorem zfZ (hc:X.calm=true):BltOk X (.builtin "any") zaj:=⟨_,znv hc,fun ρ H st xs vs Q E s r h=>by
 obtain ⟨n,ys,rfl,hn,h⟩:=zmM h
 obtain ⟨xs',hn',h⟩:=yI h
 obtain ⟨v,rfl,rv⟩:=r.one
 obtain ⟨a,rfl,ha⟩:=rv
 obtain ⟨ws,hH,hR⟩:=s.addr hn' ha
 cases hi:boolsP xs' with
 | none=>simp only [hi] at h;exact False.elim h
 | some bs =>
  simp only [hi] at h
  have e:=zfY hi hR
  subst e
  exact ⟨a,bs,rfl,SqL.of hH,Out.now (x:=PV.bl (bs.any id)) h s _ rfl⟩⟩
theorem zf0:bootBuiltins "any" = some (.builtin "any"):=by decide +kernel
end
end Mi
namespace PySem
open Sem (wp)
section
variable {prog:Program}{w:World}{A:Around}{s:Shared}{R:Result->Shared->Prop}
variable {I:Addr}{fp wr:List Addr}{G:Array GenState->Array GenState->Prop}{n:Nat}{P:Nat->Value->Prop}{St:Nat->Shared->Prop}
end
section
variable {prog:Program}{w:World}{A:Around}{s:Shared}{R:Result->Shared->Prop}
variable {I:Addr}{fp wr:List Addr}{G:Array GenState->Array GenState->Prop}{n:Nat}{P:Nat->Value->Prop}{St:Nat->Shared->Prop}
end
section
variable {prog:Program}{w:World}{A:Around}{E:Value->Shared->Prop}{s:Shared}
variable {I:Addr}{fp wr:List Addr}{G:Array GenState->Array GenState->Prop}{n:Nat}{P:Nat->Value->Prop}{St:Nat->Shared->Prop}
end
end PySem
namespace L2
open PySem PySem.Spec PyProof.Rows PySem.W
section
variable {X:Cx}
end
end L2
namespace Mi
open PySem L2 PySem.W PySem.Spec
section
variable {X:Cx}{Er:XK}{pos:Pos}{K:Frag}{mg:Str->Option Value}{fs:zc->Mo (List PV)}
end
section
variable {X:Cx}{Er:XK}{pos pos':Pos}{o i value:Expr}{fo fi fv:zc->Mo PV}
end
section
variable {X:Cx}
end
end Mi
namespace L2
open PySem PySem.Spec PyProof.Rows PySem.W
section
variable {prog:Program}{w:World}{A:Around}{E:Value->Shared->Prop}{s:Shared}
end
section
variable {X:Cx}{pos:Pos}
end
end L2
namespace Mi
open PySem L2 PySem.W PySem.Spec
section
variable {X:Cx}{Er:XK}{pos:Pos}{e:Expr}{fa:zc->Mo PV}
end
end Mi
namespace L2
open PySem PySem.Spec PyProof.Rows PySem.W
section
variable {prog:Program}{w:World}{A:Around}{E:Value->Shared->Prop}{s:Shared}
end
end L2
namespace Mi
open PySem L2 PySem.W PySem.Spec
section
variable {X:Cx}{Er:XK}{pos:Pos}{sts:List Stmt}{gb:zc->Mo Fl}{fs:zc->Mo (List PV)}
end
end Mi
namespace L2
open PySem PySem.Spec PyProof.Rows PySem.W
section
variable {prog:Program}{w:World}{A:Around}{E:Value->Shared->Prop}{s:Shared}
end
end L2
namespace Mi
open PySem L2 PySem.W PySem.Spec
section
variable {X:Cx}
end
end Mi
namespace L2
open PySem PySem.Spec PyProof.Rows PySem.W
end L2
namespace Mi
open PySem L2 PySem.W PySem.Spec
section
variable {X:Cx}{Er:XK}{pos:Pos}
end
section
variable {K:Frag}{h:Heap}{mg:Str->Option Value}{od:Option Addr}{f:Addr}
theorem zf1 {O t t2:Addr} {wd k1 k2 k3 y:Str} {u1 u2 u3:Tok} {n n2:Nat} {od2:Option Addr} {sl sl2:Array (Option Value)} (X:K.In h) (G:h.Ns mainGlobals mg) (e:nsIn K O wd=some (some (.ref t))) (l1:K.lookup t=some ⟨.type "tuple", od,.seq #[.ref t2,.ref f] n,sl⟩)
  (l2:K.lookup t2=some ⟨.type "tuple", od2,.seq #[.str k1 u1,.str k2 u2,.str k3 u3] n2,sl2⟩) (a:nsIn K mainGlobals y=some (some (.ref f))):∃u v,nsIn K O wd=some (some u)/\RelV v u/\∀ρ H,R K mg ρ H (.tup [.tup [.str k1,.str k2,.str k3],.fn y]) v:=by
 refine ⟨_,.ref t,e,rfl,wy (xs:=[.tup [.str k1,.str k2,.str k3],.fn y]) (vs:=[.ref t2,.ref f]) l1 rfl (by simp) (.cons rfl (.cons rfl .nil)) fun ρ H=>?_⟩
 exact ⟨_,_,rfl,wy (xs:=[.str k1,.str k2,.str k3]) (vs:=[.str k1,.str k2,.str k3]) l2 rfl (by simp) (.cons ⟨_,rfl⟩ (.cons ⟨_,rfl⟩ (.cons ⟨_,rfl⟩ .nil))) (fun ρ H=>⟨_,_,rfl,rfl,_,_,rfl,rfl,_,_,rfl,rfl,rfl⟩) ρ H,_,_,rfl,⟨f,rfl,mg_of X G a⟩,rfl⟩
end
section
variable {X:Cx}{Er:XK}{pos:Pos}
end
section
variable {X:Cx}{Er:XK}{pos:Pos}
end
section
variable {X:Cx}{Er:XK}{pos pos':Pos}{o i value:Expr}{fo fi fv:zc->Mo PV}
end
end Mi
namespace L2
open PySem PySem.Spec PyProof.Rows PySem.W
section
variable {X:Cx}
end
end L2
namespace Mi
open PySem L2 PySem.W PySem.Spec
section
variable {X:Cx}{Er:XK}
theorem znw {K:Frag}{mg:Str->Option Value}{ρ:List Addr}{H:Hp}:∀{xs:List PV}{zs:List Str}{vs:List V},strsOf xs=some zs->Rs K mg ρ H xs vs->vs=zs.map V.str:=fun {xs zs vs} h r=>by
 have:=zfx h r
 rw [this]
 simp [kV,List.map_map,Function.comp_def]
end
section
variable {X:Cx}{K:Frag}{mg:Str->Option Value}
end
end Mi
namespace Mi
open PySem L2 PySem.W
section
variable {α:Type}{g g':zc->Mo Fl}{f fa fb fc:zc->Mo PV}{fs:zc->Mo (List PV)}{t ta tb:zc->Mo Bool}{e e1:zc}{st s1 s2 s3:Sto}{x y v:PV}{xs:List PV}{b:Bool}
theorem zu {X:Res Fl}(h:g e st=.ok (.nx e1) s1) (h':g' e1 s1=X):zq g g' e st=X:=by rw [zfg,h,zF,zmk,h']
theorem ym (h:g e st=.ok (.rt v) s1):zq g g' e st=.ok (.rt v) s1:=by rw [zfg,h,zF,zml]
theorem yy {i:Nat}(h:f e st=.ok v s1):zU i f e st=.ok (.nx (e.set i (some v))) s1:=by rw [zmm,h,zF]
theorem zT (h:f e st=.ok v s1):zC f e st=.ok (.rt v) s1:=by rw [zmn,h,zF]
theorem yq {X:Res Fl}(h:t e st=.ok true s1) (h':g e s1=X):zH t g g' e st=X:=by rw [zfh,h,zF,if_pos rfl,h']
theorem znx {X:Res Fl}(h:t e st=.ok false s1) (h':g' e s1=X):zH t g g' e st=X:=by rw [zfh,h,zF,if_neg (by simp),h']
theorem zR (h:t e st=.ok false s1):zH t g zJ e st=.ok (.nx e) s1:=znx h (zmj ..)
theorem zk {i:Nat}(h:e[i]?=some (some v)):zd i e st=.ok v st:=by rw [zl1,h]
theorem zn {op:PV->PV->Mo PV}{X:Res PV}(h:fa e st=.ok x s1) (h':fb e s1=.ok y s2) (h2:op x y s2=X):zg op fa fb e st=X:=by rw [zl3,h,zF,h',zF,h2]
theorem jF {op:PV->Mo PV}{X:Res PV}(h:fa e st=.ok x s1) (h2:op x s1=X):z0 op fa e st=X:=by rw [zl4,h,zF,h2]
theorem zA {m:List PV->Mo PV}{X:Res PV}(h:fs e st=.ok xs s1) (h2:m xs s1=X):zl m fs e st=X:=by rw [zmf,h,zF,h2]
theorem zf2 (h:f e st=.ok x s1) (h':fs e s1=.ok xs s2):ze f fs e st=.ok (x::xs) s2:=by rw [zl9,h,zF,h',zF]
theorem j7:zj e st=.ok [] st:=(rfl)
theorem zV (h:f e st=.ok x s1):ze f zj e st=.ok [x] s1:=zf2 h j7
theorem zS (h:f e st=.ok x s1) (h':fa e s1=.ok y s2):ze f (ze fa zj) e st=.ok [x,y] s2:=zf2 h (zV h')
theorem jT (h:fs e st=.ok xs s1) (hl:xs.length<=1000000):yW fs e st=.ok (.tup xs) s1:=by rw [zma,h,zF,if_pos hl]
theorem jU (h:fs e st=.ok xs s1) (hl:xs.length<=1000000):yQ fs e st=.ok (.ref s1.length) (s1++[.lst xs]):=by rw [zmb,h,zF,if_pos hl]
theorem zX (h:f e st=.ok (.bl b) s1):mB f e st=.ok b s1:=by rw [zl5,h,zF,zfc]
theorem zcH (h:ta e st=.ok false s1):yV ta tb e st=.ok false s1:=by rw [zfd,h,zF,if_neg (by simp)]
theorem j8 (h:ta e st=.ok true s1) (h':tb e s1=.ok b s2):yV ta tb e st=.ok b s2:=by rw [zfd,h,zF,if_pos rfl,h']
theorem yL (h:ta e st=.ok false s1) (h':tb e s1=.ok b s2):yu ta tb e st=.ok b s2:=by rw [zl6,h,zF,if_neg (by simp),h']
theorem jG (h:ta e st=.ok b s1):yE ta e st=.ok (!b) s1:=by rw [zl7,h,zF]
theorem j9 {X:Res PV}(h:fa e st=.ok (.bl true) s1) (h':fb e s1=X):jj fa fb e st=X:=by rw [zl8,h,zF,zfc,zF,if_pos rfl,h']
theorem js {lo hi:Option Int}{fl fu:zc->Mo (Option Int)}{X:Res PV}(h:fa e st=.ok x s1) (hl:fl e s1=.ok lo s2) (hu:fu e s2=.ok hi s3) (h':j2 x lo hi s3=X):yJ fa fl fu e st=X:=by rw [zmc,h,zF,hl,zF,hu,zF,h']
theorem jt {i:Int}(h:f e st=.ok (.int i) s1):pSome f e st=.ok (some i) s1:=by rw [zmd,h,zF,zme]
theorem ju:pNone e st=.ok none st:=(rfl)
theorem jH (i j:Int):zZ (.int i) (.int j) st=.ok (.int (i+j)) st:=(rfl)
theorem wG (i j:Int):ja (.int i) (.int j) st=.ok (.int (i-j)) st:=(rfl)
theorem yG (i j:Int) (h:j≠0):zL (.int i) (.int j) st=.ok (.int (zO i j)) st:=by show (if _ then _ else _)=_;rw [if_pos (by simpa using h)]
theorem jI (i j:Int) (h:j≠0) (h2:j.natAbs<2 ^ 200):yK (.int i) (.int j) st=.ok (.int (yv i j)) st:=by
 show (if _ then _ else _)=_
 rw [if_pos]
 simp only [cDv,Bool.and_eq_true,decide_eq_true_eq]
 exact ⟨h,h2⟩
theorem zcI (i j:Int):jm (.int i) (.int j) st=.ok (.bl (decide (i<j))) st:=(rfl)
theorem zbm (i j:Int):yo (.int i) (.int j) st=.ok (.bl (decide (i=j))) st:=by simp [Mi.plain,dep,eqP];rfl
theorem zny (i j:Int):yX (.int i) (.int j) st=.ok (.bl (!decide (i=j))) st:=by simp [Mi.plain,dep,eqP];rfl
theorem zf3 (i j:Str):yo (.str i) (.str j) st=.ok (.bl (decide (i=j))) st:=by simp [Mi.plain,dep,eqP];rfl
theorem znz (i j:Str):yX (.str i) (.str j) st=.ok (.bl (!decide (i=j))) st:=by simp [Mi.plain,dep,eqP];rfl
theorem znA (i j:Int) (h:cMul i j=true):jS (.int i) (.int j) st=.ok (.int (i*j)) st:=by rw [zmR,if_pos h]
theorem yr {m:Nat}{n:Nat}{r:Sto}(hl:xs.length=m) (h:g (xs.map some++List.replicate (n-m) none) st=.ok (.rt v) r):zB m n g xs st=.ok v r:=by
 unfold zB
 rw [if_pos hl,h,zF,zmp]
end
end Mi
namespace Mi
open PySem L2 PySem.W PySem.Spec
def nst:Expr->Bool
 | .Starred _ _=>false
 | _=>true
theorem znB {e:Expr}{es:List Expr}{env:Env}(h:nst e=true):St1 e es env:=by cases e<;>first|rfl|cases h
theorem zh {X:Cx}{Er:XK}{e:Expr}{es:List Expr}{fa:zc->Mo PV}{fs:zc->Mo (List PV)}(ha:ME X Er e fa) (hr:MA X Er es fs) (hs:nst e=true:=by rfl):MA X Er (e::es) (ze fa fs):=zeN ha hr (znB hs)
section
variable {X:Cx}{K:Frag}{mg:Str->Option Value}{Er:XK}{e o:Expr}{pos apos cpos:Pos}{fo fa:zc->Mo PV}{x:Str}{h:Heap}
theorem zf4 {zs:List Str} (h:∃a,X.mg x=some (.ref a)/\∀ρ H,R X.K X.mg ρ H (.tup (zs.map PV.str)) (.ref a)) (hg:Gl X x:=by rfl) (hd:(x==("__debug__" : Str))=false:=by decide):ME X Er (.Name x pos) (mC (.tup (zs.map PV.str))):=let ⟨a,h,r⟩:=h;zb9 (v:=.ref a) h rfl r hg hd
def strVs:List Value->Option (List Str)
 | []=>some []
 | .str z _::r=>(strVs r).map (z::·)
 | _::_=>none
theorem zf5:∀{us:List Value}{zs:List Str},strVs us=some zs->Vals (zs.map V.str) us
 | [],zs,h=>by cases h;exact .nil
 | u::us,zs,h=>by
  cases u with
  | str z t =>
   simp only [strVs,Option.map_eq_some_iff] at h
   obtain ⟨r,hr,rfl⟩:=h
   exact .cons ⟨_,rfl⟩ (zf5 hr)
  | _=>cases h
theorem zf6 {a:Addr} {its:Array Value} {n:Nat} {od:Option Addr} {sl:Array (Option Value)} {zs:List Str} (X:K.In h) (G:h.Ns mainGlobals mg) (e:nsIn K mainGlobals x=some (some (.ref a))) (l:K.lookup a=some ⟨.type "tuple", od,.seq its n,sl⟩) (hz:strVs its.toList=some zs) (hs:its.size<=sizeLine) :
  ∃a,mg x=some (.ref a)/\∀ρ H,R K mg ρ H (.tup (zs.map PV.str)) (.ref a) :=
 ⟨a,mg_of X G e,fun ρ H=>⟨a,zs.map V.str,rfl,.inr ⟨_,its,n,l,rfl,rfl,hs,zf5 hz⟩,zcD⟩⟩
def zcJ:PV->Mo PV:=fun x st=>match x with
 | .str z=>if (Txt.upper z).length<=1000 then .ok (.str (Txt.upper z)) st else .stuck
 | _=>.stuck
theorem znC {X:Cx}:MtR X "str.upper" (fun x vs H Q=>∃z,x=.str z/\vs=[]/\(Txt.upper z).length<=1000/\Q (.str (Txt.upper z)) H):=by
 intro pins s U H x xs v us Q I rx rv h
 obtain ⟨z,rfl,rfl,hl,q⟩:=h
 obtain ⟨t,rfl⟩:=rx
 cases rv
 refine KXw.upper rfl ?_ fun t' k=>⟨.str (Txt.upper z),H,I.tok _,⟨_,rfl⟩,q⟩
 unfold Builtin.Str.tooLong
 simp only [decide_eq_false_iff_not,Nat.not_lt,sizeLine_eq]
 omega
theorem znD (ho:ME X Er o fo) (hbase:attributeBase o "upper" X.env (eval o X.env)=eval o X.env:=by rfl) (hline:(apos.endLine==cpos.line)=true:=by rfl):ME X Er (.Call (.Attribute o "upper" apos) [] [] cpos) (z0 zcJ fo) :=
 PE.weak (zjE PySem.F.plainAttrs_str PySem.F.slot_str_upper PySem.F.type_str_upper znC ho hbase hline) fun U H Q ⟨env,st,ρ,re,rs,h⟩=>⟨env,st,ρ,re,rs,h.then fun ad H1 x st1 e1 s1 h1 v rv=>by
  cases x with
  | str z =>
   cases rv
   obtain ⟨hl,h2⟩:=Out.ifp h1
   exact ⟨rfl,z,rfl,rfl,hl,Out.now (x:=PV.str (Txt.upper z)) h2 s1 _ rfl⟩
  | _=>exact False.elim h1⟩
def zf7:PV->PV->Mo PV
 | .str z,.ref n,st=>zW st n fun xs=>match strsOf xs with
  | some ys=>if (ys.map (·.length)).sum+ys.length*z.length<=1000000 then .ok (.str (Txt.join z ys)) st else .stuck
  | none=>.stuck
 | _,_,_=>.stuck
def zcK (fo fa:zc->Mo PV):zc->Mo PV:=fun env st=>(fo env st).bind fun o st1=>match o with
 | .str z=>(fa env st1).bind fun y st2=>zf7 (.str z) y st2
 | _=>.stuck
theorem znE (ho:ME X Er o fo) (he:ME X Er e fa) (hbase:attributeBase o "join" X.env (eval o X.env)=eval o X.env:=by rfl)
  (hfew:((backTo cpos (starEach [e] X.env)).all (fun x=>!x.1)&&(backToKw cpos (keywordEach [] X.env)).all (fun x=>x.1.isSome)&&decide ([e].length+([]:List Keyword).length+(if ([]:List Keyword).isEmpty then 0 else 1)<30))=true:=by rfl)
  (hline:(apos.endLine==cpos.line)=true:=by rfl) (hs:starEach [e] X.env=(false,eval e X.env)::starEach [] X.env:=by rfl) (hpl:(backTo cpos (starEach [] X.env)).any (·.1)=false:=by rfl):ME X Er (.Call (.Attribute o "join" apos) [e] [] cpos) (zcK fo fa) :=
 PE.weak (zee PySem.F.plainAttrs_str PySem.F.slot_str_join PySem.F.type_str_join zjU ho (zbX he zbW hs) hbase hfew hline hs hpl) fun U H Q ⟨env,st,ρ,re,rs,h⟩=>⟨env,st,ρ,re,rs,h.then fun ad H1 x st1 e1 s1 h1 v rv=>by
  cases x with
  | str z =>
   cases rv
   refine ⟨rfl,env,st1,ad,re.ext e1,s1,h1.then fun al H2 y st2 e2 s2 h2 w rw'=>?_⟩
   cases y with
   | ref n =>
    obtain ⟨p,rfl,hp⟩:=rw'
    obtain ⟨xs,hn,h3⟩:=yI h2
    cases hq:strsOf xs with
    | none=>simp only [hq] at h3;exact False.elim h3
    | some ys =>
     simp only [hq] at h3
     obtain ⟨hl,h4⟩:=Out.ifp h3
     obtain ⟨vs,hH,hR⟩:=s2.addr hn hp
     rw [znw hq hR] at hH
     exact ⟨z,p,ys,rfl,rfl,.inl (.inl hH),by omega,Out.now (x:=PV.str (Txt.join z ys)) h4 s2 _ rfl⟩
   | _=>exact False.elim h2
  | _=>exact False.elim h1⟩
@[simp] theorem znF (z:Str) (st:Sto):zcJ (.str z) st=if (Txt.upper z).length<=1000 then .ok (.str (Txt.upper z)) st else .stuck:=(rfl)
@[simp] theorem znG (env:zc) (st:Sto):zcK fo fa env st=(fo env st).bind fun o st1=>match o with | .str z=>(fa env st1).bind fun y st2=>zf7 (.str z) y st2|_=>.stuck:=(rfl)
end
end Mi
namespace PySem
section
variable {M:Model}{A:Around}{E:Value->Shared->Prop}
variable {nm q nm' q':Str}{C N B N':Addr}{bs bm bs' bm':List Value}{hdct hdct':Bool}{sn sn':List Str}{sub sub':List Value}{ab ab':Bool}{col col':Option Bool}{dd dd':Option Addr}{k0 k1 k2 k3 k5 k0' k1' k2' k3' k5':Option Value}{newId newId':String}
theorem znH {h:Heap}{g:Array GenState}{d:Drawn}{t:Nat}{os:OsState}{e:Addr}{oe:Obj}{Q:Bool->Shared->Prop}
  (hC:h.get? C=some (excClassObj nm q C N bs bm hdct sn sub ab col dd k0 k1 k2 k3 k5 newId)) (hB:h.get? B=some (excClassObj nm' q' B N' bs' bm' hdct' sn' sub' ab' col' dd' k0' k1' k2' k3' k5' newId')) (he:h.get? e=some oe) (hcls:oe.cls=.ref C) (hbase:bm'.contains (.type "BaseException")=true)
  (hsub:(Value.ref C::bm).contains (.ref B)=true) (hq:Q true ⟨h,g,d,t,os⟩):wpAny M A (excMatches (.ref e) (.ref B)) Q E ⟨h,g,d,t,os⟩:=by
 have hcB:(Value.ref B::bm').contains (.type "BaseException")=true:=by rw [List.contains_cons,hbase,Bool.or_true]
 have f:=tc_notTuple
 unfold excMatches
 repeat (first|(with_reducible refine wpAny_loadPart_at he ?_;rw [hcls])|with_reducible refine wpAny_loadPart_at hB ?_|(with_reducible refine wpAny_isSubtype_exc hB ?_;rw [hcB])|(with_reducible refine wpAny_isSubtype_exc hC ?_;rw [hsub])|wp_step)
 exact hq
end
end PySem
namespace L2
open PySem PySem.Spec PyProof.Rows PySem.W
structure ExSub (K:Frag) (C B:Addr):Prop where
 of:ExOf K C
 sub:mroIn K C (.ref B)=some true
theorem ExSub.mem {K:Frag} {C B:Addr} (h:ExSub K C B):∃nm q N bs bm hdct sn sub ab col dd k0 k1 k2 k3 k5,K.lookup C=some (excClassObj nm q C N bs bm hdct sn sub ab col dd k0 k1 k2 k3 k5 "ValueError.__new__")/\(Value.ref C::bm).contains (.ref B)=true:=by
 obtain ⟨⟨⟨nm,q',N,bs,bm,hdct,sn,sub,ab,col,dd,k0,k1,k2,k3,k5,hl,ht,_⟩,_⟩,hs⟩:=h
 refine ⟨nm,q',N,bs,bm,hdct,sn,sub,ab,col,dd,k0,k1,k2,k3,k5,hl,?_⟩
 unfold mroIn clsIn at hs
 rw [hl] at hs
 obtain ⟨cd,a,b⟩:=Option.bind_eq_some_iff.mp hs
 split at b
 ·cases b
 ·have:cd.mro=Value.ref C::bm:=by
   simp [excClassObj] at a
   rw [<-a]
  rw [<-this]
  exact Option.some.inj b
def znI (K:Frag) (B:Addr) (j:Nat) (tv:TX) (tsu:TS):TS:=fun D U H=>tv U H (fun _ H1=>D.nx U H1)
 (fun c d H1=>∃C,c=.ref C/\ExSub K C B/\∀a,H1 a=none->tsu { nx:=fun ag H'=>D.nx (ag.set j none) H',rt:=D.rt } (U.set j (some (.ref a))) (upd H1 a (exC C d a)))
theorem znJ {X:Cx}{B:Addr}{j:Nat}{n cls:Str}{value:Expr}{tv:TX}{tsu:TS}{b0:Stmt}{suite:List Stmt}{ap cp hp pos:Pos}(hN:X.N.Nodup) (hj:X.N[j]?=some n) (hn:X.env.scope.names.lookup n=some .local)
  (hv:PX X value tv) (hg:Gl X cls) (hm:X.mg cls=some (.ref B)) (hB:ExOf X.K B) (hsu:∀a,PSs (X.caught a) (b0::suite) tsu) (hst:X.stack=X.env::X.outer) (hfr:X.env.frame=some X.env.locals)
  (hsw:swapsWith value none ap.line X.env=pure false:=by rfl) (hdb:(cls==("__debug__" : Str))=false:=by decide) :
  PS X (.Try [.Expr value ap] [.ExceptHandler (some (.Name cls cp)) (some n) (b0::suite) hp] [] [] pos) (znI X.K B j tv tsu):=by
 intro pins s U H D I h
 rw [arm_exec_Try]
 refine wpAny_bind (wpAny_standAt (wpAny_tryStmt_except (wpAny_execs_cons (wpAny_Expr_any (wpAny_mono (hv pins s U H _ _ I h) (fun v s1 ⟨y,H1,I1,r1,q1⟩=>?_) (fun u s1 ⟨a,C',d,H1,eu,I1,fly,C,ec,hC,q⟩=>?_)) I.quiet hsw))))
 ·exact wpAny_execs_nil (wpAny_execs_nil ⟨_,H1,I1,q1⟩)
 subst eu
 cases ec
 refine zb4 I1 I.ok.frames hst hfr fly fun s2 T I2 x2 ne tb2 oa oT=>wY I2 x2 ne tb2 oa oT fun s3 I3 x3 tb3=>?_
 refine wpAny_handleBy_cons (codeAny_handlers_test ?_) (by intro q;cases q)
 refine jK (X:=X.caught a) (Inv.caught I3 a) hg hm ?_ hdb
 obtain ⟨nm,q',N,bs,bm,hdct,sn,sub,ab,col,dd,k0,k1,k2,k3,k5,hl,hs⟩:=hC.mem
 obtain ⟨⟨nmB,qB,NB,bsB,bmB,hdB,snB,subB,abB,colB,ddB,l0,l1,l2,l3,l5,hlB,htB,_⟩,_⟩:=hB
 have hCl:=I3.kIn _ _ hl
 have hBl:=I3.kIn _ _ hlB
 have hbase:bmB.contains (.type "BaseException")=true:=(tail_of_in I3.kIn htB).hasType (by decide)
 obtain ⟨oe,vs,he,hcls,_⟩:=id x3
 refine znH (h:=s3.heap) (g:=s3.gens) (d:=s3.drawn) (t:=s3.toks) (os:=s3.os) hCl hBl he hcls hbase hs ?_
 refine codeAny_handlers_suite_as (wY I3 x3 ne tb3 oa oT fun s4 I4 x4 tb4=>?_)
 have I5:=Inv.catch I4 oa x4
 refine jX I5 hN hj (.inl hn) (v:=.ref a) rfl (fun s5 I6=>?_) (.inr hn)
 refine wpAny_mono (hsu a pins s5 _ _ _ (Inv.caught I6 a) (q a oa.1)) (fun f s6 z=>?_) fun _ _ z=>z.elim
 cases f with
 | next =>
  obtain ⟨ag,H',I7,q7⟩:=z
  exact zb6 (Inv.uncaught I.ok I7) hN hj hn fun s7 I8=>⟨_,H',I8,q7⟩
 | brk=>obtain ⟨_,_,_,z⟩:=z;exact z.elim
 | cont=>obtain ⟨_,_,_,z⟩:=z;exact z.elim
 | ret u =>
  obtain ⟨v,ag,H',I7,r7,q7⟩:=z
  exact zb6 (Inv.uncaught I.ok I7) hN hj hn fun s7 I8=>⟨v,_,H',I8,r7,q7⟩
end L2
namespace Mi
open PySem L2 PySem.W PySem.Spec
section
variable {X:Cx}{Er:XK}{pos:Pos}
def wa (j:Nat) (sub:Str->Bool) (fv:zc->Mo PV) (suite:zc->Mo Fl):zc->Mo Fl:=fun env st=>match fv env st with
 | .ok _ st1=>.ok (.nx env) st1
 | .err c ks xs st1=>if sub c=true/\ks≠[] then (noErr (suite (env.set j (some (.exo c ks xs))) st1)).bind (tryFl j) else .stuck
 | .stuck=>.stuck
theorem znK (j:Nat) {n cn:Str}{sub:Str->Bool}{value:Expr}{fv:zc->Mo PV}{gs:zc->Mo Fl}{b0:Stmt}{suite:List Stmt}{ap cp hp:Pos}(hB:∃B,X.mg cn=some (.ref B)/\ExOf X.K B/\∀c,sub c=true->∃C,X.mg c=some (.ref C)/\ExSub X.K C B) (hv:MX X value fv) (hsu:∀a,MSs (X.caught a) E0 (b0::suite) gs) (hN:X.N.Nodup)
  (hst:X.stack=X.env::X.outer:=by rfl) (hfr:X.env.frame=some X.env.locals:=by rfl) (hj:X.N[j]?=some n:=by rfl) (hn:X.env.scope.names.lookup n=some .local:=by rfl) (hg:Gl X cn:=by rfl)
  (hsw:swapsWith value none ap.line X.env=pure false:=by rfl) (hdb:(cn==("__debug__" : Str))=false:=by decide) :
  MS X Er (.Try [.Expr value ap] [.ExceptHandler (some (.Name cn cp)) (some n) (b0::suite) hp] [] [] pos) (wa j sub fv gs):=by
 obtain ⟨B,hmB,hB,hsb⟩:=hB
 exact PS.weak (znJ (tsu:=sM X.K X.mg E0 gs) hN hj hn hv hg hmB hB hsu hst hfr hsw hdb) fun D U H ⟨env,st,ρ,re,rs,h⟩=>by
  refine ⟨env,st,ρ,re,rs,?_⟩
  unfold wa at h
  cases hr:fv env st with
  | ok y st1 =>
   rw [hr] at h
   exact fun ad H1 e1 s1 v rv=>h ad H1 e1 s1 _ (re.ext e1)
  | stuck=>rw [hr] at h;exact False.elim h
  | err c ks xs st1 =>
   simp only [hr] at h
   obtain ⟨⟨hcn,hk⟩,h2⟩:=Out.ifp h
   obtain ⟨C0,hm,hC0⟩:=hsb c hcn
   intro ad H1 Cv d e1 s1 xr
   obtain ⟨C',rfl,hm',hd⟩:=xr
   rw [hm] at hm'
   cases hm'
   refine ⟨C0,rfl,hC0,fun q hq=>?_⟩
   rcases hd with ⟨hk',_⟩|⟨dd,vs,rfl,hdd,hR,hl⟩
   ·exact absurd hk' hk
   ·have eq:Ext ad H1 ad (upd H1 q (exC C0 (some dd) q)):=Ext.new hq
    refine ⟨env.set j (some (.exo c ks xs)),st1,ad,((re.ext e1).ext eq).set j ⟨q,C0,dd,vs,rfl,hm,zY,eq.imm _ _ hdd rfl,Rs.ext eq xs hR,hl⟩,s1.new hq,jC (Out.ext h2 (e1.trans eq)) fun al H2 fl st2 e2 s2 h2=>?_⟩
    cases fl with
    | nx e=>exact fun aF r2=>Out.fl (D:=D) (fl:=.nx (e.set j none)) (E:=Er) h2 s2 _ (r2.unset j)
    | rt y=>exact fun v2 r2=>Out.fl (D:=D) (fl:=.rt y) (E:=Er) h2 s2 _ r2
    | _=>exact False.elim h2
end
end Mi
namespace L2
open PySem PySem.Spec PyProof.Rows PySem.W
def Itw (a:Addr) (o:Obj) (kvs:List (Key×V)):It :=
 ⟨fun i H=>H a=some (.frz o (.dK kvs))/\i<kvs.length,fun i H x H'=>H'=H/\∃kv,kvs[i]?=some kv/\x=kv.2,fun i H=>H a=some (.frz o (.dK kvs))/\kvs.length<=i⟩
theorem KV.nth {κ:Type}{kvs:List (κ×V)}{vs:List (κ×Value)}(r:KV kvs vs):∀{i:Nat}{p:κ×V}{q:κ×Value},kvs[i]?=some p->vs[i]?=some q->RelV p.2 q.2:=by
 unfold KV at r
 induction r with
 | nil=>intro i p q h;simp at h
 | cons h t ih =>
  intro i p q h1 h2
  cases i with
  | zero=>cases h1;cases h2;exact h.2
  | succ i=>exact ih (by simpa using h1) (by simpa using h2)
theorem znL {P:Program}{w:World}{K:PySem.W.Frag}{tg:Expr}{a it:Addr}{o:Obj}{kvs:List (Key×V)}{es:Array DictEntry}{ep:Nat}(hd:o.data=.dict es ep):Turn P w K tg (Itw a o kvs) [it] it (fun i h=>h.IsValIter it a i kvs.length ep) where
 mem:=by simp
 obj:=fun i h st b hb=>by
  have e:b=it:=by simpa using hb
  subst e
  obtain ⟨o,e,c,d⟩:=st
  exact ⟨o,e,fun v z=>by rw [d] at z;cases z⟩
 keep:=fun i h h' st k=>st.at fun o e=>k it (by simp) o e
 item:=by
  intro X hP hw hK hc i pins s U H E I hf st hg
  subst hP hw hK
  obtain ⟨ha,hi⟩:=hg
  obtain ⟨vs,r,hat⟩:=zfX I ha hd
  have hl:=r.length
  have hv:vs[i]?=some (vs[i]'(by omega)):=List.getElem?_eq_getElem (by omega)
  have hkv:kvs[i]?=some kvs[i]:=List.getElem?_eq_getElem hi
  obtain ⟨f0,f1,f2,f3,f4,f5⟩:=hf it (by simp)
  rw [hl] at st
  refine wpAny_pyNext_values_item st hat (k:=(vs[i]'(by omega)).1) (v:=(vs[i]'(by omega)).2) hv fun h' st' sb=>?_
  have I1:Inv X pins U H { s with heap:=h' }:=I.turned (t':=s.toks) (fun b o hb e=>(sb.2 b hb).trans e) f0 f1 f3 f4 f5
  obtain ⟨o',e,c,d⟩:=id st'
  refine ⟨(vs[i]'(by omega)).2,rfl,wT (s:={ s with heap:=h' }) e c d (by decide) ⟨kvs[i].2,H,I1,?_,⟨rfl,_,hkv,rfl⟩,by rw [<-hl] at st';exact st',fun b hb=>(hf b hb).1⟩⟩
  exact r.nth hkv hv
 done:=by
  intro X hP hw hK hc i pins s U H E I hf st hg
  subst hP hw hK
  obtain ⟨ha,hi⟩:=hg
  obtain ⟨vs,r,hat⟩:=zfX I ha hd
  have hl:=r.length
  obtain ⟨f0,f1,f2,f3,f4,f5⟩:=hf it (by simp)
  rw [hl] at st
  exact wpAny_pyNext_values_end (I.ok.hd hc) st hat (List.getElem?_eq_none_iff.mpr (by omega)) fun h' eb=>⟨rfl,I.turned (t':=s.toks) (fun b o hb e=>eb b o hb e) f0 f1 f3 f4 f5⟩
 self:=fun _ _ _ _ _ st h=>wpAny_pyIter_valiter st h
def znM (X:Cx) (tl:TE):TI:=fun U H R=>tl U H fun x H1=>∃a kvs,x=.ref a/\H1 a=some (.dK kvs)/\∀o,kvs.length<=sizeLine->(∀o u,X.H₀ a≠some (.frz o u))->R (Itw a o kvs) (upd H1 a (.frz o (.dK kvs)))
theorem znN {X:Cx} {o tg:Expr} {tl:TE} {apos cpos:Pos} (ho:PE X o tl) (hbase:attributeBase o "values" X.env (eval o X.env)=eval o X.env:=by rfl) (hline:(apos.endLine==cpos.line)=true:=by rfl):PI X tg (.Call (.Attribute o "values" apos) [] [] cpos) (znM X tl):=by
 intro pins s U H R I h
 refine wpAny_Call_method0_late hbase hline (thn (ho pins s U H _ I h) fun v s1 ⟨x,H1,I1,r1,q1⟩=>?_)
 obtain ⟨a,kvs,rfl,e,q⟩:=q1
 obtain rfl:v=Value.ref a:=r1
 obtain ⟨hz,lo,kv,kvr,hd⟩:=yA I1.hok (.inl e)
 obtain ⟨ep,hat⟩:=hd.dictAt
 obtain ⟨hz',lo',vs,r,o,es,ep',ho',hx,hdd,hr⟩:=I1.hok a _ e
 have I2:=I1.freeze e ho'
 have hle:s1.heap.objs.size<=(s1.heap.push { cls:=.type "dict_values", data:=.fields #[.ref a] }).objs.size:=by rw [Heap.size_push];exact Nat.le_succ _
 have fr:∀b,s1.heap.objs.size<=b->(upd H1 a (.frz o (.dK kvs))) b=none:=fun b hb=>I2.hok.fresh hb
 have hat':s1.heap.DictAt (mixKind X.prog X.w) a vs ep':=⟨o,es,ho',hx,hdd,hr⟩
 refine ⟨"dict", "dict.values", PySem.F.plainAttrs_dict,PySem.F.slot_dict_values,PySem.F.type_dict_values,?_,?_,Calls.callWith_builtin rfl (PySem.evalArgs_none (call_meetsIn PySem.F.slot_dict_values hd.typeIs PySem.F.entry_dict_values (PySem.F.args_dict_values_1 _) (meets_dict_values (mixKind X.prog X.w) a lo) ⟨⟨kv,hd⟩,?_⟩))⟩
 ·exact (wg I1 (x:=.ref a) rfl (.inr (.inr (.inl ⟨rfl,.inl ⟨_,e⟩⟩)))).1
 ·exact (wg I1 (x:=.ref a) rfl (.inr (.inr (.inl ⟨rfl,.inl ⟨_,e⟩⟩)))).2
 refine wpAny_pyIter_values (s:={ s1 with heap:=s1.heap.push { cls:=.type "dict_values", data:=.fields #[.ref a] } }) ⟨_,Heap.get?_push_size _ rfl,rfl,rfl⟩ (hat'.push _) ?_
 refine ⟨_,[(s1.heap.push { cls:=.type "dict_values", data:=.fields #[.ref a] }).objs.size],_,_,_,rfl,I2.kept (t':=s1.toks) (fun b o e=>Heap.get?_push_of_some _ (Heap.get?_push_of_some _ e)),znL hdd,?_,fun b hb=>?_,q o hz' (I1.young e)⟩
 ·rw [r.length]
  exact ⟨_,Heap.get?_push_size _ rfl,rfl,rfl⟩
 ·have eb:b=(s1.heap.push { cls:=.type "dict_values", data:=.fields #[.ref a] }).objs.size:=by simpa using hb
  subst eb
  exact I2.fpOk hle (fr _ hle)
end L2
namespace Mi
open PySem L2 PySem.W PySem.Spec
section
variable {X:Cx}{Er:XK}{pos:Pos}{o:Expr}{sts:List Stmt}{gb:zc->Mo Fl}{fo:zc->Mo PV}{fs:zc->Mo (List PV)}
def zcL (fo:zc->Mo PV) (fe:zc->Mo PV):zc->Mo PV:=fun env st=>(fo env st).bind fun v st1=>zbk v st1 fun n ks xs =>
 (noErr (compK fe env xs [] (st1.set n (.fdi ks xs)))).bind fun ys st2=>thawM n (st2++[.lst ys]) fun st3=>.ok (.ref st2.length) st3
theorem znO {elt:Expr} {apos cpos:Pos} {x:Str} {px:Pos} {scope:Scope} {fe:zc->Mo PV} {N:List Str} (hc:X.calm=true) (S:CompSc X.env.scope scope x) (eN:X.N=N) (hN0:((".0" : Str)::x::N).Nodup)
  (ho:ME X Er o fo) (he:∀cl C ae aj fp,ME (cxC X scope cl x C ae aj fp (fun _ _=>False)) XN elt fe)
  (hbase:attributeBase o "values" X.env (eval o X.env)=eval o X.env:=by rfl) (hline:(apos.endLine==cpos.line)=true:=by rfl) (hs:∀v,foldedSetIterable (.Call (.Attribute o "values" apos) [] [] cpos) X.env v=pure v:=by intro _;rfl):ME X Er (.ListComp elt [⟨.Name x px,.Call (.Attribute o "values" apos) [] [] cpos,[],0⟩] scope pos) (zcL fo fe) :=
 PE.weak (znj (zjT (te:=tM X.K X.mg XN fe) hc S eN hN0 (znN ho hbase hline) (fun cl C ae aj fp=>he cl C ae aj fp) hs)) fun U H Q ⟨env,st,ρ,re,rs,h⟩=>⟨env,st,ρ,re,rs,h.then fun ao H0 x st0 e0 s0 h0 v rv=>by
  obtain ⟨n,ks,xs,rfl,hn,h0⟩:=znn h0
  obtain ⟨a,vs,rfl,ha,k1,k2,k3⟩:=R.refD s0 rv hn
  refine ⟨a,kz ks vs,rfl,k1,fun ob hz hy=>?_⟩
  obtain ⟨ys',st',hr,h0⟩:=znp h0
  obtain ⟨ks',xs',ht,h0⟩:=zno h0
  have ew:Ext ao H0 ao (upd H0 a (.frz ob (.dK (kz ks vs)))):=Ext.write k1 rfl
  have hl:(kz ks vs).length=ks.length:=by simp [kz,k3]
  rw [hl] at hz
  refine ⟨fun i m ys H=>m=ks.length-i/\i<=ks.length/\ys.length=i/\∃ps st ρ,Rs X.K X.mg ρ H ps ys/\StR X.K X.mg ρ H st/\Ext ao (upd H0 a (.frz ob (.dK (kz ks vs)))) ρ H/\compK fe env (xs.drop i) ps st=.ok ys' st',
   ⟨ks.length,by simp,Nat.zero_le _,rfl,[],_,ao,rfl,s0.write (so:=.fdi ks xs) ha ew ⟨ob,vs,zY,Rs.ext ew _ k2,k3⟩,Ext.refl,hr⟩,?_⟩
  rintro i m ys H ⟨rfl,hi,hyl,ps,st,ρ,rps,rs,ex,h⟩
  have hf:H a=some (.frz ob (.dK (kz ks vs))):=ex.imm a _ zY rfl
  have ha':=ex.get ha
  by_cases hlt:i<ks.length
  ·refine .inr ⟨⟨hf,by rw [hl];exact hlt⟩,by omega,fun v H' y=>?_⟩
   obtain ⟨rfl,kv,hkv,rfl⟩:=y
   have lx:xs.length=ks.length:=by rw [k2.len,<-k3]
   have hx:xs[i]?=some (xs[i]'(by omega)):=List.getElem?_eq_getElem (by omega)
   obtain ⟨v',hv',rx⟩:=Rs.get k2 hx
   have ev:R X.K X.mg ρ H' (xs[i]'(by omega)) kv.2:=by
    have:v'=kv.2:=by
     unfold kz at hkv
     rw [List.getElem?_zip_eq_some] at hkv
     rw [hv'] at hkv
     exact Option.some.inj hkv.2
    rw [<-this]
    exact R.ext (ew.trans ex) _ rx
   have hd:xs.drop i=(xs[i]'(by omega))::xs.drop (i+1):=List.drop_eq_getElem_cons (by omega)
   rw [hd] at h
   simp only [compK] at h
   obtain ⟨y,st2,hb2,h⟩:=znq h
   refine ⟨some (xs[i]'(by omega))::env,st,ρ,(re.ext (e0.trans (ew.trans ex))).cons ev,rs,?_⟩
   rw [hb2]
   exact fun am H3 e3 s3 w rw'=>⟨ks.length-(i+1),by omega,rfl,hlt,by simp [hyl],ps++[y],st2,am,Rs.snoc rw' (Rs.ext e3 ps rps),s3,ex.trans e3,h⟩
  ·have e:i=ks.length:=by omega
   subst e
   rw [List.drop_of_length_le (by rw [k2.len,<-k3];exact Nat.le_refl _)] at h
   cases h
   refine .inl ⟨⟨hf,by rw [hl];exact Nat.le_refl _⟩,by omega,fun l hl'=>?_⟩
   have ne:a≠l:=y8 hf hl'
   have hf':upd H l (.lst ys) a=some (.frz ob (.dK (kz ks vs))):=by rw [zp ne];exact hf
   have ep:Ext ρ H (ρ++[l]) (upd H l (.lst ys)):=Ext.push hl'
   have s1:StR X.K X.mg (ρ++[l]) (upd H l (.lst ys)) (st'++[.lst ys']):=rs.push hl' ⟨ys,zY,Rs.ext ep _ rps⟩
   exact ⟨a,ob,_,hf',hy,h0 (ρ++[l]) _ (Ext.thawed k1 (ex.trans ep)) (StR.thaw s1 (ep.get ha') hf' ht) _ ⟨l,rfl,by rw [<-rs.len];simp⟩⟩⟩
end
end Mi
namespace L2
open PySem PySem.Spec PyProof.Rows PySem.W PySem.Builtin PySem.Builtin.ObjectAttr
theorem ExOf.mk' {K:Frag}{C N:Addr}{nm q:Str}{bs:List Value}{hdct:Bool}{sn:List Str}{sub:List Value}{ab:Bool}{col:Option Bool}{dd:Option Addr}{k0 k1 k2 k3 k5:Option Value}{c:Value}{d:Option Addr}{es:Array DictEntry}{n:Nat}{sl:Array (Option Value)}
  (hC:K.lookup C=some (excClassObj nm q C N bs veLine hdct sn sub ab col dd k0 k1 k2 k3 k5 "ValueError.__new__"))
  (hN:K.lookup N=some ⟨c,d,.dict es n,sl⟩) (he:(es.all fun e=>match e.key with | .str _ _=>true|_=>false)=true) (kp:keepIn K (.ref C)=true):ExOf K C:=by
 refine ⟨⟨nm,q,N,bs,_,hdct,sn,sub,ab,col,dd,k0,k1,k2,k3,k5,hC,?_,?_⟩,kp⟩
 ·unfold tailIn;rw [beq_self_eq_true,Bool.true_or]
 ·unfold nsOkIn
  rw [hN]
  exact he
end L2
namespace Mi
open PySem L2 PySem.W PySem.Spec
section
variable {K:Frag}{mg:Str->Option Value}{h:Heap}{C:Addr}
theorem znP {c cb:Str}{B:Addr}(X:K.In h) (G:h.Ns mainGlobals mg) (hB:mg cb=some (.ref B)) (hx:∃C,mg c=some (.ref C)/\ExOf K C) (aC:nsIn K mainGlobals c=some (some (.ref C))) (aB:nsIn K mainGlobals cb=some (some (.ref B))) (hm:mroIn K C (.ref B)=some true):∃C,mg c=some (.ref C)/\ExSub K C B:=by
 obtain ⟨C',h1,h2⟩:=hx
 rw [mg_of X G aC] at h1
 cases h1
 exact ⟨C,mg_of X G aC,h2,hm⟩
theorem znQ {c:Str}{N:Addr}{nm q:Str}{bs:List Value}{hdct:Bool}{sn:List Str}{sub:List Value}{ab:Bool}{col:Option Bool}{dd:Option Addr}{k0 k1 k2 k3 k5:Option Value}{cc:Value}{d:Option Addr}{es:Array DictEntry}{n:Nat}{sl:Array (Option Value)}(X:K.In h) (G:h.Ns mainGlobals mg) (aC:nsIn K mainGlobals c=some (some (.ref C)))
  (hC:K.lookup C=some (excClassObj nm q C N bs veLine hdct sn sub ab col dd k0 k1 k2 k3 k5 "ValueError.__new__")) (hN:K.lookup N=some ⟨cc,d,.dict es n,sl⟩) (he:(es.all fun e=>match e.key with | .str _ _=>true|_=>false)=true) (kp:keepIn K (.ref C)=true):mg c=some (.ref C)/\ExOf K C :=
 ⟨mg_of X G aC,ExOf.mk' hC hN he kp⟩
theorem znR {t:IsT}{L:List ((Str×Str)×Bool)}{LT:List ((Str×String)×Bool)}{es is:List Str}(hs:t.sub=fun c B=>L.lookup (c,B)) (hT:t.subT=fun c n=>LT.lookup (c,n)) (hC:t.tyC=fun _ _=>none)
  (hn:((L.map (·.1.1)++LT.map (·.1.1)).all fun c=>if t.isx c=true then es.contains c else is.contains c)=true)
  (h1:∀p∈L,∃C D,mg p.1.1=some (.ref C)/\mg p.1.2=some (.ref D)/\kitOne K (.ref C) (.ref D)=some p.2) (h2:∀p∈LT,∃C,mg p.1.1=some (.ref C)/\kitOne K (.ref C) (.type p.1.2)=some p.2)
  (he:∀c∈es,∀D,mg c=some (.ref D)->ExIs K D) (hi:∀c∈is,∀D,mg c=some (.ref D)->InIs K D):IsF K mg t:=by
 have mem:∀c,((∃B b,t.sub c B=some b)\/∃n b,t.subT c n=some b)->c∈L.map (·.1.1)++LT.map (·.1.1):=fun c z=>by
  rcases z with ⟨B,b,z⟩|⟨n,b,z⟩
  ·rw [hs] at z;exact List.mem_append_left _ (List.mem_map.mpr ⟨_,wB z,rfl⟩)
  ·rw [hT] at z;exact List.mem_append_right _ (List.mem_map.mpr ⟨_,wB z,rfl⟩)
 rw [List.all_eq_true] at hn
 exact {
  s:=fun c B b h=>by rw [hs] at h;exact h1 _ (wB h)
  tt:=fun c n b h=>by rw [hT] at h;exact h2 _ (wB h)
  u:=fun T B b h=>by rw [hC] at h;cases h
  x:=fun c C h hm z=>by
   have:=hn c (mem c z)
   rw [if_pos h] at this
   exact he c (by simpa using this) C hm
  i:=fun c C h hm z=>by
   have:=hn c (mem c z)
   rw [if_neg (by rw [h];exact Bool.false_ne_true)] at this
   exact hi c (by simpa using this) C hm }
end
section
variable {P:Program}{W:World}{A:Around}{s:Shared}
theorem znS {l b:Addr}{its its2:Array Value}{n n2:Nat}{dd dd2:Option Addr}{sl sl2:Array (Option Value)}{e:Nat->Bool}{E Q:Value->Shared->Prop}
  (hl:s.heap.get? l=some { cls:=.type "tuple", dict:=dd,data:=.seq its n,slots:=sl }) (hb:s.heap.get? b=some { cls:=.type "tuple", dict:=dd2,data:=.seq its2 n2,slots:=sl2 })
  (he:∀j (h1:j<its.size) (h2:j<its2.size),EqW P W A.in1 s its[j] its2[j] (e j)) (h:Q (.bool (!((List.range (min its.size its2.size)).all e&&its.size==its2.size))) s) :
  wpAny (model P W) A.in1 (Builtin.«tuple.__ne__» ⟨[.ref l,.ref b],[]⟩) (fun fin s'=>∃v,fin=.done (.ret v)/\Q v s') E s:=by
 obtain ⟨hp,g,d,tk,os⟩:=s
 have f2:=AutoSeq1.sub_tuple_tuple
 have hZ:(its.toList.zip its2.toList).length=min its.size its2.size:=by simp
 wp_walk using AutoSeq1.wpAny_loadPart' hl,AutoSeq1.wpAny_loadPart' hb,wpAny_forIn_list _ (fun rest b s'=>b.1=none/\s'=⟨hp,g,d,tk,os⟩/\∃i,rest=(its.toList.zip its2.toList).drop i/\Q (.bool (!(((List.range (min its.size its2.size)).drop i).all e&&its.size==its2.size))) ⟨hp,g,d,tk,os⟩) _
 case turn =>
  rintro ⟨y,x⟩ rest b s' ⟨hb',rfl,i,hz,hR⟩
  have hlt:i<(its.toList.zip its2.toList).length:=by
   rcases Nat.lt_or_ge i (its.toList.zip its2.toList).length with h'|h'
   ·exact h'
   ·rw [List.drop_of_length_le h'] at hz;cases hz
  have hm:i<min its.size its2.size:=hZ▸hlt
  have h1:i<its.size:=by omega
  have h2:i<its2.size:=by omega
  rw [List.drop_eq_getElem_cons hlt] at hz
  injection hz with hyx hrest
  have hy:y=its[i]:=by have:=congrArg Prod.fst hyx;simpa using this
  have hx:x=its2[i]:=by have:=congrArg Prod.snd hyx;simpa using this
  subst hy hx
  have hd:(List.range (min its.size its2.size)).drop i=i::(List.range (min its.size its2.size)).drop (i+1):=by simp [List.drop_eq_getElem_cons,hm]
  rw [hd,List.all_cons] at hR
  refine wpAny_bind (he i h1 h2 _ _ ?_)
  cases hy:e i with
  | true =>
   rw [hy] at hR
   wp_walk
   exact ⟨rfl,rfl,i+1,hrest,by simpa using hR⟩
  | false =>
   rw [hy] at hR
   wp_walk
   exact ⟨_,rfl,by simpa using hR⟩
 case fin =>
  rintro ⟨b1,b2⟩ s' ⟨hb',rfl,i,hz,hR⟩
  simp only at hb'
  subst hb'
  have hge:min its.size its2.size<=i:=by
   rcases Nat.lt_or_ge i (its.toList.zip its2.toList).length with h'|h'
   ·rw [List.drop_eq_getElem_cons h'] at hz;cases hz
   ·exact hZ▸h'
  rw [List.drop_of_length_le (by simpa using hge)] at hR
  wp_walk
  exact ⟨_,rfl,by simpa [Builtin.Tuple.tupleCompareSizes,bne] using hR⟩
 case h=>exact ⟨rfl,rfl,0,rfl,by simpa using h⟩
theorem znT {l b:Addr}{its its2:Array Value}{e:Nat->Bool}(hl:s.heap.IsTuple l its) (hb:s.heap.IsTuple b its2) (hu:A.units<cLine)
  (he:∀j (h1:j<its.size) (h2:j<its2.size),EqW P W A.in1 s its[j] its2[j] (e j)) {E Q:Value->Shared->Prop} (h:Q (.bool (!((List.range (min its.size its2.size)).all e&&its.size==its2.size))) s):wpAny (model P W) A (richCompare .NotEq (.ref l) (.ref b)) Q E s:=by
 obtain ⟨⟨cls,dd,data,sl⟩,ho,hc,n,hd⟩:=id hl
 obtain ⟨⟨cls2,dd2,data2,sl2⟩,ho2,hc2,n2,hd2⟩:=id hb
 simp only at hc hd hc2 hd2
 subst hc hd hc2 hd2
 refine wpAny_richCompare_same_room (op:=.NotEq) ⟨_,ho,rfl⟩ ⟨_,ho2,rfl⟩ F.slot_tuple_ne (wpAny_call_entry F.slot_tuple_ne ⟨_,ho,rfl⟩ F.entry_tuple_ne (znS (Q:=fun v s'=>v ≠ .notImplemented/\Q v s') ho ho2 he (show Value.bool (!((List.range (min its.size its2.size)).all e&&its.size==its2.size))≠Value.notImplemented/\Q (.bool (!((List.range (min its.size its2.size)).all e&&its.size==its2.size))) s from ⟨(fun x=>nomatch x),h⟩)) (F.args_tuple_ne_2 _ _)) hu
end
section
variable {X:Cx}{K:Frag}{mg:Str->Option Value}{ρ:List Addr}{pins:List (Addr×Obj)}{U:L2.St}{H:Hp}{s:Shared}{st:Sto}
def zak:PV->PV->Mo PV:=fun x y st=>match x,y with
 | .tup xs,.tup ys=>match allE (eqT st 149) xs ys with
  | some b=>.ok (.bl (!b)) st
  | none=>.stuck
 | _,_=>.stuck
def znU (K:Frag) (mg:Str->Option Value):R2:=fun v w H Q=>∃ρ st xs ys b,StR K mg ρ H st/\allE (eqT st 149) xs ys=some b/\R K mg ρ H (.tup xs) v/\R K mg ρ H (.tup ys) w/\Q (.bl (!b)) H
theorem znV (hu:X.A.units+200<cLine):OpR X (compareOp .NotEq) (znU X.K X.mg):=by
 intro pins s U H x y v u Q I rx ry h
 obtain ⟨ρ,st,xs,ys,b,S,h0,ra,rb,q⟩:=h
 obtain ⟨a,vs,rfl,h1,h2⟩:=id ra
 obtain ⟨a',ws,rfl,h3,h4⟩:=id rb
 cases rx
 cases ry
 obtain ⟨its,r1,p1,_⟩:=I.tuple h1
 obtain ⟨its2,r2,p2,_⟩:=I.tuple h3
 obtain ⟨e,he,hb⟩:=zcC h0
 have it:=zfM (G:=EqW X.prog X.w X.A.in1 s) (fun x y v w u u' b e r1 r2 r3 r4=>(zfV I S 149 x y v w u u' b X.A.in1 e r1 r2 r3 r4 (by rw [w5];omega)).1) h2 h4 r1 r2 he
 have eb:((List.range (min its.toArray.size its2.toArray.size)).all e&&its.toArray.size==its2.toArray.size)=b:=by
  rw [h2.len,h4.len,r1.length,r2.length] at hb
  simpa using hb
 exact znT (show s.heap.IsTuple a its.toArray from p1) (show s.heap.IsTuple a' its2.toArray from p2) (by omega) it (by rw [eb];exact ⟨.bl (!b),H,I,rfl,q⟩)
theorem znW (hu:X.A.units+200<cLine):CmpOk X .NotEq zak:=⟨_,znV hu,fun ρ H st x y v w Q E s rx ry h=>by
 unfold zak at h
 cases x with
 | tup xs =>
  cases y with
  | tup ys =>
   cases e:allE (eqT st 149) xs ys with
   | none=>simp only [e] at h;exact False.elim h
   | some b=>simp only [e] at h;exact ⟨ρ,st,xs,ys,b,s,e,rx,ry,h.now s _ rfl⟩
  | _=>exact False.elim h
 | _=>exact False.elim h⟩
end
end Mi
namespace FK16
open PySem L2 PySem.W Mi
def top (i:Nat):Stmt:=PySem.Challenge.pw_foreknown_k16_ops_by_words.main.body.getD i (.Pass ⟨0,0,0,0⟩)
abbrev zcM:Stmt:=top 50
abbrev zcN:Stmt:=top 49
abbrev zcO:Stmt:=inClass (top 46) 0
abbrev zcP:Stmt:=top 47
abbrev zcQ:Stmt:=top 51
abbrev zcR:Stmt:=top 52
abbrev zcS:Stmt:=inClass (top 46) 2
abbrev zcT:Stmt:=inClass (top 46) 3
abbrev zcU:Stmt:=top 53
abbrev zcV:Stmt:=top 55
abbrev zcW:Stmt:=top 56
abbrev zbn:Stmt:=top 54
abbrev zcX:Stmt:=top 57
abbrev zbo:Stmt:=top 58
abbrev zcY:Stmt:=top 17
abbrev zcZ:Stmt:=top 45
abbrev zc0:Stmt:=top 30
abbrev zc1:Stmt:=top 33
abbrev zc2:Stmt:=top 34
abbrev zc3:Stmt:=top 35
abbrev zc4:Stmt:=top 37
abbrev zc5:Stmt:=top 38
abbrev zc6:Stmt:=top 40
abbrev zc7:Stmt:=top 16
abbrev zc8:Stmt:=top 18
abbrev zc9:Stmt:=top 19
abbrev zda:Stmt:=inClass (top 46) 1
abbrev zal:Stmt:=top 59
abbrev zdb:Stmt:=top 60
abbrev zbp:Stmt:=top 61
abbrev zdc:Stmt:=inClass (top 2) 0
abbrev zdd:Stmt:=inClass (top 3) 0
def insOf (c:Str):Bool:=decide (c = "Op")
def excOf (c:Str):Bool:=decide (c = "Fault")||decide (c = "NoOp")
abbrev ct_FALLING:List Str:=["down", "head", "rest", "item", "field"]
abbrev ct_FAULTLESS:List Str:=["same", "kind"]
def zbq (c:Str):Bool:=decide (c = "NoOp")
def isL:List ((Str×Str)×Bool):=[(("NoOp", "Fault"),false),(("NoOp", "NoText"),false),(("NoOp", "Twice"),false),(("NoOp", "Unbound"),false),(("NoOp", "NoFunction"),false),(("NoOp", "WrongCount"),false),(("NoOp", "NotLetBy"),false),(("NoOp", "TooMany"),false),(("NoOp", "NoScore"),false),(("NoOp", "NoOp"),true),(("Op", "Op"),true)]
def isLT:List ((Str×String)×Bool):=[(("NoOp", "ValueError"),true)]
def isT:IsT where
 isx c:=decide (c = "NoOp")
 sub c B:=isL.lookup (c,B)
 subT c n:=isLT.lookup (c,n)
 tyC _ _:=none
def yT:List Str:=["add", "sub", "mul", "div", "rem", "less", "same", "down", "kind", "front", "head", "rest", "many", "item", "put", "field", "set"]
def y3:List PV:=[.tup [.tup [.str "number", .str "number"],.fn "tell_add"],.tup [.tup [.str "number", .str "number"],.fn "tell_sub"],.tup [.tup [.str "number", .str "number"],.fn "tell_mul"],.tup [.tup [.str "number", .str "number"],.fn "tell_div"],.tup [.tup [.str "number", .str "number"],.fn "tell_rem"],.tup [.tup [.str "number", .str "number"],.fn "tell_less"],.tup [.tup [.str "any", .str "any"],.fn "tell_same"],.tup [.tup [.str "number"],.fn "tell_down"],.tup [.tup [.str "any"],.fn "tell_kind"],.tup [.tup [.str "any", .str "row"],.fn "tell_front"],.tup [.tup [.str "row"],.fn "tell_head"],.tup [.tup [.str "row"],.fn "tell_rest"],.tup [.tup [.str "row"],.fn "tell_many"],.tup [.tup [.str "row", .str "number"],.fn "tell_item"],.tup [.tup [.str "row", .str "number", .str "any"],.fn "tell_put"],.tup [.tup [.str "record", .str "word"],.fn "tell_field"],.tup [.tup [.str "record", .str "word", .str "any"],.fn "tell_set"]]
abbrev zde:Bool:=true
structure Txt (w:World) (K:Frag) (mg:Str->Option Value):Prop where
 f__law_words:FnF K mg "_law_words" zcM []
 f__law_cell:FnF K mg "_law_cell" zcN ["_law_script", "_law_k"]
 n_Op:NwF K mg "Op" "Op.__init__" zcO ["self", "word"]
 f_op_of:FnF K mg "op_of" zcP ["word"]
 f__law_many:FnF K mg "_law_many" zcQ ["_law_word"]
 f__law_truth:FnF K mg "_law_truth" zcR ["_law_found", "_law_due"]
 m_Op_falls:MtF K mg "Op" "falls" "Op.falls" zcS ["self"]
 m_Op_never_faults:MtF K mg "Op" "never_faults" "Op.never_faults" zcT ["self"]
 f__law_fits:FnF K mg "_law_fits" zcU ["_law_op", "_law_word"]
 f__law_pure:FnF K mg "_law_pure" zcV ["_law_e"]
 f__law_refused:FnF K mg "_law_refused" zcW ["_law_text_here"]
 f__law_text:FnF K mg "_law_text" zbn ["_law_script"]
 f__law_leaf:FnF K mg "_law_leaf" zcX ["_law_cell_here"]
 f__law_values:FnF K mg "_law_values" zbo ["_law_script", "_law_word"]
 f_kind_of:FnF K mg "kind_of" zcY ["value"]
 f_check_kinds:FnF K mg "check_kinds" zcZ ["kinds", "values"]
 f_tell_down:FnF K mg "tell_down" zc0 ["values"]
 f_filled:FnF K mg "filled" zc1 ["row"]
 f_tell_head:FnF K mg "tell_head" zc2 ["values"]
 f_tell_rest:FnF K mg "tell_rest" zc3 ["values"]
 f_place_in:FnF K mg "place_in" zc4 ["row", "number"]
 f_tell_item:FnF K mg "tell_item" zc5 ["values"]
 f_tell_field:FnF K mg "tell_field" zc6 ["values"]
 f_things_within:FnF K mg "things_within" zc7 ["thing"]
 f_all_within:FnF K mg "all_within" zc8 ["thing"]
 f_parts:FnF K mg "parts" zc9 ["value"]
 m_Op_answer:MtF K mg "Op" "answer" "Op.answer" zda ["self", "values"]
 f__law_piece:FnF K mg "_law_piece" zal ["_law_found", "_law_value"]
 f__law_falls:FnF K mg "_law_falls" zdb ["_law_op", "_law_values_here"]
 f_law:FnF K mg "law" zbp ["_law_script"]
 x_Fault:XnF K mg "Fault" "word" "Fault.__init__" zdc
 x_NoOp:XnF K mg "NoOp" "word" "NoOp.__init__" zdd
 a_Fault:∃f,mg "Fault" = some (.ref f)
 a_NoFunction:∃f,mg "NoFunction" = some (.ref f)
 a_NoOp:∃f,mg "NoOp" = some (.ref f)
 a_NoScore:∃f,mg "NoScore" = some (.ref f)
 a_NoText:∃f,mg "NoText" = some (.ref f)
 a_NotLetBy:∃f,mg "NotLetBy" = some (.ref f)
 a_Op:∃f,mg "Op" = some (.ref f)
 a_TooMany:∃f,mg "TooMany" = some (.ref f)
 a_Twice:∃f,mg "Twice" = some (.ref f)
 a_Unbound:∃f,mg "Unbound" = some (.ref f)
 a_WrongCount:∃f,mg "WrongCount" = some (.ref f)
 b_ValueError:mg "ValueError" = none
 b_any:mg "any" = none
 b_bool:mg "bool" = none
 b_dict:mg "dict" = none
 b_int:mg "int" = none
 b_isinstance:mg "isinstance" = none
 b_len:mg "len" = none
 b_list:mg "list" = none
 b_range:mg "range" = none
 b_str:mg "str" = none
 b_tuple:mg "tuple" = none
 b_zip:mg "zip" = none
 c_MOST_PARTS:∃t,mg "MOST_PARTS" = some (.int 60 t)
 ct_FALLING:∃a,mg "FALLING" = some (.ref a)/\∀ρ H,R K mg ρ H (.tup (List.map PV.str ct_FALLING)) (.ref a)
 ct_FAULTLESS:∃a,mg "FAULTLESS" = some (.ref a)/\∀ρ H,R K mg ρ H (.tup (List.map PV.str ct_FAULTLESS)) (.ref a)
 sb_ForeError:∃B,mg "ForeError" = some (.ref B)/\ExOf K B/\∀c,zbq c=true->∃C,mg c=some (.ref C)/\ExSub K C B
 d_many:FldF K mg "many" insOf excOf
 d_word:FldF K mg "word" insOf excOf
 is:IsF K mg isT
 kd_OPS:∀X:Cx,X.K=K->X.mg=mg->X.w=w->KdF X "OPS" yT y3 zde
section
variable {P:Program}{w:World}{K:Frag}{mg:Str->Option Value}{base:Heap}
theorem znX:FnScope ["self", "word"] ["self", "word"] (zw zdc):=⟨rfl,rfl,rfl,by decide +kernel,rfl,by decide +kernel,by decide +kernel⟩
theorem wH (T:Txt w K mg):XOk P w K mg base "Fault" "word" := T.x_Fault.ok znX fun _ _ _ _ _ _ _ _ _=>zbQ (zeF (pv 0) (pv 1) rfl)
theorem znY:FnScope ["self", "word"] ["self", "word"] (zw zdd):=⟨rfl,rfl,rfl,by decide +kernel,rfl,by decide +kernel,by decide +kernel⟩
theorem znZ (T:Txt w K mg):XOk P w K mg base "NoOp" "word" := T.x_NoOp.ok znY fun _ _ _ _ _ _ _ _ _=>zbQ (zeF (pv 0) (pv 1) rfl)
theorem zf8:FnScope ["_law_some"] [] (zw zcM):=⟨rfl,rfl,rfl,by decide +kernel,rfl,by decide +kernel,by decide +kernel⟩
def zn0:zc->Mo Fl :=
  (zC (zg zZ (zd 0) (yQ (j6 ["down", "head", "rest", "item", "field"]))))
def zn1:zc->Mo Fl :=
  zq (zU 0 (yQ (j6 ["add", "sub", "mul", "div", "rem", "less", "same", "kind", "front", "many", "put", "set"]))) (zn0)
def wI:List PV->Mo PV:=zB 0 1 (zn1)
theorem zbr (T:Txt w K mg):FOk P w K mg base "_law_words" 1 wI:=T.f__law_words.ok (k:=0) zf8 fun f cdv A outer s H E hr =>
  by
 refine zx ?_ ?_
 refine yi 0 ?_ ?_
 refine jA ?_
 refine zah ?_
 decide +kernel
 exact zf8.nd
 refine zt ?_
 refine zD ?_
 refine zy yw ?_ ?_
 exact (zf 0)
 refine jA ?_
 refine zah ?_
 decide +kernel
theorem zbs:FnScope ["_law_script", "_law_k", "_law_mixed", "_law_cell_here"] ["_law_script", "_law_k"] (zw zcN):=⟨rfl,rfl,rfl,by decide +kernel,rfl,by decide +kernel,by decide +kernel⟩
def zf9:zc->Mo Fl :=
  (zC (zg zL (zg jS (zd 2) (zg zZ (zd 1) (mC (.int 17)))) (mC (.int 1000000007))))
def zga:zc->Mo Fl :=
  zq (ww (za8 (yJ (zd 0) pNone (pSome (mC (.int 5))))) (gN 3)
  (zU 2 (zg zL (zg zZ (zg jS (zd 2) (mC (.int 6007))) (zd 3)) (mC (.int 998244353))))) (zf9)
def zgb:zc->Mo Fl :=
  zq (zU 2 (zg zZ (zg jS (mC (.int 53)) (zd 1)) (mC (.int 31)))) (zga)
def zdf:zc->Mo Fl :=
  zq (zH (mB (zg jm (zd 1) (zl ye (ze (zd 0) zj))))
  (zC (zg zI (zd 0) (zd 1)))
  zJ) (zgb)
def yp:List PV->Mo PV:=zB 2 4 (zdf)
theorem y4 (T:Txt w K mg):FOk P w K mg base "_law_cell" 1 yp:=T.f__law_cell.ok (k:=0) zbs fun f cdv A outer s H E hr =>
  by
 refine zx ?_ ?_
 refine zQ ?_ ?_ ?_
 refine ya wu ?_ ?_
 exact (zf 1)
 refine zM y0 T.b_len yY ?_
 refine zh ?_ ?_
 exact (zf 0)
 exact zm
 refine zt ?_
 refine zD ?_
 refine yf ?_ ?_ ?_ ?_
 exact (yg (zE hr))
 exact (zf 0)
 exact (zf 1)
 exact fun _ _=>rfl
 exact zP
 refine zx ?_ ?_
 refine yi 2 ?_ ?_
 refine zy yw ?_ ?_
 refine zy zbi ?_ ?_
 exact zo
 exact (zf 1)
 exact zo
 exact zbs.nd
 refine zx ?_ ?_
 refine zck (zaP rfl rfl) rfl ?_ ?_ ?_
 refine ze7 ?_
 refine jd ?_ ?_ ?_
 exact (zf 0)
 exact jb
 refine jc ?_
 exact zo
 exact (ze6 3 zbs.nd)
 refine zt ?_
 refine yi 2 ?_ ?_
 refine zy yb ?_ ?_
 refine zy yw ?_ ?_
 refine zy zbi ?_ ?_
 exact (zf 2)
 exact zo
 exact (zf 3)
 exact zo
 exact zbs.nd
 refine zt ?_
 refine zD ?_
 refine zy yb ?_ ?_
 refine zy zbi ?_ ?_
 exact (zf 2)
 refine zy yw ?_ ?_
 exact (zf 1)
 exact zo
 exact zo
theorem zn2:FnScope ["self", "word"] ["self", "word"] (zw zcO):=⟨rfl,rfl,rfl,by decide +kernel,rfl,by decide +kernel,by decide +kernel⟩
def zgc:zc->Mo Fl :=
  (sFld "many" insOf (zd 0) (zl ye (ze (zg zI (z0 (kdAt yT y3) (zd 1)) (mC (.int 0))) zj)))
def zgd:zc->Mo Fl :=
  zq (sFld "word" insOf (zd 0) (zd 1)) (zgc)
def zdg:List PV->Mo PV:=zB 2 2 (zgd)
theorem zn3 (T:Txt w K mg):NOk P w K mg base "Op" 1 zdg:=T.n_Op.ok (k:=0) zn2 fun f cdv A outer s H E hr =>
  by
 refine zx ?_ ?_
 refine ze5 T.d_word ?_ ?_
 exact (zf 0)
 exact (zf 1)
 refine zt ?_
 refine ze5 T.d_many ?_ ?_
 exact (zf 0)
 refine zM y0 T.b_len yY ?_
 refine zh ?_ ?_
 refine yf ?_ ?_ ?_ ?_
 exact (yg (zE hr))
 refine zco (T.kd_OPS _ rfl rfl rfl) ?_
 exact (zf 1)
 exact zo
 exact fun _ _=>rfl
 exact zm
theorem zn4:FnScope ["word"] ["word"] (zw zcP):=⟨rfl,rfl,rfl,by decide +kernel,rfl,by decide +kernel,by decide +kernel⟩
def zge:zc->Mo Fl :=
  (zC (zl (newI "Op" zdg) (ze (zd 0) zj)))
def zdh:zc->Mo Fl :=
  zq (zH (mB (z0 (kdIn true yT y3 zde) (zd 0)))
  (jn "NoOp" "word" (zd 0))
  zJ) (zge)
def y6:List PV->Mo PV:=zB 1 1 (zdh)
theorem zam (T:Txt w K mg):FOk P w K mg base "op_of" 3 y6:=T.f_op_of.ok (k:=2) zn4 fun f cdv A outer s H E hr =>
  by
 refine zx ?_ ?_
 refine zQ ?_ ?_ ?_
 refine zlQ (T.kd_OPS _ rfl rfl rfl) ?_
 exact (zf 0)
 refine zt ?_
 refine j3 (znZ T) ?_ (hr.mono (by decide)) zG rfl
 exact (zf 0)
 exact zP
 refine zt ?_
 refine zD ?_
 refine zlo (zn3 T) (hr.mono (by decide)) zG ?_
 refine zh ?_ ?_
 exact (zf 0)
 exact zm
theorem zn5:FnScope ["_law_word"] ["_law_word"] (zw zcQ):=⟨rfl,rfl,rfl,by decide +kernel,rfl,by decide +kernel,by decide +kernel⟩
def zn6:zc->Mo Fl :=
  (zC (zg zZ (mC (.int 2)) (zl zci (ze (zg (yk false) (zd 0) (yQ (ze (mC (.str "put")) (ze (mC (.str "set")) zj)))) zj))))
def zn7:zc->Mo Fl :=
  zq (zH (mB (zg (yk false) (zd 0) (yQ (j6 ["kind", "many", "down", "head", "rest"]))))
  (zC (mC (.int 1)))
  zJ) (zn6)
def zbt:List PV->Mo PV:=zB 1 1 (zn7)
theorem zn8 (T:Txt w K mg):FOk P w K mg base "_law_many" 1 zbt:=T.f__law_many.ok (k:=0) zn5 fun f cdv A outer s H E hr =>
  by
 refine zx ?_ ?_
 refine zQ ?_ ?_ ?_
 refine ya (jR (zE hr)) ?_ ?_
 exact (zf 0)
 refine jA ?_
 refine zah ?_
 decide +kernel
 refine zt ?_
 refine zD ?_
 exact zo
 exact zP
 refine zt ?_
 refine zD ?_
 refine zy yw ?_ ?_
 exact zo
 refine za2 zlg T.b_int zac ?_
 refine zh ?_ ?_
 refine jk (jR (zE hr)) ?_ ?_
 exact (zf 0)
 refine jA ?_
 refine zh ?_ ?_
 exact yh
 refine zh ?_ ?_
 exact yh
 exact zm
 exact zm
theorem zn9:FnScope ["_law_found", "_law_due"] ["_law_found", "_law_due"] (zw zcR):=⟨rfl,rfl,rfl,by decide +kernel,rfl,by decide +kernel,by decide +kernel⟩
def zoa:zc->Mo Fl :=
  (zC (jj (zl (zK isT) (ze (zd 0) (ze (mC (.ty "bool")) zj))) (zg yo (zd 0) (zd 1))))
def zbu:List PV->Mo PV:=zB 2 2 (zoa)
theorem zgf (T:Txt w K mg):FOk P w K mg base "_law_truth" 1 zbu:=T.f__law_truth.ok (k:=0) zn9 fun f cdv A outer s H E hr =>
  by
 refine zt ?_
 refine zD ?_
 refine j0 ?_ ?_
 refine zM (yc T.is) T.b_isinstance yd ?_
 refine zh ?_ ?_
 exact (zf 0)
 refine zh ?_ ?_
 exact (yD T.b_bool zcp)
 exact zm
 refine wZ ?_
 refine jk (yR (zE hr)) ?_ ?_
 exact (zf 0)
 exact (zf 1)
theorem zob:FnScope ["self"] ["self"] (zw zcS):=⟨rfl,rfl,rfl,by decide +kernel,rfl,by decide +kernel,by decide +kernel⟩
def zoc:zc->Mo Fl :=
  (zC (zg (yk false) (z0 (fldAt "word" insOf excOf) (zd 0)) (mC (.tup (List.map PV.str ct_FALLING)))))
def m_Op_falls:List PV->Mo PV:=zB 1 1 (zoc)
theorem zod (T:Txt w K mg):MOk P w K mg base "Op" "falls" 1 m_Op_falls:=T.m_Op_falls.ok (k:=0) zob fun f cdv A outer s H E hr =>
  by
 refine zt ?_
 refine zD ?_
 refine jk (jR (zE hr)) ?_ ?_
 refine je T.d_word ?_
 exact (zf 0)
 exact (zf4 T.ct_FALLING)
def zan (c:Str):Option (List PV->Mo PV):=if c = "Op" then some m_Op_falls else none
theorem zoe (T:Txt w K mg) {c:Str} {m:List PV->Mo PV} (h:zan c=some m):MOk P w K mg base c "falls" 1 m:=by
 unfold zan at h
 by_cases e0:c = "Op"
 ·rw [if_pos e0] at h;cases h;rw [e0];exact (zod T).mono (by decide)
 rw [if_neg e0] at h
 cases h
theorem zof:FnScope ["self"] ["self"] (zw zcT):=⟨rfl,rfl,rfl,by decide +kernel,rfl,by decide +kernel,by decide +kernel⟩
def zog:zc->Mo Fl :=
  (zC (zg (yk false) (z0 (fldAt "word" insOf excOf) (zd 0)) (mC (.tup (List.map PV.str ct_FAULTLESS)))))
def m_Op_never_faults:List PV->Mo PV:=zB 1 1 (zog)
theorem zoh (T:Txt w K mg):MOk P w K mg base "Op" "never_faults" 1 m_Op_never_faults:=T.m_Op_never_faults.ok (k:=0) zof fun f cdv A outer s H E hr =>
  by
 refine zt ?_
 refine zD ?_
 refine jk (jR (zE hr)) ?_ ?_
 refine je T.d_word ?_
 exact (zf 0)
 exact (zf4 T.ct_FAULTLESS)
def zao (c:Str):Option (List PV->Mo PV):=if c = "Op" then some m_Op_never_faults else none
theorem zoi (T:Txt w K mg) {c:Str} {m:List PV->Mo PV} (h:zao c=some m):MOk P w K mg base c "never_faults" 1 m:=by
 unfold zao at h
 by_cases e0:c = "Op"
 ·rw [if_pos e0] at h;cases h;rw [e0];exact (zoh T).mono (by decide)
 rw [if_neg e0] at h
 cases h
theorem zgg:FnScope ["_law_op", "_law_word", "_law_falls_here"] ["_law_op", "_law_word"] (zw zcU):=⟨rfl,rfl,rfl,by decide +kernel,rfl,by decide +kernel,by decide +kernel⟩
def zoj:zc->Mo Fl :=
  (zC (jj (zl zbu (ze (za6 "falls" zan (zd 0) zj) (ze (zd 2) zj))) (zl zbu (ze (za6 "never_faults" zao (zd 0) zj) (ze (zg (yk false) (zd 1) (yQ (ze (mC (.str "same")) (ze (mC (.str "kind")) zj)))) zj)))))
def zok:zc->Mo Fl :=
  zq (zU 2 (zg (yk false) (zd 1) (yQ (j6 ["down", "head", "rest", "item", "field"])))) (zoj)
def zol:zc->Mo Fl :=
  zq (zH (yu (yE (mB (zl (zK isT) (ze (z0 (fldAt "many" insOf excOf) (zd 0)) (ze (mC (.ty "int")) zj))))) (yu (mB (zl (zK isT) (ze (z0 (fldAt "many" insOf excOf) (zd 0)) (ze (mC (.ty "bool")) zj)))) (mB (zg yX (z0 (fldAt "many" insOf excOf) (zd 0)) (zl zbt (ze (zd 1) zj))))))
  (zC (mC (.bl false)))
  zJ) (zok)
def zom:zc->Mo Fl :=
  zq (zH (yu (yE (mB (zl (zK isT) (ze (zd 0) (ze (mC (.fn "Op")) zj))))) (yu (yE (mB (zl (zK isT) (ze (z0 (fldAt "word" insOf excOf) (zd 0)) (ze (mC (.ty "str")) zj))))) (mB (zg yX (z0 (fldAt "word" insOf excOf) (zd 0)) (zd 1)))))
  (zC (mC (.bl false)))
  zJ) (zol)
def wJ:List PV->Mo PV:=zB 2 3 (zom)
theorem zbv (T:Txt w K mg):FOk P w K mg base "_law_fits" 2 wJ:=T.f__law_fits.ok (k:=1) zgg fun f cdv A outer s H E hr =>
  by
 refine zx ?_ ?_
 refine zQ ?_ ?_ ?_
 refine y9 ?_
 refine yP ?_ ?_
 refine jz ?_
 refine z9 ?_
 refine zM (yc T.is) T.b_isinstance yd ?_
 refine zh ?_ ?_
 exact (zf 0)
 refine zh ?_ ?_
 exact (jg T.a_Op)
 exact zm
 refine yP ?_ ?_
 refine jz ?_
 refine z9 ?_
 refine zM (yc T.is) T.b_isinstance yd ?_
 refine zh ?_ ?_
 refine je T.d_word ?_
 exact (zf 0)
 refine zh ?_ ?_
 exact (yD T.b_str ze9)
 exact zm
 refine jO ?_
 refine ya (za1 (zE hr)) ?_ ?_
 refine je T.d_word ?_
 exact (zf 0)
 exact (zf 1)
 refine zt ?_
 refine zD ?_
 exact yU
 exact zP
 refine zx ?_ ?_
 refine zQ ?_ ?_ ?_
 refine y9 ?_
 refine yP ?_ ?_
 refine jz ?_
 refine z9 ?_
 refine zM (yc T.is) T.b_isinstance yd ?_
 refine zh ?_ ?_
 refine je T.d_many ?_
 exact (zf 0)
 refine zh ?_ ?_
 exact (yD T.b_int zac)
 exact zm
 refine yP ?_ ?_
 refine z9 ?_
 refine zM (yc T.is) T.b_isinstance yd ?_
 refine zh ?_ ?_
 refine je T.d_many ?_
 exact (zf 0)
 refine zh ?_ ?_
 exact (yD T.b_bool zcp)
 exact zm
 refine jO ?_
 refine ya (za1 (zE hr)) ?_ ?_
 refine je T.d_many ?_
 exact (zf 0)
 refine zN (zn8 T) (hr.mono (by decide)) zG ?_
 refine zh ?_ ?_
 exact (zf 1)
 exact zm
 refine zt ?_
 refine zD ?_
 exact yU
 exact zP
 refine zx ?_ ?_
 refine yi 2 ?_ ?_
 refine jk (jR (zE hr)) ?_ ?_
 exact (zf 1)
 refine jA ?_
 refine zah ?_
 decide +kernel
 exact zgg.nd
 refine zt ?_
 refine zD ?_
 refine j0 ?_ ?_
 refine zN (zgf T) (hr.mono (by decide)) zG ?_
 refine zh ?_ ?_
 refine ze0 (fun c m h=>zoe T h) ?_ (hr.mono (by decide)) zG
 exact (zf 0)
 refine zh ?_ ?_
 exact (zf 2)
 exact zm
 refine wZ ?_
 refine zN (zgf T) (hr.mono (by decide)) zG ?_
 refine zh ?_ ?_
 refine ze0 (fun c m h=>zoi T h) ?_ (hr.mono (by decide)) zG
 exact (zf 0)
 refine zh ?_ ?_
 refine jk (jR (zE hr)) ?_ ?_
 exact (zf 1)
 refine jA ?_
 refine zh ?_ ?_
 exact yh
 refine zh ?_ ?_
 exact yh
 exact zm
 exact zm
theorem zon:FnScope ["_law_e"] ["_law_e"] (zw zcV):=⟨rfl,rfl,rfl,by decide +kernel,rfl,by decide +kernel,by decide +kernel⟩
def zoo:zc->Mo Fl :=
  (zC (jj (zl (zK isT) (ze (zd 0) (ze (mC (.fn "NoOp")) zj))) (zl (zK isT) (ze (zd 0) (ze (mC (.ty "ValueError")) zj)))))
def zop:zc->Mo Fl :=
  zq (zH (yu (mB (zl (zK isT) (ze (zd 0) (ze (mC (.fn "TooMany")) zj)))) (mB (zl (zK isT) (ze (zd 0) (ze (mC (.fn "NoScore")) zj)))))
  (zC (mC (.bl false)))
  zJ) (zoo)
def zoq:zc->Mo Fl :=
  zq (zH (yu (mB (zl (zK isT) (ze (zd 0) (ze (mC (.fn "NoFunction")) zj)))) (yu (mB (zl (zK isT) (ze (zd 0) (ze (mC (.fn "WrongCount")) zj)))) (mB (zl (zK isT) (ze (zd 0) (ze (mC (.fn "NotLetBy")) zj))))))
  (zC (mC (.bl false)))
  zJ) (zop)
def zor:zc->Mo Fl :=
  zq (zH (yu (mB (zl (zK isT) (ze (zd 0) (ze (mC (.fn "Fault")) zj)))) (yu (mB (zl (zK isT) (ze (zd 0) (ze (mC (.fn "NoText")) zj)))) (yu (mB (zl (zK isT) (ze (zd 0) (ze (mC (.fn "Twice")) zj)))) (mB (zl (zK isT) (ze (zd 0) (ze (mC (.fn "Unbound")) zj)))))))
  (zC (mC (.bl false)))
  zJ) (zoq)
def zdi:List PV->Mo PV:=zB 1 1 (zor)
theorem zos (T:Txt w K mg):FOk P w K mg base "_law_pure" 1 zdi:=T.f__law_pure.ok (k:=0) zon fun f cdv A outer s H E hr =>
  by
 refine zx ?_ ?_
 refine zQ ?_ ?_ ?_
 refine y9 ?_
 refine yP ?_ ?_
 refine z9 ?_
 refine zM (yc T.is) T.b_isinstance yd ?_
 refine zh ?_ ?_
 exact (zf 0)
 refine zh ?_ ?_
 exact (jg T.a_Fault)
 exact zm
 refine yP ?_ ?_
 refine z9 ?_
 refine zM (yc T.is) T.b_isinstance yd ?_
 refine zh ?_ ?_
 exact (zf 0)
 refine zh ?_ ?_
 exact (jg T.a_NoText)
 exact zm
 refine yP ?_ ?_
 refine z9 ?_
 refine zM (yc T.is) T.b_isinstance yd ?_
 refine zh ?_ ?_
 exact (zf 0)
 refine zh ?_ ?_
 exact (jg T.a_Twice)
 exact zm
 refine jO ?_
 refine z9 ?_
 refine zM (yc T.is) T.b_isinstance yd ?_
 refine zh ?_ ?_
 exact (zf 0)
 refine zh ?_ ?_
 exact (jg T.a_Unbound)
 exact zm
 refine zt ?_
 refine zD ?_
 exact yU
 exact zP
 refine zx ?_ ?_
 refine zQ ?_ ?_ ?_
 refine y9 ?_
 refine yP ?_ ?_
 refine z9 ?_
 refine zM (yc T.is) T.b_isinstance yd ?_
 refine zh ?_ ?_
 exact (zf 0)
 refine zh ?_ ?_
 exact (jg T.a_NoFunction)
 exact zm
 refine yP ?_ ?_
 refine z9 ?_
 refine zM (yc T.is) T.b_isinstance yd ?_
 refine zh ?_ ?_
 exact (zf 0)
 refine zh ?_ ?_
 exact (jg T.a_WrongCount)
 exact zm
 refine jO ?_
 refine z9 ?_
 refine zM (yc T.is) T.b_isinstance yd ?_
 refine zh ?_ ?_
 exact (zf 0)
 refine zh ?_ ?_
 exact (jg T.a_NotLetBy)
 exact zm
 refine zt ?_
 refine zD ?_
 exact yU
 exact zP
 refine zx ?_ ?_
 refine zQ ?_ ?_ ?_
 refine y9 ?_
 refine yP ?_ ?_
 refine z9 ?_
 refine zM (yc T.is) T.b_isinstance yd ?_
 refine zh ?_ ?_
 exact (zf 0)
 refine zh ?_ ?_
 exact (jg T.a_TooMany)
 exact zm
 refine jO ?_
 refine z9 ?_
 refine zM (yc T.is) T.b_isinstance yd ?_
 refine zh ?_ ?_
 exact (zf 0)
 refine zh ?_ ?_
 exact (jg T.a_NoScore)
 exact zm
 refine zt ?_
 refine zD ?_
 exact yU
 exact zP
 refine zt ?_
 refine zD ?_
 refine j0 ?_ ?_
 refine zM (yc T.is) T.b_isinstance yd ?_
 refine zh ?_ ?_
 exact (zf 0)
 refine zh ?_ ?_
 exact (jg T.a_NoOp)
 exact zm
 refine wZ ?_
 refine zM (yc T.is) T.b_isinstance yd ?_
 refine zh ?_ ?_
 exact (zf 0)
 refine zh ?_ ?_
 exact (yD T.b_ValueError zlY)
 exact zm
theorem zbw:FnScope ["_law_text_here", "_law_caught", "_law_e"] ["_law_text_here"] (zw zcW):=⟨rfl,rfl,rfl,by decide +kernel,rfl,by decide +kernel,by decide +kernel⟩
def zot:zc->Mo Fl :=
  (zC (jj (zg zbj (zd 1) (mC .non)) (jj (zl zdi (ze (zd 1) zj)) (zg jE (z0 (fldAt "word" insOf excOf) (zd 1)) (zd 0)))))
def zou:zc->Mo Fl :=
  zq (zH (mB (zg (yk false) (zd 0) (zl wI zj)))
  (zC (zg zcB (zd 1) (mC .non)))
  zJ) (zot)
def zov:zc->Mo Fl :=
  zq (wa 2 zbq (xCall y6 (ze (zd 0) zj))
  (zU 1 (zd 2))) (zou)
def zow:zc->Mo Fl :=
  zq (zU 1 (mC .non)) (zov)
def zdj:List PV->Mo PV:=zB 1 3 (zow)
theorem zox (T:Txt w K mg):FOk P w K mg base "_law_refused" 4 zdj:=T.f__law_refused.ok (k:=3) zbw fun f cdv A outer s H E hr =>
  by
 refine zx ?_ ?_
 refine yi 1 ?_ ?_
 exact wo
 exact zbw.nd
 refine zx ?_ ?_
 refine znK 2 T.sb_ForeError ?_ ?_ zbw.nd
 refine zlK (zam T) (hr.mono (by decide)) ?_
 refine zh ?_ ?_
 exact (zf 0)
 exact zm
 intro _
 refine zt ?_
 refine yi 1 ?_ ?_
 exact (zf 2)
 exact zbw.nd
 refine zx ?_ ?_
 refine zQ ?_ ?_ ?_
 refine ya (jR (zE hr)) ?_ ?_
 exact (zf 0)
 exact (za4 (zbr T) (hr.mono (by decide)) zG)
 refine zt ?_
 refine zD ?_
 refine jk zmZ ?_ ?_
 exact (zf 1)
 exact wo
 exact zP
 refine zt ?_
 refine zD ?_
 refine j0 ?_ ?_
 refine jk zfG ?_ ?_
 exact (zf 1)
 exact wo
 refine j0 ?_ ?_
 refine zN (zos T) (hr.mono (by decide)) zG ?_
 refine zh ?_ ?_
 exact (zf 1)
 exact zm
 refine wZ ?_
 refine jk (zcE (zE hr)) ?_ ?_
 refine je T.d_word ?_
 exact (zf 1)
 exact (zf 0)
theorem zap:FnScope ["_law_script", "_law_cell_here", "_law_word", "_law_at", "_law_signs"] ["_law_script"] (zw zbn):=⟨rfl,rfl,rfl,by decide +kernel,rfl,by decide +kernel,by decide +kernel⟩
def zoy:zc->Mo Fl :=
  (zC (zcK (mC (.str "")) (jq (iRng1 (ze (zg zL (zg yK (zd 1) (mC (.int 8))) (mC (.int 7))) zj)) (zg zI (zd 5) (zg zL (zl yp (ze (zd 1) (ze (zg zZ (mC (.int 3)) (zd 0)) zj))) (mC (.int 36)))))))
def zoz:zc->Mo Fl :=
  zq (zH (mB (zg yo (zg zL (zd 1) (mC (.int 8))) (mC (.int 3))))
  (zC (zg zZ (zg zZ (yJ (zd 2) pNone (pSome (zd 3))) (zg zI (zd 4) (zg zL (zl yp (ze (zd 0) (ze (mC (.int 3)) zj))) (mC (.int 36))))) (yJ (zd 2) (pSome (zg zZ (zd 3) (mC (.int 1)))) pNone)))
  zJ) (zoy)
def zoA:zc->Mo Fl :=
  zq (zH (mB (zg yo (zg zL (zd 1) (mC (.int 8))) (mC (.int 2))))
  (zC (z0 zcJ (zd 2)))
  zJ) (zoz)
def zoB:zc->Mo Fl :=
  zq (zH (mB (zg yo (zg zL (zd 1) (mC (.int 4))) (mC (.int 1))))
  (zC (zg zZ (zg zZ (yJ (zd 2) pNone (pSome (zd 3))) (zg zI (zd 4) (zg zL (zl yp (ze (zd 0) (ze (mC (.int 3)) zj))) (mC (.int 36))))) (yJ (zd 2) (pSome (zd 3)) pNone)))
  zJ) (zoA)
def zgh:zc->Mo Fl :=
  zq (zH (mB (zg yo (zg zL (zd 1) (mC (.int 4))) (mC (.int 0))))
  (zC (zg zZ (yJ (zd 2) pNone (pSome (zd 3))) (yJ (zd 2) (pSome (zg zZ (zd 3) (mC (.int 1)))) pNone)))
  zJ) (zoB)
def zoC:zc->Mo Fl :=
  zq (zU 4 (mC (.str " abcdefghijklmnopqrstuvwxyzADS059_'-"))) (zgh)
def zoD:zc->Mo Fl :=
  zq (zU 3 (zg zL (zg yK (zd 1) (mC (.int 136))) (zg zZ (zl ye (ze (zd 2) zj)) (mC (.int 1))))) (zoC)
def zoE:zc->Mo Fl :=
  zq (zU 2 (zg zI (zl wI zj) (zg zL (zg yK (zd 1) (mC (.int 8))) (mC (.int 17))))) (zoD)
def zoF:zc->Mo Fl :=
  zq (zU 1 (zl yp (ze (zd 0) (ze (mC (.int 2)) zj)))) (zoE)
def zbx:List PV->Mo PV:=zB 1 5 (zoF)
theorem zoG (T:Txt w K mg):FOk P w K mg base "_law_text" 2 zbx:=T.f__law_text.ok (k:=1) zap fun f cdv A outer s H E hr =>
  by
 refine zx ?_ ?_
 refine yi 1 ?_ ?_
 refine zN (y4 T) (hr.mono (by decide)) zG ?_
 refine zh ?_ ?_
 exact (zf 0)
 refine zh ?_ ?_
 exact zo
 exact zm
 exact zap.nd
 refine zx ?_ ?_
 refine yi 2 ?_ ?_
 refine yf ?_ ?_ ?_ ?_
 exact (yg (zE hr))
 exact (za4 (zbr T) (hr.mono (by decide)) zG)
 refine zy yb ?_ ?_
 refine zy jB ?_ ?_
 exact (zf 1)
 exact zo
 exact zo
 exact fun _ _=>rfl
 exact zap.nd
 refine zx ?_ ?_
 refine yi 3 ?_ ?_
 refine zy yb ?_ ?_
 refine zy jB ?_ ?_
 exact (zf 1)
 exact zo
 refine zy yw ?_ ?_
 refine zM y0 T.b_len yY ?_
 refine zh ?_ ?_
 exact (zf 2)
 exact zm
 exact zo
 exact zap.nd
 refine zx ?_ ?_
 refine yi 4 ?_ ?_
 exact yh
 exact zap.nd
 refine zx ?_ ?_
 refine zQ ?_ ?_ ?_
 refine ya (yR (zE hr)) ?_ ?_
 refine zy yb ?_ ?_
 exact (zf 1)
 exact zo
 exact zo
 refine zt ?_
 refine zD ?_
 refine zy yw ?_ ?_
 refine jd ?_ ?_ ?_
 exact (zf 2)
 exact jb
 refine jc ?_
 exact (zf 3)
 refine jd ?_ ?_ ?_
 exact (zf 2)
 refine jc ?_
 refine zy yw ?_ ?_
 exact (zf 3)
 exact zo
 exact jb
 exact zP
 refine zx ?_ ?_
 refine zQ ?_ ?_ ?_
 refine ya (yR (zE hr)) ?_ ?_
 refine zy yb ?_ ?_
 exact (zf 1)
 exact zo
 exact zo
 refine zt ?_
 refine zD ?_
 refine zy yw ?_ ?_
 refine zy yw ?_ ?_
 refine jd ?_ ?_ ?_
 exact (zf 2)
 exact jb
 refine jc ?_
 exact (zf 3)
 refine yf ?_ ?_ ?_ ?_
 exact (yg (zE hr))
 exact (zf 4)
 refine zy yb ?_ ?_
 refine zN (y4 T) (hr.mono (by decide)) zG ?_
 refine zh ?_ ?_
 exact (zf 0)
 refine zh ?_ ?_
 exact zo
 exact zm
 exact zo
 exact fun _ _=>rfl
 refine jd ?_ ?_ ?_
 exact (zf 2)
 refine jc ?_
 exact (zf 3)
 exact jb
 exact zP
 refine zx ?_ ?_
 refine zQ ?_ ?_ ?_
 refine ya (yR (zE hr)) ?_ ?_
 refine zy yb ?_ ?_
 exact (zf 1)
 exact zo
 exact zo
 refine zt ?_
 refine zD ?_
 refine znD ?_
 exact (zf 2)
 exact zP
 refine zx ?_ ?_
 refine zQ ?_ ?_ ?_
 refine ya (yR (zE hr)) ?_ ?_
 refine zy yb ?_ ?_
 exact (zf 1)
 exact zo
 exact zo
 refine zt ?_
 refine zD ?_
 refine zy yw ?_ ?_
 refine zy yw ?_ ?_
 refine jd ?_ ?_ ?_
 exact (zf 2)
 exact jb
 refine jc ?_
 exact (zf 3)
 refine yf ?_ ?_ ?_ ?_
 exact (yg (zE hr))
 exact (zf 4)
 refine zy yb ?_ ?_
 refine zN (y4 T) (hr.mono (by decide)) zG ?_
 refine zh ?_ ?_
 exact (zf 0)
 refine zh ?_ ?_
 exact zo
 exact zm
 exact zo
 exact fun _ _=>rfl
 refine jd ?_ ?_ ?_
 exact (zf 2)
 refine jc ?_
 refine zy yw ?_ ?_
 exact (zf 3)
 exact zo
 exact jb
 exact zP
 refine zt ?_
 refine zD ?_
 refine znE ?_ ?_
 exact yh
 refine zfv (N:=["_law_script", "_law_cell_here", "_law_word", "_law_at", "_law_signs"]) rfl (by exact ⟨rfl,by decide +kernel,by decide +kernel,rfl,by show ∀y:Str×NameKind,y∈_->y.2=NameKind.free->List.lookup y.1 (zw zbn).names=some NameKind.cell;decide +kernel⟩) rfl (by decide +kernel) ?_ ?_
 refine zcl T.b_range ?_
 refine zh ?_ ?_
 refine zy yb ?_ ?_
 refine zy jB ?_ ?_
 exact (zf 1)
 exact zo
 exact zo
 exact zm
 intro _ _ _ _ _
 refine yf ?_ ?_ ?_ ?_
 exact (yg (zE hr))
 exact (zf 5)
 refine zy yb ?_ ?_
 refine zN (y4 T) (hr.mono (by decide)) zag ?_
 refine zh ?_ ?_
 exact (zf 1)
 refine zh ?_ ?_
 refine zy yw ?_ ?_
 exact zo
 exact (zf 0)
 exact zm
 exact zo
 exact fun _ _=>rfl
theorem zoH:FnScope ["_law_cell_here"] ["_law_cell_here"] (zw zcX):=⟨rfl,rfl,rfl,by decide +kernel,rfl,by decide +kernel,by decide +kernel⟩
def zoI:zc->Mo Fl :=
  (zC (zg zZ (zg ja (zg zL (zg yK (zd 0) (mC (.int 5))) (zg ja (zg jS (mC (.int 2)) (zg wq (mC (.int 10)) (mC (.int 18)))) (mC (.int 1)))) (zg wq (mC (.int 10)) (mC (.int 18)))) (mC (.int 1))))
def zoJ:zc->Mo Fl :=
  zq (zH (mB (zg yo (zg zL (zd 0) (mC (.int 5))) (mC (.int 2))))
  (zC (zcA ["a", "of"] [(zg ja (zg zL (zg yK (zd 0) (mC (.int 5))) (mC (.int 9))) (mC (.int 4))),(yW zj)]))
  zJ) (zoI)
def zoK:zc->Mo Fl :=
  zq (zH (mB (zg yo (zg zL (zd 0) (mC (.int 5))) (mC (.int 1))))
  (zC (yW (ze (zg zL (zg yK (zd 0) (mC (.int 5))) (mC (.int 4))) (ze (zg zL (zg yK (zd 0) (mC (.int 20))) (zg wq (mC (.int 10)) (mC (.int 18)))) zj))))
  zJ) (zoJ)
def zoL:zc->Mo Fl :=
  zq (zH (mB (zg yo (zg zL (zd 0) (mC (.int 5))) (mC (.int 0))))
  (zC (yJ (yJ (mC (.str "abcdefghijklmnopqrstuvwxyz")) (pSome (zg zL (zg yK (zd 0) (mC (.int 5))) (mC (.int 19)))) pNone) pNone (pSome (zg zZ (mC (.int 1)) (zg zL (zg yK (zd 0) (mC (.int 95))) (mC (.int 7)))))))
  zJ) (zoK)
def wK:List PV->Mo PV:=zB 1 1 (zoL)
theorem zoM (T:Txt w K mg):FOk P w K mg base "_law_leaf" 1 wK:=T.f__law_leaf.ok (k:=0) zoH fun f cdv A outer s H E hr =>
  by
 refine zx ?_ ?_
 refine zQ ?_ ?_ ?_
 refine ya (yR (zE hr)) ?_ ?_
 refine zy yb ?_ ?_
 exact (zf 0)
 exact zo
 exact zo
 refine zt ?_
 refine zD ?_
 refine jd ?_ ?_ ?_
 refine jd ?_ ?_ ?_
 exact yh
 refine jc ?_
 refine zy yb ?_ ?_
 refine zy jB ?_ ?_
 exact (zf 0)
 exact zo
 exact zo
 exact jb
 exact jb
 refine jc ?_
 refine zy yw ?_ ?_
 exact zo
 refine zy yb ?_ ?_
 refine zy jB ?_ ?_
 exact (zf 0)
 exact zo
 exact zo
 exact zP
 refine zx ?_ ?_
 refine zQ ?_ ?_ ?_
 refine ya (yR (zE hr)) ?_ ?_
 refine zy yb ?_ ?_
 exact (zf 0)
 exact zo
 exact zo
 refine zt ?_
 refine zD ?_
 refine j1 ?_
 refine zh ?_ ?_
 refine zy yb ?_ ?_
 refine zy jB ?_ ?_
 exact (zf 0)
 exact zo
 exact zo
 refine zh ?_ ?_
 refine zy yb ?_ ?_
 refine zy jB ?_ ?_
 exact (zf 0)
 exact zo
 refine zy zaZ ?_ ?_
 exact zo
 exact zo
 exact zm
 exact zP
 refine zx ?_ ?_
 refine zQ ?_ ?_ ?_
 refine ya (yR (zE hr)) ?_ ?_
 refine zy yb ?_ ?_
 exact (zf 0)
 exact zo
 exact zo
 refine zt ?_
 refine zD ?_
 refine zmV ?_ (by simp) (by decide)
 refine zfF ?_ ?_
 refine zy wt ?_ ?_
 refine zy yb ?_ ?_
 refine zy jB ?_ ?_
 exact (zf 0)
 exact zo
 exact zo
 exact zo
 refine zfF ?_ ?_
 refine j1 ?_
 exact zm
 exact zmW
 exact zP
 refine zt ?_
 refine zD ?_
 refine zy yw ?_ ?_
 refine zy wt ?_ ?_
 refine zy yb ?_ ?_
 refine zy jB ?_ ?_
 exact (zf 0)
 exact zo
 refine zy wt ?_ ?_
 refine zy zbi ?_ ?_
 exact zo
 refine zy zaZ ?_ ?_
 exact zo
 exact zo
 exact zo
 refine zy zaZ ?_ ?_
 exact zo
 exact zo
 exact zo
theorem zaq:FnScope ["_law_script", "_law_word", "_law_things", "_law_at", "_law_record", "_law_k"] ["_law_script", "_law_word"] (zw zbo):=⟨rfl,rfl,rfl,by decide +kernel,rfl,by decide +kernel,by decide +kernel⟩
def zoN:zc->Mo Fl :=
  (zC (yW (ze (zl za3 (ze (zd 2) zj)) zj)))
def zoO:zc->Mo Fl :=
  zq (zH (mB (zg yo (zd 1) (mC (.str "item"))))
  (zC (yW (ze (zl za3 (ze (zd 2) zj)) (ze (zd 3) zj))))
  zJ) (zoN)
def zoP:zc->Mo Fl :=
  zq (zH (mB (zg yo (zd 1) (mC (.str "field"))))
  (zq (zU 4 zfr)
  (zq (ww (iRng1 (ze (zl ye (ze (zd 2) zj)) zj)) (gN 5)
  (zaf (zd 4) (zg zZ (zg zI (mC (.str "abcde")) (zd 5)) (mC (.str "to"))) (zg zI (zd 2) (zd 5))))
  (zC (yW (ze (zd 4) (ze (zg zZ (zg zI (mC (.str "abcde")) (zd 3)) (mC (.str "to"))) zj))))))
  zJ) (zoO)
def zgi:zc->Mo Fl :=
  zq (zH (mB (zg yo (zd 1) (mC (.str "down"))))
  (zq (zH (mB (zg yo (zg zL (zl yp (ze (zd 0) (ze (mC (.int 4)) zj))) (mC (.int 3))) (mC (.int 0))))
  (zC (yW (ze (zg zL (zl yp (ze (zd 0) (ze (mC (.int 5)) zj))) (zg wq (mC (.int 10)) (mC (.int 18)))) zj)))
  zJ)
  (zC (yW (ze (zg ja (zg zL (zl yp (ze (zd 0) (ze (mC (.int 5)) zj))) (mC (.int 12))) (mC (.int 3))) zj))))
  zJ) (zoP)
def zoQ:zc->Mo Fl :=
  zq (zU 3 (zg zL (zl yp (ze (zd 0) (ze (mC (.int 5)) zj))) (mC (.int 5)))) (zgi)
def zoR:zc->Mo Fl :=
  zq (zU 2 (jq (iRng1 (ze (zg zL (zl yp (ze (zd 0) (ze (mC (.int 4)) zj))) (mC (.int 5))) zj)) (zl wK (ze (zl yp (ze (zd 1) (ze (zg zZ (mC (.int 11)) (zd 0)) zj))) zj)))) (zoQ)
def zar:List PV->Mo PV:=zB 2 6 (zoR)
theorem zgj (T:Txt w K mg):FOk P w K mg base "_law_values" 2 zar:=T.f__law_values.ok (k:=1) zaq fun f cdv A outer s H E hr =>
  by
 refine zx ?_ ?_
 refine zni 2 (M:=["_law_script", "_law_word", "_law_things", "_law_at", "_law_record", "~_law_k"]) rfl (by exact ⟨rfl,by decide +kernel,by decide +kernel,rfl,by show ∀y:Str×NameKind,y∈_->y.2=NameKind.free->List.lookup y.1 (zw zbo).names=some NameKind.cell;decide +kernel⟩) (by exact ⟨rfl,by show ∀p∈List.zip (["_law_script", "_law_word", "_law_things", "_law_at", "_law_record", "~_law_k"]:List Str) (["_law_script", "_law_word", "_law_things", "_law_at", "_law_record", "_law_k"]:List Str),p.1=p.2\/p.1∉(_:List Str);decide +kernel⟩) (by decide +kernel) ?_ ?_ zaq.nd rfl (by first|exact Or.inl rfl|exact Or.inr rfl) (by first|exact .inl rfl|exact .inr rfl|assumption) (by rfl)
 refine zcl T.b_range ?_
 refine zh ?_ ?_
 refine zy yb ?_ ?_
 refine zN (y4 T) (hr.mono (by decide)) zG ?_
 refine zh ?_ ?_
 exact (zf 0)
 refine zh ?_ ?_
 exact zo
 exact zm
 exact zo
 exact zm
 intro _ _ _ _ _
 refine zN (zoM T) (hr.mono (by decide)) zag ?_
 refine zh ?_ ?_
 refine zN (y4 T) (hr.mono (by decide)) zag ?_
 refine zh ?_ ?_
 exact (zf 1)
 refine zh ?_ ?_
 refine zy yw ?_ ?_
 exact zo
 exact (zf 0)
 exact zm
 exact zm
 refine zx ?_ ?_
 refine yi 3 ?_ ?_
 refine zy yb ?_ ?_
 refine zN (y4 T) (hr.mono (by decide)) zG ?_
 refine zh ?_ ?_
 exact (zf 0)
 refine zh ?_ ?_
 exact zo
 exact zm
 exact zo
 exact zaq.nd
 refine zx ?_ ?_
 refine zQ ?_ ?_ ?_
 refine ya (yR (zE hr)) ?_ ?_
 exact (zf 1)
 exact yh
 refine zx ?_ ?_
 refine zQ ?_ ?_ ?_
 refine ya (yR (zE hr)) ?_ ?_
 refine zy yb ?_ ?_
 refine zN (y4 T) (hr.mono (by decide)) zG ?_
 refine zh ?_ ?_
 exact (zf 0)
 refine zh ?_ ?_
 exact zo
 exact zm
 exact zo
 exact zo
 refine zt ?_
 refine zD ?_
 refine j1 ?_
 refine zh ?_ ?_
 refine zy yb ?_ ?_
 refine zN (y4 T) (hr.mono (by decide)) zG ?_
 refine zh ?_ ?_
 exact (zf 0)
 refine zh ?_ ?_
 exact zo
 exact zm
 refine zy zaZ ?_ ?_
 exact zo
 exact zo
 exact zm
 exact zP
 refine zt ?_
 refine zD ?_
 refine j1 ?_
 refine zh ?_ ?_
 refine zy wt ?_ ?_
 refine zy yb ?_ ?_
 refine zN (y4 T) (hr.mono (by decide)) zG ?_
 refine zh ?_ ?_
 exact (zf 0)
 refine zh ?_ ?_
 exact zo
 exact zm
 exact zo
 exact zo
 exact zm
 exact zP
 refine zx ?_ ?_
 refine zQ ?_ ?_ ?_
 refine ya (yR (zE hr)) ?_ ?_
 exact (zf 1)
 exact yh
 refine zx ?_ ?_
 refine yi 4 ?_ ?_
 exact zmB
 exact zaq.nd
 refine zx ?_ ?_
 refine zck (zaP rfl rfl) rfl ?_ ?_ ?_
 refine zcl T.b_range ?_
 refine zh ?_ ?_
 refine zM y0 T.b_len yY ?_
 refine zh ?_ ?_
 exact (zf 2)
 exact zm
 exact zm
 exact (ze6 5 zaq.nd)
 refine zt ?_
 refine zmE ?_ ?_ ?_ ?_ ?_
 exact (zE hr)
 exact (zf 4)
 refine zy yw ?_ ?_
 refine yf ?_ ?_ ?_ ?_
 exact (yg (zE hr))
 exact yh
 exact (zf 5)
 exact fun _ _=>rfl
 exact yh
 refine yf ?_ ?_ ?_ ?_
 exact (yg (zE hr))
 exact (zf 2)
 exact (zf 5)
 exact fun _ _=>rfl
 rfl
 refine zt ?_
 refine zD ?_
 refine j1 ?_
 refine zh ?_ ?_
 exact (zf 4)
 refine zh ?_ ?_
 refine zy yw ?_ ?_
 refine yf ?_ ?_ ?_ ?_
 exact (yg (zE hr))
 exact yh
 exact (zf 3)
 exact fun _ _=>rfl
 exact yh
 exact zm
 exact zP
 refine zx ?_ ?_
 refine zQ ?_ ?_ ?_
 refine ya (yR (zE hr)) ?_ ?_
 exact (zf 1)
 exact yh
 refine zt ?_
 refine zD ?_
 refine j1 ?_
 refine zh ?_ ?_
 refine za2 zeY T.b_tuple wz ?_
 refine zh ?_ ?_
 exact (zf 2)
 exact zm
 refine zh ?_ ?_
 exact (zf 3)
 exact zm
 exact zP
 refine zt ?_
 refine zD ?_
 refine j1 ?_
 refine zh ?_ ?_
 refine za2 zeY T.b_tuple wz ?_
 refine zh ?_ ?_
 exact (zf 2)
 exact zm
 exact zm
theorem zoS:FnScope ["value"] ["value"] (zw zcY):=⟨rfl,rfl,rfl,by decide +kernel,rfl,by decide +kernel,by decide +kernel⟩
def zgk:zc->Mo Fl :=
  (zC (mC (.str "number")))
def zgl:zc->Mo Fl :=
  zq (zH (mB (zl (zK isT) (ze (zd 0) (ze (mC (.ty "dict")) zj))))
  (zC (mC (.str "record")))
  zJ) (zgk)
def zgm:zc->Mo Fl :=
  zq (zH (mB (zl (zK isT) (ze (zd 0) (ze (mC (.ty "tuple")) zj))))
  (zC (mC (.str "row")))
  zJ) (zgl)
def zgn:zc->Mo Fl :=
  zq (zH (mB (zl (zK isT) (ze (zd 0) (ze (mC (.ty "str")) zj))))
  (zC (mC (.str "word")))
  zJ) (zgm)
def zas:List PV->Mo PV:=zB 1 1 (zgn)
theorem zoT (T:Txt w K mg):FOk P w K mg base "kind_of" 1 zas:=T.f_kind_of.ok (k:=0) zoS fun f cdv A outer s H E hr =>
  by
 refine zx ?_ ?_
 refine zQ ?_ ?_ ?_
 refine z9 ?_
 refine zM (yc T.is) T.b_isinstance yd ?_
 refine zh ?_ ?_
 exact (zf 0)
 refine zh ?_ ?_
 exact (yD T.b_str ze9)
 exact zm
 refine zt ?_
 refine zD ?_
 exact yh
 exact zP
 refine zx ?_ ?_
 refine zQ ?_ ?_ ?_
 refine z9 ?_
 refine zM (yc T.is) T.b_isinstance yd ?_
 refine zh ?_ ?_
 exact (zf 0)
 refine zh ?_ ?_
 exact (yD T.b_tuple wz)
 exact zm
 refine zt ?_
 refine zD ?_
 exact yh
 exact zP
 refine zx ?_ ?_
 refine zQ ?_ ?_ ?_
 refine z9 ?_
 refine zM (yc T.is) T.b_isinstance yd ?_
 refine zh ?_ ?_
 exact (zf 0)
 refine zh ?_ ?_
 exact (yD T.b_dict zcq)
 exact zm
 refine zt ?_
 refine zD ?_
 exact yh
 exact zP
 refine zt ?_
 refine zD ?_
 exact yh
theorem zgo:FnScope ["kinds", "values", "kind", "value"] ["kinds", "values"] (zw zcZ):=⟨rfl,rfl,rfl,by decide +kernel,rfl,by decide +kernel,by decide +kernel⟩
def zgp:zc->Mo Fl :=
  (ww (zcm (ze (zd 0) (ze (zd 1) zj))) (g2 2 3)
  (zH (yV (mB (zg yX (zd 2) (mC (.str "any")))) (mB (zg yX (zd 2) (zl zas (ze (zd 3) zj)))))
  (jn "Fault" "word" (mC (.str "kind")))
  zJ))
def zby:List PV->Mo PV:=zB 2 4 (zgp)
theorem zoU (T:Txt w K mg):FOk P w K mg base "check_kinds" 3 zby:=T.f_check_kinds.ok (k:=2) zgo fun f cdv A outer s H E hr =>
  by
 refine zt ?_
 refine zck (zaP rfl rfl) rfl ?_ ?_ ?_
 refine zlH T.b_zip ?_
 refine zh ?_ ?_
 exact (zf 0)
 refine zh ?_ ?_
 exact (zf 1)
 exact zm
 exact (zlw 2 3 rfl zgo.nd)
 refine zt ?_
 refine zQ ?_ ?_ ?_
 refine y9 ?_
 refine zaY ?_ ?_
 refine ya (za1 (zE hr)) ?_ ?_
 exact (zf 2)
 exact yh
 refine zca ?_
 refine ya (za1 (zE hr)) ?_ ?_
 exact (zf 2)
 refine zN (zoT T) (hr.mono (by decide)) zG ?_
 refine zh ?_ ?_
 exact (zf 3)
 exact zm
 refine zt ?_
 refine j3 (wH T) ?_ (hr.mono (by decide)) zG rfl
 exact yh
 exact zP
theorem zoV:FnScope ["values"] ["values"] (zw zc0):=⟨rfl,rfl,rfl,by decide +kernel,rfl,by decide +kernel,by decide +kernel⟩
def zgq:zc->Mo Fl :=
  (zC (zg ja (zg zI (zd 0) (mC (.int 0))) (mC (.int 1))))
def zdk:zc->Mo Fl :=
  zq (zH (mB (zg jm (zg zI (zd 0) (mC (.int 0))) (mC (.int 1))))
  (jn "Fault" "word" (mC (.str "low")))
  zJ) (zgq)
def zat:List PV->Mo PV:=zB 1 1 (zdk)
theorem zoW (T:Txt w K mg):FOk P w K mg base "tell_down" 3 zat:=T.f_tell_down.ok (k:=2) zoV fun f cdv A outer s H E hr =>
  by
 refine zx ?_ ?_
 refine zQ ?_ ?_ ?_
 refine ya wu ?_ ?_
 refine yf ?_ ?_ ?_ ?_
 exact (yg (zE hr))
 exact (zf 0)
 exact zo
 exact fun _ _=>rfl
 exact zo
 refine zt ?_
 refine j3 (wH T) ?_ (hr.mono (by decide)) zG rfl
 exact yh
 exact zP
 refine zt ?_
 refine zD ?_
 refine zy wt ?_ ?_
 refine yf ?_ ?_ ?_ ?_
 exact (yg (zE hr))
 exact (zf 0)
 exact zo
 exact fun _ _=>rfl
 exact zo
theorem zoX:FnScope ["row"] ["row"] (zw zc1):=⟨rfl,rfl,rfl,by decide +kernel,rfl,by decide +kernel,by decide +kernel⟩
def zgr:zc->Mo Fl :=
  (zC (zd 0))
def zdl:zc->Mo Fl :=
  zq (zH (mB (zg yo (zl ye (ze (zd 0) zj)) (mC (.int 0))))
  (jn "Fault" "word" (mC (.str "empty")))
  zJ) (zgr)
def wL:List PV->Mo PV:=zB 1 1 (zdl)
theorem zgs (T:Txt w K mg):FOk P w K mg base "filled" 3 wL:=T.f_filled.ok (k:=2) zoX fun f cdv A outer s H E hr =>
  by
 refine zx ?_ ?_
 refine zQ ?_ ?_ ?_
 refine ya (yR (zE hr)) ?_ ?_
 refine zM y0 T.b_len yY ?_
 refine zh ?_ ?_
 exact (zf 0)
 exact zm
 exact zo
 refine zt ?_
 refine j3 (wH T) ?_ (hr.mono (by decide)) zG rfl
 exact yh
 exact zP
 refine zt ?_
 refine zD ?_
 exact (zf 0)
theorem zoY:FnScope ["values"] ["values"] (zw zc2):=⟨rfl,rfl,rfl,by decide +kernel,rfl,by decide +kernel,by decide +kernel⟩
def zdm:zc->Mo Fl :=
  (zC (zg zI (zl wL (ze (zg zI (zd 0) (mC (.int 0))) zj)) (mC (.int 0))))
def zau:List PV->Mo PV:=zB 1 1 (zdm)
theorem zoZ (T:Txt w K mg):FOk P w K mg base "tell_head" 4 zau:=T.f_tell_head.ok (k:=3) zoY fun f cdv A outer s H E hr =>
  by
 refine zt ?_
 refine zD ?_
 refine yf ?_ ?_ ?_ ?_
 exact (yg (zE hr))
 refine zN (zgs T) (hr.mono (by decide)) zG ?_
 refine zh ?_ ?_
 refine yf ?_ ?_ ?_ ?_
 exact (yg (zE hr))
 exact (zf 0)
 exact zo
 exact fun _ _=>rfl
 exact zm
 exact zo
 exact fun _ _=>rfl
theorem zo0:FnScope ["values"] ["values"] (zw zc3):=⟨rfl,rfl,rfl,by decide +kernel,rfl,by decide +kernel,by decide +kernel⟩
def zdn:zc->Mo Fl :=
  (zC (yJ (zl wL (ze (zg zI (zd 0) (mC (.int 0))) zj)) (pSome (mC (.int 1))) pNone))
def zav:List PV->Mo PV:=zB 1 1 (zdn)
theorem zo1 (T:Txt w K mg):FOk P w K mg base "tell_rest" 4 zav:=T.f_tell_rest.ok (k:=3) zo0 fun f cdv A outer s H E hr =>
  by
 refine zt ?_
 refine zD ?_
 refine jd ?_ ?_ ?_
 refine zN (zgs T) (hr.mono (by decide)) zG ?_
 refine zh ?_ ?_
 refine yf ?_ ?_ ?_ ?_
 exact (yg (zE hr))
 exact (zf 0)
 exact zo
 exact fun _ _=>rfl
 exact zm
 refine jc ?_
 exact zo
 exact jb
theorem zo2:FnScope ["row", "number"] ["row", "number"] (zw zc4):=⟨rfl,rfl,rfl,by decide +kernel,rfl,by decide +kernel,by decide +kernel⟩
def zgt:zc->Mo Fl :=
  (zC (zd 1))
def zbz:zc->Mo Fl :=
  zq (zH (yE (mB (jN oLe jm (mC (.int 0)) (zd 1) (zl ye (ze (zd 0) zj)))))
  (jn "Fault" "word" (mC (.str "place")))
  zJ) (zgt)
def wM:List PV->Mo PV:=zB 2 2 (zbz)
theorem zo3 (T:Txt w K mg):FOk P w K mg base "place_in" 3 wM:=T.f_place_in.ok (k:=2) zo2 fun f cdv A outer s H E hr =>
  by
 refine zx ?_ ?_
 refine zQ ?_ ?_ ?_
 refine jz ?_
 refine zkX zeR wu ?_ ?_ ?_
 exact zo
 exact (zf 1)
 refine zM y0 T.b_len yY ?_
 refine zh ?_ ?_
 exact (zf 0)
 exact zm
 refine zt ?_
 refine j3 (wH T) ?_ (hr.mono (by decide)) zG rfl
 exact yh
 exact zP
 refine zt ?_
 refine zD ?_
 exact (zf 1)
theorem zgu:FnScope ["values", "row"] ["values"] (zw zc5):=⟨rfl,rfl,rfl,by decide +kernel,rfl,by decide +kernel,by decide +kernel⟩
def zdo:zc->Mo Fl :=
  (zC (zg zI (zd 1) (zl wM (ze (zd 1) (ze (zg zI (zd 0) (mC (.int 1))) zj)))))
def zdp:zc->Mo Fl :=
  zq (zU 1 (zg zI (zd 0) (mC (.int 0)))) (zdo)
def zaw:List PV->Mo PV:=zB 1 2 (zdp)
theorem zo4 (T:Txt w K mg):FOk P w K mg base "tell_item" 4 zaw:=T.f_tell_item.ok (k:=3) zgu fun f cdv A outer s H E hr =>
  by
 refine zx ?_ ?_
 refine yi 1 ?_ ?_
 refine yf ?_ ?_ ?_ ?_
 exact (yg (zE hr))
 exact (zf 0)
 exact zo
 exact fun _ _=>rfl
 exact zgu.nd
 refine zt ?_
 refine zD ?_
 refine yf ?_ ?_ ?_ ?_
 exact (yg (zE hr))
 exact (zf 1)
 refine zN (zo3 T) (hr.mono (by decide)) zG ?_
 refine zh ?_ ?_
 exact (zf 1)
 refine zh ?_ ?_
 refine yf ?_ ?_ ?_ ?_
 exact (yg (zE hr))
 exact (zf 0)
 exact zo
 exact fun _ _=>rfl
 exact zm
 exact fun _ _=>rfl
theorem zgv:FnScope ["values", "record"] ["values"] (zw zc6):=⟨rfl,rfl,rfl,by decide +kernel,rfl,by decide +kernel,by decide +kernel⟩
def zgw:zc->Mo Fl :=
  (zC (zg zI (zd 1) (zg zI (zd 0) (mC (.int 1)))))
def zdq:zc->Mo Fl :=
  zq (zH (mB (zg (yk true) (zg zI (zd 0) (mC (.int 1))) (zd 1)))
  (jn "Fault" "word" (mC (.str "field")))
  zJ) (zgw)
def zdr:zc->Mo Fl :=
  zq (zU 1 (zg zI (zd 0) (mC (.int 0)))) (zdq)
def zax:List PV->Mo PV:=zB 1 2 (zdr)
theorem zo5 (T:Txt w K mg):FOk P w K mg base "tell_field" 3 zax:=T.f_tell_field.ok (k:=2) zgv fun f cdv A outer s H E hr =>
  by
 refine zx ?_ ?_
 refine yi 1 ?_ ?_
 refine yf ?_ ?_ ?_ ?_
 exact (yg (zE hr))
 exact (zf 0)
 exact zo
 exact fun _ _=>rfl
 exact zgv.nd
 refine zx ?_ ?_
 refine zQ ?_ ?_ ?_
 refine ya (zmJ (zE hr)) ?_ ?_
 refine yf ?_ ?_ ?_ ?_
 exact (yg (zE hr))
 exact (zf 0)
 exact zo
 exact fun _ _=>rfl
 exact (zf 1)
 refine zt ?_
 refine j3 (wH T) ?_ (hr.mono (by decide)) zG rfl
 exact yh
 exact zP
 refine zt ?_
 refine zD ?_
 refine yf ?_ ?_ ?_ ?_
 exact (yg (zE hr))
 exact (zf 1)
 refine yf ?_ ?_ ?_ ?_
 exact (yg (zE hr))
 exact (zf 0)
 exact zo
 exact fun _ _=>rfl
 exact fun _ _=>rfl
def zay (y:Str):Option (List PV->Mo PV):=if y = "tell_down" then some zat else if y = "tell_head" then some zau else if y = "tell_rest" then some zav else if y = "tell_item" then some zaw else if y = "tell_field" then some zax else none
theorem zo6 (T:Txt w K mg) {y:Str}{m:List PV->Mo PV}(h:zay y=some m):FOk P w K mg base y 4 m:=by
 unfold zay at h
 by_cases e0:y = "tell_down"
 ·rw [if_pos e0] at h;cases h;rw [e0];exact (zoW T).mono (by decide)
 rw [if_neg e0] at h
 by_cases e1:y = "tell_head"
 ·rw [if_pos e1] at h;cases h;rw [e1];exact (zoZ T).mono (by decide)
 rw [if_neg e1] at h
 by_cases e2:y = "tell_rest"
 ·rw [if_pos e2] at h;cases h;rw [e2];exact (zo1 T).mono (by decide)
 rw [if_neg e2] at h
 by_cases e3:y = "tell_item"
 ·rw [if_pos e3] at h;cases h;rw [e3];exact (zo4 T).mono (by decide)
 rw [if_neg e3] at h
 by_cases e4:y = "tell_field"
 ·rw [if_pos e4] at h;cases h;rw [e4];exact (zo5 T).mono (by decide)
 rw [if_neg e4] at h
 cases h
theorem zo7:FnScope ["thing"] ["thing"] (zw zc7):=⟨rfl,rfl,rfl,by decide +kernel,rfl,by decide +kernel,by decide +kernel⟩
def zds:zc->Mo Fl :=
  (zC (yQ zj))
def zbA:zc->Mo Fl :=
  zq (zH (mB (zl (zK isT) (ze (zd 0) (ze (mC (.ty "dict")) zj))))
  (zC (z0 zcF (zd 0)))
  zJ) (zds)
def zaz:zc->Mo Fl :=
  zq (zH (mB (zl (zK isT) (ze (zd 0) (ze (mC (.ty "tuple")) zj))))
  (zC (zl wD (ze (zd 0) zj)))
  zJ) (zbA)
def jV:List PV->Mo PV:=zB 1 1 (zaz)
theorem zo8 (T:Txt w K mg):FOk P w K mg base "things_within" 1 jV:=T.f_things_within.ok (k:=0) zo7 fun f cdv A outer s H E hr =>
  by
 refine zx ?_ ?_
 refine zQ ?_ ?_ ?_
 refine z9 ?_
 refine zM (yc T.is) T.b_isinstance yd ?_
 refine zh ?_ ?_
 exact (zf 0)
 refine zh ?_ ?_
 exact (yD T.b_tuple wz)
 exact zm
 refine zt ?_
 refine zD ?_
 refine za2 (zm3 rfl) T.b_list zfa ?_
 refine zh ?_ ?_
 exact (zf 0)
 exact zm
 exact zP
 refine zx ?_ ?_
 refine zQ ?_ ?_ ?_
 refine z9 ?_
 refine zM (yc T.is) T.b_isinstance yd ?_
 refine zh ?_ ?_
 exact (zf 0)
 refine zh ?_ ?_
 exact (yD T.b_dict zcq)
 exact zm
 refine zt ?_
 refine zD ?_
 refine znd rfl T.b_list ?_
 exact (zf 0)
 exact zP
 refine zt ?_
 refine zD ?_
 refine jA ?_
 exact zm
theorem zbB:FnScope ["thing", "found", "place"] ["thing"] (zw zc8):=⟨rfl,rfl,rfl,by decide +kernel,rfl,by decide +kernel,by decide +kernel⟩
def zgx:zc->Mo Fl :=
  (zC (zd 1))
def zgy:zc->Mo Fl :=
  zq (zcn (mB (zg jm (zd 2) (zl ye (ze (zd 1) zj))))
  (zq (w9 (zba za9 (zd 1) (zl jV (ze (zg zI (zd 1) (zd 2)) zj))))
  (zaa 2 ipAdd (mC (.int 1))))) (zgx)
def zgz:zc->Mo Fl :=
  zq (zU 2 (mC (.int 0))) (zgy)
def zgA:zc->Mo Fl :=
  zq (zU 1 (yQ (ze (zd 0) zj))) (zgz)
def zbC:List PV->Mo PV:=zB 1 3 (zgA)
theorem zo9 (T:Txt w K mg):FOk P w K mg base "all_within" 2 zbC:=T.f_all_within.ok (k:=1) zbB fun f cdv A outer s H E hr =>
  by
 refine zx ?_ ?_
 refine yi 1 ?_ ?_
 refine jA ?_
 refine zh ?_ ?_
 exact (zf 0)
 exact zm
 exact zbB.nd
 refine zx ?_ ?_
 refine yi 2 ?_ ?_
 exact zo
 exact zbB.nd
 refine zx ?_ ?_
 refine zlI (zaP rfl rfl) ?_ ?_
 refine ya wu ?_ ?_
 exact (zf 2)
 refine zM y0 T.b_len yY ?_
 refine zh ?_ ?_
 exact (zf 1)
 exact zm
 refine zx ?_ ?_
 refine ze3 ?_
 refine zlS ?_ ?_
 exact (zf 1)
 refine zN (zo8 T) (hr.mono (by decide)) zG ?_
 refine zh ?_ ?_
 refine yf ?_ ?_ ?_ ?_
 exact (yg (zE hr))
 exact (zf 1)
 exact (zf 2)
 exact fun _ _=>rfl
 exact zm
 refine zt ?_
 refine zlu 2 zlt ?_ zbB.nd
 exact zo
 refine zt ?_
 refine zD ?_
 exact (zf 1)
theorem zpa:FnScope ["value"] ["value"] (zw zc9):=⟨rfl,rfl,rfl,by decide +kernel,rfl,by decide +kernel,by decide +kernel⟩
def zgB:zc->Mo Fl :=
  (zC (zl ye (ze (zl zbC (ze (zd 0) zj)) zj)))
def zbD:List PV->Mo PV:=zB 1 1 (zgB)
theorem zpb (T:Txt w K mg):FOk P w K mg base "parts" 3 zbD:=T.f_parts.ok (k:=2) zpa fun f cdv A outer s H E hr =>
  by
 refine zt ?_
 refine zD ?_
 refine zM y0 T.b_len yY ?_
 refine zh ?_ ?_
 refine zN (zo9 T) (hr.mono (by decide)) zG ?_
 refine zh ?_ ?_
 exact (zf 0)
 exact zm
 exact zm
theorem zdt:FnScope ["self", "values", "tell", "told"] ["self", "values"] (zw zda):=⟨rfl,rfl,rfl,by decide +kernel,rfl,by decide +kernel,by decide +kernel⟩
def zdu:zc->Mo Fl :=
  (zC (zd 3))
def zdv:zc->Mo Fl :=
  zq (zH (mB (zg oGt (zl zbD (ze (zd 3) zj)) (mC (.int 60))))
  (jn "Fault" "word" (mC (.str "large")))
  zJ) (zdu)
def zbE:zc->Mo Fl :=
  zq (zU 3 (zcj zay (zd 2) (ze (zd 1) zj))) (zdv)
def zbF:zc->Mo Fl :=
  zq (zU 2 (zg zI (z0 (kdAt yT y3) (z0 (fldAt "word" insOf excOf) (zd 0))) (mC (.int 1)))) (zbE)
def zbG:zc->Mo Fl :=
  zq (w9 (zl zby (ze (zg zI (z0 (kdAt yT y3) (z0 (fldAt "word" insOf excOf) (zd 0))) (mC (.int 0))) (ze (zd 1) zj)))) (zbF)
def m_Op_answer:List PV->Mo PV:=zB 2 4 (zbG)
theorem zpc (T:Txt w K mg):MOk P w K mg base "Op" "answer" 5 m_Op_answer:=T.m_Op_answer.ok (k:=4) zdt fun f cdv A outer s H E hr =>
  by
 refine zx ?_ ?_
 refine ze3 ?_
 refine zN (zoU T) (hr.mono (by decide)) zG ?_
 refine zh ?_ ?_
 refine yf ?_ ?_ ?_ ?_
 exact (yg (zE hr))
 refine zco (T.kd_OPS _ rfl rfl rfl) ?_
 refine je T.d_word ?_
 exact (zf 0)
 exact zo
 exact fun _ _=>rfl
 refine zh ?_ ?_
 exact (zf 1)
 exact zm
 refine zx ?_ ?_
 refine yi 2 ?_ ?_
 refine yf ?_ ?_ ?_ ?_
 exact (yg (zE hr))
 refine zco (T.kd_OPS _ rfl rfl rfl) ?_
 refine je T.d_word ?_
 exact (zf 0)
 exact zo
 exact fun _ _=>rfl
 exact zdt.nd
 refine zx ?_ ?_
 refine yi 3 ?_ ?_
 refine zlj (fun y m h=>zo6 T h) ?_ (hr.mono (by decide)) zG ?_
 exact (zf 2)
 refine zh ?_ ?_
 exact (zf 1)
 exact zm
 exact zdt.nd
 refine zx ?_ ?_
 refine zQ ?_ ?_ ?_
 refine ya zk6 ?_ ?_
 refine zN (zpb T) (hr.mono (by decide)) zG ?_
 refine zh ?_ ?_
 exact (zf 3)
 exact zm
 exact (zlU T.c_MOST_PARTS)
 refine zt ?_
 refine j3 (wH T) ?_ (hr.mono (by decide)) zG rfl
 exact yh
 exact zP
 refine zt ?_
 refine zD ?_
 exact (zf 3)
def jJ (c:Str):Option (List PV->Mo PV):=if c = "Op" then some m_Op_answer else none
theorem zpd (T:Txt w K mg) {c:Str} {m:List PV->Mo PV} (h:jJ c=some m):MOk P w K mg base c "answer" 5 m:=by
 unfold jJ at h
 by_cases e0:c = "Op"
 ·rw [if_pos e0] at h;cases h;rw [e0];exact (zpc T).mono (by decide)
 rw [if_neg e0] at h
 cases h
theorem zgC:FnScope ["_law_found", "_law_value"] ["_law_found", "_law_value"] (zw zal):=⟨rfl,rfl,rfl,by decide +kernel,rfl,by decide +kernel,by decide +kernel⟩
def zpe (mr:List PV->Mo PV):zc->Mo Fl :=
  (zC (mC (.bl false)))
def zpf (mr:List PV->Mo PV):zc->Mo Fl :=
  zq (zH (mB (zl (zK isT) (ze (zd 1) (ze (mC (.ty "dict")) zj))))
  (zC (zl zaj (ze (zcL (zd 1) (zl mr (ze (zd 1) (ze (zd 0) zj)))) zj)))
  zJ) (zpe mr)
def zpg (mr:List PV->Mo PV):zc->Mo Fl :=
  zq (zH (mB (zl (zK isT) (ze (zd 1) (ze (mC (.ty "tuple")) zj))))
  (zq (zH (yV (mB (zl (zK isT) (ze (zd 0) (ze (mC (.ty "tuple")) zj)))) (yV (mB (zg jm (zl ye (ze (zd 0) zj)) (zl ye (ze (zd 1) zj)))) (mB (zg jE (zd 0) (yJ (zd 1) (pSome (zg ja (zl ye (ze (zd 1) zj)) (zl ye (ze (zd 0) zj)))) pNone)))))
  (zC (mC (.bl true)))
  zJ)
  (zC (zl zaj (ze (jq (za8 (zd 1)) (zl mr (ze (zd 1) (ze (zd 0) zj)))) zj))))
  zJ) (zpf mr)
def zgD (mr:List PV->Mo PV):zc->Mo Fl :=
  zq (zH (mB (zl (zK isT) (ze (zd 1) (ze (mC (.ty "int")) zj))))
  (zC (jN oLe jm (mC (.int 0)) (zd 0) (zd 1)))
  zJ) (zpg mr)
def zph (mr:List PV->Mo PV):zc->Mo Fl :=
  zq (zH (mB (zg jE (zd 0) (zd 1)))
  (zC (mC (.bl true)))
  zJ) (zgD mr)
def zpi (mr:List PV->Mo PV):zc->Mo Fl :=
  zq (zH (yu (mB (zl (zK isT) (ze (zd 0) (ze (mC (.ty "bool")) zj)))) (yV (mB (zl (zK isT) (ze (zd 1) (ze (mC (.ty "int")) zj)))) (yE (mB (zl (zK isT) (ze (zd 0) (ze (mC (.ty "int")) zj)))))))
  (zC (mC (.bl false)))
  zJ) (zph mr)
def jv (mr:List PV->Mo PV):List PV->Mo PV:=zB 2 2 (zpi mr)
theorem zpj (T:Txt w K mg) {k:Nat} (hk:1<=k) {mr:List PV->Mo PV} (hmr:FOk P w K mg base "_law_piece" k mr):FOk P w K mg base "_law_piece" (k+1) (jv mr):=T.f__law_piece.ok (k:=k+0) zgC fun f cdv A outer s H E hr =>
  by
 refine zx ?_ ?_
 refine zQ ?_ ?_ ?_
 refine y9 ?_
 refine yP ?_ ?_
 refine z9 ?_
 refine zM (yc T.is) T.b_isinstance yd ?_
 refine zh ?_ ?_
 exact (zf 0)
 refine zh ?_ ?_
 exact (yD T.b_bool zcp)
 exact zm
 refine jO ?_
 refine y9 ?_
 refine zaY ?_ ?_
 refine z9 ?_
 refine zM (yc T.is) T.b_isinstance yd ?_
 refine zh ?_ ?_
 exact (zf 1)
 refine zh ?_ ?_
 exact (yD T.b_int zac)
 exact zm
 refine zca ?_
 refine jz ?_
 refine z9 ?_
 refine zM (yc T.is) T.b_isinstance yd ?_
 refine zh ?_ ?_
 exact (zf 0)
 refine zh ?_ ?_
 exact (yD T.b_int zac)
 exact zm
 refine zt ?_
 refine zD ?_
 exact yU
 exact zP
 refine zx ?_ ?_
 refine zQ ?_ ?_ ?_
 refine ya (zcE (zE hr)) ?_ ?_
 exact (zf 0)
 exact (zf 1)
 refine zt ?_
 refine zD ?_
 exact yU
 exact zP
 refine zx ?_ ?_
 refine zQ ?_ ?_ ?_
 refine z9 ?_
 refine zM (yc T.is) T.b_isinstance yd ?_
 refine zh ?_ ?_
 exact (zf 1)
 refine zh ?_ ?_
 exact (yD T.b_int zac)
 exact zm
 refine zt ?_
 refine zD ?_
 refine zkW zeR wu ?_ ?_ ?_
 exact zo
 exact (zf 0)
 exact (zf 1)
 exact zP
 refine zx ?_ ?_
 refine zQ ?_ ?_ ?_
 refine z9 ?_
 refine zM (yc T.is) T.b_isinstance yd ?_
 refine zh ?_ ?_
 exact (zf 1)
 refine zh ?_ ?_
 exact (yD T.b_tuple wz)
 exact zm
 refine zx ?_ ?_
 refine zQ ?_ ?_ ?_
 refine y9 ?_
 refine zaY ?_ ?_
 refine z9 ?_
 refine zM (yc T.is) T.b_isinstance yd ?_
 refine zh ?_ ?_
 exact (zf 0)
 refine zh ?_ ?_
 exact (yD T.b_tuple wz)
 exact zm
 refine zaY ?_ ?_
 refine ya wu ?_ ?_
 refine zM y0 T.b_len yY ?_
 refine zh ?_ ?_
 exact (zf 0)
 exact zm
 refine zM y0 T.b_len yY ?_
 refine zh ?_ ?_
 exact (zf 1)
 exact zm
 refine zca ?_
 refine ya (zcE (zE hr)) ?_ ?_
 exact (zf 0)
 refine jd ?_ ?_ ?_
 exact (zf 1)
 refine jc ?_
 refine zy wt ?_ ?_
 refine zM y0 T.b_len yY ?_
 refine zh ?_ ?_
 exact (zf 1)
 exact zm
 refine zM y0 T.b_len yY ?_
 refine zh ?_ ?_
 exact (zf 0)
 exact zm
 exact jb
 refine zt ?_
 refine zD ?_
 exact yU
 exact zP
 refine zt ?_
 refine zD ?_
 refine zM (zfZ rfl) T.b_any zf0 ?_
 refine zh ?_ ?_
 refine zfv (N:=["_law_found", "_law_value"]) rfl (by exact ⟨rfl,by decide +kernel,by decide +kernel,rfl,by show ∀y:Str×NameKind,y∈_->y.2=NameKind.free->List.lookup y.1 (zw zal).names=some NameKind.cell;decide +kernel⟩) rfl (by decide +kernel) ?_ ?_
 refine ze7 ?_
 exact (zf 1)
 intro _ _ _ _ _
 refine zN hmr (hr.mono (by omega)) zag ?_
 refine zh ?_ ?_
 exact (zf 1)
 refine zh ?_ ?_
 exact (zf 0)
 exact zm
 exact zm
 exact zP
 refine zx ?_ ?_
 refine zQ ?_ ?_ ?_
 refine z9 ?_
 refine zM (yc T.is) T.b_isinstance yd ?_
 refine zh ?_ ?_
 exact (zf 1)
 refine zh ?_ ?_
 exact (yD T.b_dict zcq)
 exact zm
 refine zt ?_
 refine zD ?_
 refine zM (zfZ rfl) T.b_any zf0 ?_
 refine zh ?_ ?_
 refine znO (N:=["_law_found", "_law_value"]) rfl (by exact ⟨rfl,by decide +kernel,by decide +kernel,rfl,by show ∀y:Str×NameKind,y∈_->y.2=NameKind.free->List.lookup y.1 (zw zal).names=some NameKind.cell;decide +kernel⟩) rfl (by decide +kernel) ?_ ?_
 exact (zf 1)
 intro _ _ _ _ _
 refine zN hmr (hr.mono (by omega)) zag ?_
 refine zh ?_ ?_
 exact (zf 1)
 refine zh ?_ ?_
 exact (zf 0)
 exact zm
 exact zm
 exact zP
 refine zt ?_
 refine zD ?_
 exact yU
def yz:Nat->List PV->Mo PV
 | 0=>zB 2 2 ze8
 | n+1=>jv (yz n)
theorem zgE (T:Txt w K mg):∀n,FOk P w K mg base "_law_piece" (1+1+1*n) (yz n)
 | 0=>T.f__law_piece.ok (k:=1) zgC fun f cdv A outer s H E hr=>zm5
 | n+1=>(zpj T (by omega) (zgE T n)).mono (by omega)
theorem zaA:FnScope ["_law_op", "_law_values_here", "_law_found", "_law_caught", "_law_e"] ["_law_op", "_law_values_here"] (zw zdb):=⟨rfl,rfl,rfl,by decide +kernel,rfl,by decide +kernel,by decide +kernel⟩
def zpk:zc->Mo Fl :=
  (zC (zl (yz 6) (ze (zd 2) (ze (zg zI (zd 1) (mC (.int 0))) zj))))
def zpl:zc->Mo Fl :=
  zq (zH (mB (zg zbj (zd 3) (mC .non)))
  (zC (zg (yk false) (zd 3) (yQ (j6 ["low", "empty", "place", "field"]))))
  zJ) (zpk)
def zpm:zc->Mo Fl :=
  zq (j4 2 4 "Fault" (xMeth "answer" jJ (zd 0) (ze (zd 1) zj))
  (zU 3 (z0 (fldAt "word" insOf excOf) (zd 4)))) (zpl)
def zpn:zc->Mo Fl :=
  zq (zU 3 (mC .non)) (zpm)
def zpo:zc->Mo Fl :=
  zq (zU 2 (mC .non)) (zpn)
def wN:List PV->Mo PV:=zB 2 5 (zpo)
theorem zgF (T:Txt w K mg):FOk P w K mg base "_law_falls" 9 wN:=T.f__law_falls.ok (k:=8) zaA fun f cdv A outer s H E hr =>
  by
 refine zx ?_ ?_
 refine yi 2 ?_ ?_
 exact wo
 exact zaA.nd
 refine zx ?_ ?_
 refine yi 3 ?_ ?_
 exact wo
 exact zaA.nd
 refine zx ?_ ?_
 refine zlV 2 4 T.x_Fault.tr ?_ ?_ zaA.nd
 refine zlN (fun c m h=>zpd T h) ?_ (hr.mono (by decide)) ?_
 exact (zf 0)
 refine zh ?_ ?_
 exact (zf 1)
 exact zm
 intro _
 refine zt ?_
 refine yi 3 ?_ ?_
 refine je T.d_word ?_
 exact (zf 4)
 exact zaA.nd
 refine zx ?_ ?_
 refine zQ ?_ ?_ ?_
 refine ya zfG ?_ ?_
 exact (zf 3)
 exact wo
 refine zt ?_
 refine zD ?_
 refine jk (jR (zE hr)) ?_ ?_
 exact (zf 3)
 refine jA ?_
 refine zah ?_
 decide +kernel
 exact zP
 refine zt ?_
 refine zD ?_
 refine zN (zgE T 6) (hr.mono (by decide)) zG ?_
 refine zh ?_ ?_
 exact (zf 2)
 refine zh ?_ ?_
 refine yf ?_ ?_ ?_ ?_
 exact (yg (zE hr))
 exact (zf 1)
 exact zo
 exact fun _ _=>rfl
 exact zm
theorem wO:FnScope ["_law_script", "_law_word", "_law_falling", "_law_one", "_law_other", "_law_values_here"] ["_law_script"] (zw zbp):=⟨rfl,rfl,rfl,by decide +kernel,rfl,by decide +kernel,by decide +kernel⟩
def zpp:zc->Mo Fl :=
  (zC (jj (zl wJ (ze (zd 3) (ze (zd 1) zj))) (jj (zl wJ (ze (zl y6 (ze (zd 1) zj)) (ze (zd 1) zj))) (zl wN (ze (zl y6 (ze (zd 2) zj)) (ze (zd 5) zj))))))
def zpq:zc->Mo Fl :=
  zq (zH (yu (yE (mB (zl wN (ze (zd 4) (ze (zd 5) zj))))) (mB (zg zak (zd 5) (zl zar (ze (zd 0) (ze (zd 2) zj))))))
  (zC (mC (.bl false)))
  zJ) (zpp)
def zpr:zc->Mo Fl :=
  zq (zU 5 (zl zar (ze (zd 0) (ze (zd 2) zj)))) (zpq)
def zps:zc->Mo Fl :=
  zq (zH (yE (mB (zl zdj (ze (zl zbx (ze (zd 0) zj)) zj))))
  (zC (mC (.bl false)))
  zJ) (zpr)
def zpt:zc->Mo Fl :=
  zq (zH (yu (yE (mB (zl wJ (ze (zd 3) (ze (zd 1) zj))))) (yE (mB (zl wJ (ze (zd 4) (ze (zd 2) zj))))))
  (zC (mC (.bl false)))
  zJ) (zps)
def zpu:zc->Mo Fl :=
  zq (zU 4 (zl y6 (ze (zd 2) zj))) (zpt)
def zpv:zc->Mo Fl :=
  zq (zU 3 (zl y6 (ze (zd 1) zj))) (zpu)
def zpw:zc->Mo Fl :=
  zq (zU 2 (zg zI (zl wI zj) (zg zZ (mC (.int 12)) (zg zL (zl yp (ze (zd 0) (ze (mC (.int 1)) zj))) (mC (.int 5)))))) (zpv)
def zpx:zc->Mo Fl :=
  zq (zU 1 (zg zI (zl wI zj) (zg zL (zl yp (ze (zd 0) (ze (mC (.int 0)) zj))) (mC (.int 17))))) (zpw)
def zgG:List PV->Mo PV:=zB 1 6 (zpx)
theorem zpy (T:Txt w K mg) {f:Addr} {fd:FuncData} (F:Fun K "law" "law" zbp f fd):FnOk P w K mg base (CXe P w) 10 f fd ["_law_script"] (spM K mg zgG):=zbb (k:=9) F wO fun cdv A outer s H E hr =>
  by
 refine zx ?_ ?_
 refine yi 1 ?_ ?_
 refine yf ?_ ?_ ?_ ?_
 exact (yg (zE hr))
 exact (za4 (zbr T) (hr.mono (by decide)) zG)
 refine zy yb ?_ ?_
 refine zN (y4 T) (hr.mono (by decide)) zG ?_
 refine zh ?_ ?_
 exact (zf 0)
 refine zh ?_ ?_
 exact zo
 exact zm
 exact zo
 exact fun _ _=>rfl
 exact wO.nd
 refine zx ?_ ?_
 refine yi 2 ?_ ?_
 refine yf ?_ ?_ ?_ ?_
 exact (yg (zE hr))
 exact (za4 (zbr T) (hr.mono (by decide)) zG)
 refine zy yw ?_ ?_
 exact zo
 refine zy yb ?_ ?_
 refine zN (y4 T) (hr.mono (by decide)) zG ?_
 refine zh ?_ ?_
 exact (zf 0)
 refine zh ?_ ?_
 exact zo
 exact zm
 exact zo
 exact fun _ _=>rfl
 exact wO.nd
 refine zx ?_ ?_
 refine yi 3 ?_ ?_
 refine zN (zam T) (hr.mono (by decide)) zG ?_
 refine zh ?_ ?_
 exact (zf 1)
 exact zm
 exact wO.nd
 refine zx ?_ ?_
 refine yi 4 ?_ ?_
 refine zN (zam T) (hr.mono (by decide)) zG ?_
 refine zh ?_ ?_
 exact (zf 2)
 exact zm
 exact wO.nd
 refine zx ?_ ?_
 refine zQ ?_ ?_ ?_
 refine y9 ?_
 refine yP ?_ ?_
 refine jz ?_
 refine z9 ?_
 refine zN (zbv T) (hr.mono (by decide)) zG ?_
 refine zh ?_ ?_
 exact (zf 3)
 refine zh ?_ ?_
 exact (zf 1)
 exact zm
 refine jO ?_
 refine jz ?_
 refine z9 ?_
 refine zN (zbv T) (hr.mono (by decide)) zG ?_
 refine zh ?_ ?_
 exact (zf 4)
 refine zh ?_ ?_
 exact (zf 2)
 exact zm
 refine zt ?_
 refine zD ?_
 exact yU
 exact zP
 refine zx ?_ ?_
 refine zQ ?_ ?_ ?_
 refine jz ?_
 refine z9 ?_
 refine zN (zox T) (hr.mono (by decide)) zG ?_
 refine zh ?_ ?_
 refine zN (zoG T) (hr.mono (by decide)) zG ?_
 refine zh ?_ ?_
 exact (zf 0)
 exact zm
 exact zm
 refine zt ?_
 refine zD ?_
 exact yU
 exact zP
 refine zx ?_ ?_
 refine yi 5 ?_ ?_
 refine zN (zgj T) (hr.mono (by decide)) zG ?_
 refine zh ?_ ?_
 exact (zf 0)
 refine zh ?_ ?_
 exact (zf 2)
 exact zm
 exact wO.nd
 refine zx ?_ ?_
 refine zQ ?_ ?_ ?_
 refine y9 ?_
 refine yP ?_ ?_
 refine jz ?_
 refine z9 ?_
 refine zN (zgF T) (hr.mono (by decide)) zG ?_
 refine zh ?_ ?_
 exact (zf 4)
 refine zh ?_ ?_
 exact (zf 5)
 exact zm
 refine jO ?_
 refine ya (znW (zE hr)) ?_ ?_
 exact (zf 5)
 refine zN (zgj T) (hr.mono (by decide)) zG ?_
 refine zh ?_ ?_
 exact (zf 0)
 refine zh ?_ ?_
 exact (zf 2)
 exact zm
 refine zt ?_
 refine zD ?_
 exact yU
 exact zP
 refine zt ?_
 refine zD ?_
 refine j0 ?_ ?_
 refine zN (zbv T) (hr.mono (by decide)) zG ?_
 refine zh ?_ ?_
 exact (zf 3)
 refine zh ?_ ?_
 exact (zf 1)
 exact zm
 refine j0 ?_ ?_
 refine zN (zbv T) (hr.mono (by decide)) zG ?_
 refine zh ?_ ?_
 refine zN (zam T) (hr.mono (by decide)) zG ?_
 refine zh ?_ ?_
 exact (zf 1)
 exact zm
 refine zh ?_ ?_
 exact (zf 1)
 exact zm
 refine wZ ?_
 refine zN (zgF T) (hr.mono (by decide)) zG ?_
 refine zh ?_ ?_
 refine zN (zam T) (hr.mono (by decide)) zG ?_
 refine zh ?_ ?_
 exact (zf 2)
 exact zm
 refine zh ?_ ?_
 exact (zf 5)
 exact zm
end
theorem zgH (i j:Int) (h:0<j):zO i j=i%j:=by unfold zO;rw [if_pos h]
inductive Tr where
 | num (i:Int)|word (z:Str)|row (ts:List Tr)|rec_ (ks:List Str) (ts:List Tr)
mutual
def sz:Tr->Nat
 | .num _=>1
 | .word _=>1
 | .row ts=>1+szs ts
 | .rec_ _ ts=>1+szs ts
def szs:List Tr->Nat
 | []=>0
 | t::ts=>sz t+szs ts
end
mutual
def dp:Tr->Nat
 | .num _=>0
 | .word _=>0
 | .row ts=>1+dps ts
 | .rec_ _ ts=>1+dps ts
def dps:List Tr->Nat
 | []=>0
 | t::ts=>max (dp t) (dps ts)
end
mutual
def TR (st:Sto):Tr->PV->Prop
 | .num i,v=>v=.int i
 | .word z,v=>v=.str z/\z.length<=1000
 | .row ts,v=>∃xs,v=.tup xs/\TRs st ts xs
 | .rec_ ks ts,v=>∃n xs,v=.ref n/\st[n]?=some (.dic ks xs)/\ks.Nodup/\ks.length=xs.length/\TRs st ts xs/\∀k∈ks,k.length<=1000
def TRs (st:Sto):List Tr->List PV->Prop
 | [],xs=>xs=[]
 | t::ts,xs=>∃x r,xs=x::r/\TR st t x/\TRs st ts r
end
def Dk (a b:Sto):Prop:=∀(n:Nat) (ks:List Str) (xs:List PV),a[n]?=some (SO.dic ks xs)->b[n]?=some (SO.dic ks xs)
theorem Dk.refl (a:Sto):Dk a a:=fun _ _ _ e=>e
theorem Dk.trans {a b c:Sto}(h:Dk a b) (h':Dk b c):Dk a c:=fun n ks xs e=>h' n ks xs (h n ks xs e)
theorem zpz {a b:Sto}(h:Pre a b):Dk a b:=fun n ks xs e=>h.get e
theorem zdw (a d:Sto):Dk a (a++d):=zpz (Pre.of a d)
theorem zpA {a:Sto}{n:Nat}{xs ys:List PV}(h:a[n]?=some (.lst xs)):Dk a (a.set n (.lst ys)):=fun m ks zs e=>by
 have ne:n≠m:=fun z=>by subst z;rw [h] at e;cases e
 rw [List.getElem?_set_ne ne];exact e
mutual
theorem TR.mono {a b:Sto}(d:Dk a b):∀(t:Tr) {v:PV},TR a t v->TR b t v
 | .num _,_,h=>h
 | .word _,_,h=>h
 | .row ts,_,h=>by obtain ⟨xs,e,r⟩:=h;exact ⟨xs,e,TRs.mono d ts r⟩
 | .rec_ ks ts,_,h=>by obtain ⟨n,xs,e,h1,h2,h3,r,h4⟩:=h;exact ⟨n,xs,e,d _ _ _ h1,h2,h3,TRs.mono d ts r,h4⟩
theorem TRs.mono {a b:Sto}(d:Dk a b):∀(ts:List Tr) {xs:List PV},TRs a ts xs->TRs b ts xs
 | [],_,h=>h
 | t::ts,_,h=>by obtain ⟨x,r,e,h1,h2⟩:=h;exact ⟨x,r,e,TR.mono d t h1,TRs.mono d ts h2⟩
end
theorem TRs.len {st:Sto}:∀{ts:List Tr}{xs:List PV},TRs st ts xs->ts.length=xs.length
 | [],_,h=>by cases h;rfl
 | t::ts,_,h=>by obtain ⟨x,r,rfl,_,h2⟩:=h;simp [TRs.len h2]
theorem TRs.get {st:Sto}:∀{ts:List Tr}{xs:List PV}{i:Nat}{x:PV},TRs st ts xs->xs[i]?=some x->∃t,ts[i]?=some t/\TR st t x
 | [],_,_,_,h,e=>by cases h;simp at e
 | t::ts,_,0,x,h,e=>by obtain ⟨y,r,rfl,h1,_⟩:=h;simp at e;subst e;exact ⟨t,by simp,h1⟩
 | t::ts,_,i+1,x,h,e=>by obtain ⟨y,r,rfl,_,h2⟩:=h;simp at e;simpa using TRs.get h2 e
theorem TRs.append {st:Sto}:∀{ts us:List Tr}{xs ys:List PV},TRs st ts xs->TRs st us ys->TRs st (ts++us) (xs++ys)
 | [],_,_,_,h,h'=>by cases h;exact h'
 | t::ts,_,_,_,h,h'=>by obtain ⟨y,r,rfl,h1,h2⟩:=h;exact ⟨y,r++_,rfl,h1,TRs.append h2 h'⟩
theorem TRs.take {st:Sto}:∀{ts:List Tr}{xs:List PV}(n:Nat),TRs st ts xs->TRs st (ts.take n) (xs.take n)
 | [],_,n,h=>by cases h;simp [TRs]
 | t::ts,_,0,h=>by simp [TRs]
 | t::ts,_,n+1,h=>by obtain ⟨y,r,rfl,h1,h2⟩:=h;exact ⟨y,_,rfl,h1,TRs.take n h2⟩
theorem TRs.drop {st:Sto}:∀{ts:List Tr}{xs:List PV}(n:Nat),TRs st ts xs->TRs st (ts.drop n) (xs.drop n)
 | [],_,n,h=>by cases h;simp [TRs]
 | t::ts,_,0,h=>h
 | t::ts,_,n+1,h=>by obtain ⟨y,r,rfl,h1,h2⟩:=h;exact TRs.drop n h2
theorem zgI:∀a b:List Tr,szs (a++b)=szs a+szs b
 | [],b=>by simp [szs]
 | t::a,b=>by simp only [List.cons_append,szs,zgI a b];omega
mutual
theorem zpB:∀t:Tr,0<sz t
 | .num _=>by simp [sz]
 | .word _=>by simp [sz]
 | .row ts=>by simp only [sz];omega
 | .rec_ _ ts=>by simp only [sz];omega
end
mutual
theorem zpC:∀t:Tr,dp t<=sz t
 | .num _=>by simp [sz,dp]
 | .word _=>by simp [sz,dp]
 | .row ts=>by have:=dps_szs ts;simp only [sz,dp];omega
 | .rec_ _ ts=>by have:=dps_szs ts;simp only [sz,dp];omega
theorem dps_szs:∀ts:List Tr,dps ts<=szs ts
 | []=>by simp [szs,dps]
 | t::ts=>by have:=zpC t;have:=dps_szs ts;simp only [szs,dps];omega
end
theorem zdx {st:Sto}{z:Str}:∀{ks:List Str}{ts:List Tr}{xs:List PV}{y:PV},TRs st ts xs->(ks.zip xs).lookup z=some y->∃t,(ks.zip ts).lookup z=some t/\TR st t y
 | [],_,_,_,_,h=>by simp at h
 | k::ks,[],_,_,r,h=>by cases r;simp at h
 | k::ks,t::ts,_,y,r,h=>by
  obtain ⟨x,r',rfl,h1,h2⟩:=r
  simp only [List.zip_cons_cons,List.lookup_cons] at h ⊢
  split at h
  ·cases h;exact ⟨t,rfl,h1⟩
  ·exact zdx h2 h
theorem zgJ {st:Sto}{z:Str}:∀{ks:List Str}{ts:List Tr}{xs:List PV},TRs st ts xs->(ks.zip xs).lookup z=none->(ks.zip ts).lookup z=none
 | [],_,_,_,h=>by simp
 | k::ks,[],_,r,h=>by simp
 | k::ks,t::ts,_,r,h=>by
  obtain ⟨x,r',rfl,h1,h2⟩:=r
  simp only [List.zip_cons_cons,List.lookup_cons] at h ⊢
  split at h
  ·cases h
  ·exact zgJ h2 h
theorem zdy {st:Sto}{f:PV->PV->Option Bool}:∀(ts ts':List Tr) {xs ys:List PV},(∀t∈ts,∀t' v w,TR st t v->TR st t' w->∃b,f v w=some b/\(t=t'->b=true))->TRs st ts xs->TRs st ts' ys->∃b,allE f xs ys=some b/\(ts=ts'->b=true)
 | [],[],_,_,_,h,h'=>by cases h;cases h';exact ⟨true,rfl,fun _=>rfl⟩
 | [],t'::ts',_,_,_,h,h'=>by cases h;obtain ⟨y,r,rfl,_⟩:=h';exact ⟨false,rfl,fun e=>nomatch e⟩
 | t::ts,[],_,_,_,h,h'=>by cases h';obtain ⟨y,r,rfl,_⟩:=h;exact ⟨false,rfl,fun e=>nomatch e⟩
 | t::ts,t'::ts',_,_,hf,h,h'=>by
  obtain ⟨x,r,rfl,h1,h2⟩:=h
  obtain ⟨y,r',rfl,h3,h4⟩:=h'
  obtain ⟨a,ea,ha⟩:=hf t (List.mem_cons_self ..) t' x y h1 h3
  obtain ⟨b,eb,hb⟩:=zdy ts ts' (fun u hu=>hf u (List.mem_cons_of_mem _ hu)) h2 h4
  refine ⟨a&&b,by simp only [allE,ea,eb],fun e=>?_⟩
  injection e with e1 e2
  rw [ha e1,hb e2];rfl
theorem zgK {st:Sto}{f:PV->PV->Option Bool}{ks':List Str}{ts':List Tr}{xs':List PV}(r':TRs st ts' xs'):∀(ks:List Str) (ts:List Tr) {xs:List PV},(∀t∈ts,∀t' v w,TR st t v->TR st t' w->∃b,f v w=some b/\(t=t'->b=true))->TRs st ts xs ->
  ∃b,hitsE f ks' xs' ks xs=some b/\((∀k t,(k,t)∈ks.zip ts->(ks'.zip ts').lookup k=some t)->b=true)
 | [],ts,xs,_,_=>⟨true,by cases xs<;>rfl,fun _=>rfl⟩
 | k::ks,[],_,_,h=>by cases h;exact ⟨true,rfl,fun _=>rfl⟩
 | k::ks,t::ts,_,hf,h=>by
  obtain ⟨x,r,rfl,h1,h2⟩:=h
  obtain ⟨b,eb,hb⟩:=zgK (ks':=ks') r' ks ts (fun u hu=>hf u (List.mem_cons_of_mem _ hu)) h2
  cases hl:(ks'.zip xs').lookup k with
  | none =>
   refine ⟨false,by simp only [hitsE,hl],fun e=>?_⟩
   have:=e k t (by simp)
   rw [zgJ r' hl] at this
   cases this
  | some y =>
   obtain ⟨t',e1,e2⟩:=zdx r' hl
   obtain ⟨a,ea,ha⟩:=hf t (List.mem_cons_self ..) t' x y h1 e2
   refine ⟨a&&b,by simp only [hitsE,hl,ea,eb],fun e=>?_⟩
   have:=e k t (by simp)
   rw [e1] at this
   cases this
   rw [ha rfl,hb fun k' t'' hm=>e k' t'' (by simp [hm])];rfl
theorem zgL {α:Type}:∀{ks:List Str}{xs:List α},ks.Nodup->∀k x,(k,x)∈ks.zip xs->(ks.zip xs).lookup k=some x
 | [],_,_,k,x,h=>by simp at h
 | _::_,[],_,k,x,h=>by simp at h
 | k0::ks,x0::xs,nd,k,x,h=>by
  rw [List.nodup_cons] at nd
  rw [List.zip_cons_cons] at h ⊢
  rcases List.mem_cons.mp h with e|h'
  ·cases e;simp [List.lookup_cons]
  ·have hk:k∈ks:=(List.of_mem_zip h').1
   have ne:(k==k0)=false:=by
    simp only [beq_eq_false_iff_ne]
    intro e;subst e;exact nd.1 hk
   rw [List.lookup_cons,ne]
   exact zgL nd.2 k x h'
theorem zdz:∀{ts:List Tr}{t:Tr},t∈ts->dp t<=dps ts
 | u::ts,t,h=>by
  rcases List.mem_cons.mp h with rfl|h
  ·simp only [dps];omega
  ·have:=zdz h;simp only [dps];omega
theorem zgM {st:Sto}:∀(n:Nat) (t t':Tr) (v w:PV),dp t<n->TR st t v->TR st t' w->∃b,eqT st n v w=some b/\(t=t'->b=true):=by
 intro n
 induction n with
 | zero=>intro t t' v w h;omega
 | succ n ih =>
  intro t t' v w hd h h'
  cases t with
  | num i =>
   cases h
   cases t' with
   | num j=>cases h';exact ⟨i==j,rfl,fun e=>by injection e with e;simp [e]⟩
   | word z=>obtain ⟨rfl,_⟩:=h';exact ⟨false,rfl,fun e=>nomatch e⟩
   | row ts=>obtain ⟨xs,rfl,_⟩:=h';exact ⟨false,rfl,fun e=>nomatch e⟩
   | rec_ ks ts=>obtain ⟨m,xs,rfl,hm,_⟩:=h';exact ⟨false,by simp [eqT,kindN,hm,isDic,eqN],fun e=>nomatch e⟩
  | word z =>
   obtain ⟨rfl,_⟩:=h
   cases t' with
   | num j=>cases h';exact ⟨false,rfl,fun e=>nomatch e⟩
   | word z'=>obtain ⟨rfl,_⟩:=h';exact ⟨z==z',rfl,fun e=>by injection e with e;simp [e]⟩
   | row ts=>obtain ⟨xs,rfl,_⟩:=h';exact ⟨false,rfl,fun e=>nomatch e⟩
   | rec_ ks ts=>obtain ⟨m,xs,rfl,hm,_⟩:=h';exact ⟨false,by simp [eqT,kindN,hm,isDic,eqN],fun e=>nomatch e⟩
  | row ts =>
   obtain ⟨xs,rfl,hr⟩:=h
   cases t' with
   | num j=>cases h';exact ⟨false,rfl,fun e=>nomatch e⟩
   | word z'=>obtain ⟨rfl,_⟩:=h';exact ⟨false,rfl,fun e=>nomatch e⟩
   | row ts' =>
    obtain ⟨ys,rfl,hr'⟩:=h'
    simp only [dp] at hd
    obtain ⟨b,e,hb⟩:=zdy (f:=eqT st n) ts ts' (fun u hu t' v w=>ih u t' v w (by have:=zdz hu;omega)) hr hr'
    exact ⟨b,by simpa only [eqT] using e,fun e=>by injection e with e;exact hb e⟩
   | rec_ ks ts'=>obtain ⟨m,xs,rfl,hm,_⟩:=h';exact ⟨false,by simp [eqT,kindN,hm,isDic,eqN],fun e=>nomatch e⟩
  | rec_ ks ts =>
   obtain ⟨a,xs,rfl,ha,nd,hl,hr,_⟩:=h
   cases t' with
   | num j=>cases h';exact ⟨false,by simp [eqT,kindN,ha,isDic,eqN],fun e=>nomatch e⟩
   | word z'=>obtain ⟨rfl,_⟩:=h';exact ⟨false,by simp [eqT,kindN,ha,isDic,eqN],fun e=>nomatch e⟩
   | row ts'=>obtain ⟨ys,rfl,hr'⟩:=h';exact ⟨false,by simp [eqT,kindN,ha,isDic,eqN],fun e=>nomatch e⟩
   | rec_ ks' ts' =>
    obtain ⟨a',xs',rfl,ha',nd',hl',hr',_⟩:=h'
    simp only [dp] at hd
    obtain ⟨b,e,hb⟩:=zgK (f:=eqT st n) (ks':=ks') hr' ks ts (fun u hu t' v w=>ih u t' v w (by have:=zdz hu;omega)) hr
    by_cases hk:ks.length=ks'.length
    ·refine ⟨b,?_,fun e=>?_⟩
     ·simp only [eqT,ha,ha',eqDD]
      rw [if_pos ⟨nd,hl⟩,if_pos hk]
      exact e
     ·injection e with e1 e2
      subst e1;subst e2
      exact hb (zgL nd)
    ·refine ⟨false,?_,fun e=>?_⟩
     ·simp only [eqT,ha,ha',eqDD]
      rw [if_pos ⟨nd,hl⟩,if_neg hk]
     ·injection e with e1 e2
      subst e1
      exact absurd rfl hk
def ty:Tr->String
 | .num _ => "int"
 | .word _ => "str"
 | .row _ => "tuple"
 | .rec_ _ _ => "dict"
def kids:Tr->List Tr
 | .row ts=>ts
 | .rec_ _ ts=>ts
 | _=>[]
abbrev abc:Str := "abcdefghijklmnopqrstuvwxyz"
def isW (z:Str):Bool:=decide (1<=z.length)&&decide (z.length<=8)&&z.cps.toList.all fun c=>decide (c∈abc.cps.toList)
def ok:Tr->Bool
 | .num i=>decide (-1000000000000000000<i)&&decide (i<1000000000000000000)
 | .word z=>isW z
 | .row _=>true
 | .rec_ ks _=>ks.all isW
def oks:List Tr->Bool
 | []=>true
 | t::ts=>ok t&&oks ts
mutual
def okT:Tr->Bool
 | .num i=>ok (.num i)
 | .word z=>ok (.word z)
 | .row ts=>ok (.row ts)&&okTs ts
 | .rec_ ks ts=>ok (.rec_ ks ts)&&okTs ts
def okTs:List Tr->Bool
 | []=>true
 | t::ts=>okT t&&okTs ts
end
theorem zgN:∀a b:List Tr,oks (a++b)=(oks a&&oks b)
 | [],b=>by simp [oks]
 | t::a,b=>by simp only [List.cons_append,oks,zgN a b,Bool.and_assoc]
theorem zgO:∀a b:List Tr,okTs (a++b)=(okTs a&&okTs b)
 | [],b=>by simp [okTs]
 | t::a,b=>by simp only [List.cons_append,okTs,zgO a b,Bool.and_assoc]
theorem zpD (t:Tr):okT t=(ok t&&okTs (kids t)):=by
 cases t<;>simp [okT,kids,okTs]
theorem zpE (t:Tr):sz t=1+szs (kids t):=by
 cases t<;>simp [sz,kids,szs]
theorem zaB {st:Sto}{t:Tr}{v:PV}(h:TR st t v) (n:String):zK isT [v,.ty n] st=optB (tyb (ty t) n) st:=by
 cases t with
 | num i=>cases h;rfl
 | word z=>obtain ⟨rfl,_⟩:=h;rfl
 | row ts=>obtain ⟨xs,rfl,_⟩:=h;rfl
 | rec_ ks ts =>
  obtain ⟨m,xs,rfl,hm,_⟩:=h
  show isiA isT st (.ty n) (soCls st[m]?) st=_
  rw [hm]
  rfl
@[simp] theorem zq5 (b:Bool) (st:Sto):optB (some b) st=.ok (.bl b) st:=(rfl)
theorem t1:tyb "int" "str" = some false:=rfl
theorem t2:tyb "int" "tuple" = some false:=rfl
theorem t3:tyb "int" "dict" = some false:=rfl
theorem t4:tyb "int" "int" = some true:=rfl
theorem t5:tyb "str" "str" = some true:=rfl
theorem t6:tyb "str" "tuple" = some false:=rfl
theorem t7:tyb "str" "dict" = some false:=rfl
theorem t9:tyb "tuple" "str" = some false:=rfl
theorem t10:tyb "tuple" "tuple" = some true:=rfl
theorem t11:tyb "tuple" "dict" = some false:=rfl
theorem t13:tyb "dict" "str" = some false:=rfl
theorem t14:tyb "dict" "tuple" = some false:=rfl
theorem wP:tyb "dict" "dict" = some true:=rfl
theorem t17:tyb "int" "bool" = some false:=rfl
def kn:Tr->Str
 | .num _ => "number"
 | .word _ => "word"
 | .row _ => "row"
 | .rec_ _ _ => "record"
theorem zpF {st:Sto}{t:Tr}{v:PV}(h:TR st t v):zas [v] st=.ok (.str (kn t)) st:=by
 have e:=zaB h
 cases t<;>simp [zas,zB,zgn,zgm,zgl,zgk,e,ty,t1,t2,t3,t5,t9,t10,t13,t14,wP,kn]
theorem zpG {st:Sto}{n:Nat}{ks:List Str}{xs:List PV}(h:st[n]?=some (.dic ks xs)):zcF (.ref n) st=.ok (.ref st.length) (st++[.lst xs]):=by
 show yC st n _=_
 unfold yC
 rw [h]
theorem zpH {st:Sto}{t:Tr}{v:PV}(h:TR st t v):∃xs,jV [v] st=.ok (.ref st.length) (st++[.lst xs])/\TRs st (kids t) xs:=by
 have e:=zaB h
 cases t with
 | num i=>exact ⟨[],by simp [jV,zB,zaz,zbA,zds,e,ty,t2,t3],rfl⟩
 | word z=>exact ⟨[],by simp [jV,zB,zaz,zbA,zds,e,ty,t6,t7],rfl⟩
 | row ts=>obtain ⟨xs,rfl,hr⟩:=h;exact ⟨xs,by simp [jV,zB,zaz,e,ty,t10,wD,w8],hr⟩
 | rec_ ks ts=>obtain ⟨m,xs,rfl,hm,nd,hl,hr,_⟩:=h;exact ⟨xs,by simp [jV,zB,zaz,zbA,e,ty,t14,wP,zpG hm],hr⟩
theorem zdB:∀ts:List Tr,ts.length<=szs ts
 | []=>by simp [szs]
 | t::ts=>by have:=zpB t;have:=zdB ts;simp only [szs,List.length_cons];omega
abbrev tst:zc->Mo Bool:=(mB (zg jm (zd 2) (zl ye (ze (zd 1) zj))))
abbrev bdy:zc->Mo Fl:=(zq (w9 (zba za9 (zd 1) (zl jV (ze (zg zI (zd 1) (zd 2)) zj))))
  (zaa 2 ipAdd (mC (.int 1))))
def Old (a b:Sto):Prop:=∀(n:Nat) so,a[n]?=some so->b[n]?=some so
theorem Old.refl (a:Sto):Old a a:=fun _ _ e=>e
theorem Old.trans {a b c:Sto}(h:Old a b) (h':Old b c):Old a c:=fun n so e=>h' n so (h n so e)
theorem Old.dk {a b:Sto}(h:Old a b):Dk a b:=fun n ks xs e=>h n _ e
theorem zgR {a b:Sto}(h:Pre a b):Old a b:=fun n so e=>h.get e
theorem yn (a d:Sto):Old a (a++d):=zgR (Pre.of a d)
def Ob (r:Nat) (a b:Sto):Prop:=∀(n:Nat) so,n≠r->a[n]?=some so->b[n]?=some so
theorem Ob.trans {r:Nat}{a b c:Sto}(h:Ob r a b) (h':Ob r b c):Ob r a c:=fun n so ne e=>h' n so ne (h n so ne e)
theorem zpI {r:Nat}{a b:Sto}(h:Old a b):Ob r a b:=fun n so _ e=>h n so e
theorem zpJ (r:Nat) (a:Sto) (so:SO):Ob r a (a.set r so):=fun n s ne e=>by rw [List.getElem?_set_ne (Ne.symm ne)];exact e
theorem zpK (v:PV) (r:Nat):∀(m p fuel:Nat) (ts:List Tr) (xs:List PV) (st:Sto),st[r]?=some (.lst xs)->TRs st ts xs->p<=ts.length->szs (ts.drop p)=m->m<fuel->p+m<=100000 ->
  ∃ts' xs' st',whileF tst bdy fuel [some v,some (.ref r),some (.int p)] st=.ok (.nx [some v,some (.ref r),some (.int ts'.length)]) st'/\st'[r]?=some (.lst xs')/\TRs st' ts' xs'/\(Dk st st'/\Ob r st st')/\oks ts'=(oks (ts.take p)&&okTs (ts.drop p))/\ts'.length=p+m:=by
 intro m
 induction m using Nat.strongRecOn with
 | _ m ih =>
  intro p fuel ts xs st hr ht hp hm hf hb
  obtain ⟨f',rfl⟩:∃f',fuel=f'+1:=⟨fuel-1,by omega⟩
  have hlen:=ht.len
  by_cases he:p=ts.length
  ·subst he
   refine ⟨ts,xs,st,?_,hr,ht,⟨Dk.refl _,fun _ _ _ e=>e⟩,by simp [okTs],?_⟩
   ·rw [zfj]
    simp [zbl hr,hlen]
   ·rw [List.drop_length] at hm
    simp [szs] at hm
    omega
  ·have lt:p<ts.length:=by omega
   have lt2:p<xs.length:=by omega
   obtain ⟨t,et,hx⟩:=ht.get (List.getElem?_eq_getElem lt2)
   have hd:ts.drop p=t::ts.drop (p+1):=by
    rw [List.drop_eq_getElem_cons lt]
    have:=(List.getElem?_eq_some_iff.mp et).2
    rw [this]
   obtain ⟨ys,ey,hy⟩:=zpH hx
   have rl:r<st.length:=(List.getElem?_eq_some_iff.mp hr).1
   have hr1:(st++[SO.lst ys])[r]?=some (.lst xs):=(Pre.of st _).get hr
   have szt:=zpE t
   rw [hd] at hm
   simp only [szs] at hm
   have d1:Dk st (st++[SO.lst ys]):=zdw _ _
   have d2:Dk (st++[SO.lst ys]) ((st++[SO.lst ys]).set r (.lst (xs++ys))):=zpA hr1
   have d12:=d1.trans d2
   have lk:ys.length<=szs (kids t):=by rw [<-hy.len];exact zdB _
   have lx:xs.length<=p+m:=by
    have:=zdB (ts.drop p)
    rw [hd] at this
    simp only [szs,List.length_cons,List.length_drop] at this
    omega
   have hdrop:(ts++kids t).drop (p+1)=ts.drop (p+1)++kids t:=List.drop_append_of_le_length (by omega)
   have htake:(ts++kids t).take (p+1)=ts.take p++[t]:=by
    rw [List.take_append_of_le_length (by omega),<-List.take_append_getElem lt]
    have:=(List.getElem?_eq_some_iff.mp et).2
    rw [this]
   have hm':szs ((ts++kids t).drop (p+1))=m-1:=by rw [hdrop,zgI];omega
   have hset:((st++[SO.lst ys]).set r (SO.lst (xs++ys)))[r]?=some (SO.lst (xs++ys)):=by
    rw [List.getElem?_set_self]
    simp
    omega
   obtain ⟨ts',xs',st',e1,e2,e3,e4,e5,e6⟩:=ih (m-1) (by omega) (p+1) f' (ts++kids t) (xs++ys) ((st++[SO.lst ys]).set r (.lst (xs++ys))) hset ((ht.mono d12).append (hy.mono d12)) (by simp;omega) hm' (by omega) (by omega)
   refine ⟨ts',xs',st',?_,e2,e3,⟨d12.trans e4.1,((zpI (yn _ _)).trans (zpJ r _ _)).trans e4.2⟩,?_,by omega⟩
   ·rw [zfj]
    have hat:atI xs (p:Int)=some xs[p]:=by simp [atI,ixN,lt2]
    have hlim:xs.length+ys.length<=1000000:=by omega
    have top:(st++[SO.lst ys])[st.length]?=some (.lst ys):=yx _ _
    have ee:((p:Int)+1)=((p+1:Nat):Int):=by omega
    simp [zbl hr,yF hr,lt2,hat,ey,za9,yF hr1,yF top,hlim]
    rw [ee]
    exact e1
   ·rw [e5,htake,hdrop,hd,zgN,zgO]
    have:=zpD t
    simp only [oks,okTs,Bool.and_true,this]
    cases oks (ts.take p)<;>cases ok t<;>cases okTs (kids t)<;>cases okTs (ts.drop (p+1))<;>rfl
theorem zpL {st:Sto}{t:Tr}{v:PV}(h:TR st t v) (hs:sz t<=10000):∃r ts xs st',zbC [v] st=.ok (.ref r) st'/\st'[r]?=some (.lst xs)/\TRs st' ts xs/\Old st st'/\oks ts=okT t/\ts.length=sz t:=by
 obtain ⟨ts',xs',st',e1,e2,e3,e4,e5,e6⟩:=zpK v st.length (sz t) 0 lim [t] [v] (st++[.lst [v]]) (yx _ _) ⟨v,[],rfl,h.mono (zdw _ _),rfl⟩ (Nat.zero_le _) (by simp [szs]) (by show sz t<1000000;omega) (by omega)
 refine ⟨st.length,ts',xs',st',?_,e2,e3,fun n so e=>e4.2 n so (by have:=(List.getElem?_eq_some_iff.mp e).1;omega) (yn _ _ n so e),by simpa [oks,okTs] using e5,by omega⟩
 simp only [zbC,zB,zgA,zgz,zgy,zgx]
 simp
 have e1':zcn tst bdy [some v,some (.ref st.length),some (.int 0)] (st++[.lst [v]])=.ok (.nx [some v,some (.ref st.length),some (.int ts'.length)]) st':=e1
 simp [e1']
theorem atI_get {α:Type}{l:List α}{k:Nat}{x:α}(h:l[k]?=some x):atI l (k:Int)=some x:=by
 obtain ⟨h1,h2⟩:=List.getElem?_eq_some_iff.mp h
 simp [atI,ixN,h1,h2]
theorem yM {α:Type}(x:α) (r:List α):atI (x::r) 0=some x:=atI_get (k:=0) rfl
theorem wb {α:Type}(x y:α) (r:List α):atI (x::y::r) 1=some y:=atI_get (k:=1) rfl
def fits:List Str->List Tr->Bool
 | k::ks,t::ts=>(k == "any" || k==kn t)&&fits ks ts
 | _,_=>true
abbrev bdC:zc->Mo Fl:=(zH (yV (mB (zg yX (zd 2) (mC (.str "any")))) (mB (zg yX (zd 2) (zl zas (ze (zd 3) zj)))))
  (jn "Fault" "word" (mC (.str "kind")))
  zJ)
theorem zgS {st:Sto} (v0 v1:Option PV):∀(ks:List Str) (ts:List Tr) (xs:List PV) (v2 v3:Option PV),TRs st ts xs->ks.length=ts.length->∃v2' v3',forL (g2 2 3) bdC (jf (ks.map PV.str) xs) [v0,v1,v2,v3] st=if fits ks ts=true then .ok (.nx [v0,v1,v2',v3']) st else .err "Fault" ["word"] [.str "kind"] st
 | [],[],_,v2,v3,h,_=>⟨v2,v3,by cases h;simp [jf,forL,fits]⟩
 | k::ks,t::ts,_,v2,v3,h,hl=>by
  obtain ⟨x,r,rfl,h1,h2⟩:=h
  obtain ⟨v2',v3',e⟩:=zgS v0 v1 ks ts r (some (.str k)) (some x) h2 (by simpa using hl)
  refine ⟨v2',v3',?_⟩
  have kx:=zpF h1
  simp only [jf] at e
  simp only [jf,List.map_cons,List.zip_cons_cons]
  unfold forL
  by_cases ha:k = "any"
  ·subst ha
   simp [e,fits]
  ·by_cases hk:k=kn t
   ·have hk':(kn t==kn t)=true:=by simp
    subst hk
    simp [ha,kx,e,fits]
   ·simp [ha,kx,hk,fits]
theorem zgT {st:Sto} {ks:List Str} {ts:List Tr} {xs:List PV} (h:TRs st ts xs) (hl:ks.length=ts.length):zby [.tup (ks.map PV.str),.tup xs] st=if fits ks ts=true then .ok .non st else .err "Fault" ["word"] [.str "kind"] st:=by
 obtain ⟨v2',v3',e⟩:=zgS (some (.tup (ks.map PV.str))) (some (.tup xs)) ks ts xs none none h hl
 simp only [zby,zB,zgp]
 simp [e]
theorem zpM {st:Sto}{t:Tr}{v:PV}(h:TR st t v) (hs:sz t<=10000):∃st',zbD [v] st=.ok (.int (sz t)) st'/\Old st st':=by
 obtain ⟨r,ts,xs,st1,e1,e2,e3,e4,e5,e6⟩:=zpL h hs
 have hl:=e3.len
 exact ⟨st1,by simp [zbD,zB,zgB,e1,zbl e2,<-hl,e6],e4⟩
abbrev OpO (w:Str) (k:Int):SO:=.ins "Op" ["word", "many"] [.str w,.int k]
theorem i3:insOf "Op" = true:=by simp [insOf]
structure OpIs (op:Str) (ks:List Str) (f:Str) (mt:List PV->Mo PV):Prop where
 look:(yT.zip y3).lookup op=some (.tup [.tup (ks.map PV.str),.fn f])
 tab:zay f=some mt
 new:∀st,y6 [.str op] st=.ok (.ref st.length) (st++[OpO op ks.length])
section
variable {op f:Str}{ks:List Str}{mt:List PV->Mo PV}{ts:List Tr}{xs:List PV}
theorem zpN (h:OpIs op ks f mt) {st st1:Sto} {o:Nat} {k:Int} {w:Str} (ho:st[o]?=some (OpO op k)) (hr:TRs st ts xs) (hl:ks.length=ts.length) (hf:fits ks ts=true) (hm:mt [.tup xs] st=.err "Fault" ["word"] [.str w] st1):m_Op_answer [.ref o,.tup xs] st=.err "Fault" ["word"] [.str w] st1:=by
 have hc:=zgT hr hl
 rw [if_pos hf] at hc
 generalize hK:PV.tup (ks.map PV.str)=K1 at hc
 have lk:=h.look
 rw [hK] at lk
 simp [m_Op_answer,zB,zbG,zbF,zbE,jQ ho,i3,List.lookup_cons,lk,h.tab,yM,wb,hc,hm]
theorem zpO (h:OpIs op ks f mt) {st st1:Sto}{o:Nat}{k:Int}{t:Tr}{v:PV}(ho:st[o]?=some (OpO op k)) (hr:TRs st ts xs) (hl:ks.length=ts.length) (hf:fits ks ts=true) (hm:mt [.tup xs] st=.ok v st1) (hv:TR st1 t v) (hs:sz t<=10000) :
  ∃st2,Old st1 st2/\m_Op_answer [.ref o,.tup xs] st=if sz t<=60 then .ok v st2 else .err "Fault" ["word"] [.str "large"] st2:=by
 have hc:=zgT hr hl
 rw [if_pos hf] at hc
 generalize hK:PV.tup (ks.map PV.str)=K1 at hc
 have lk:=h.look
 rw [hK] at lk
 obtain ⟨st2,hp,o2⟩:=zpM hv hs
 refine ⟨st2,o2,?_⟩
 by_cases hz:sz t<=60
 ·rw [if_pos hz]
  have:¬(60:Int)<sz t:=by omega
  simp [m_Op_answer,zB,zbG,zbF,zbE,zdv,zdu,jQ ho,i3,List.lookup_cons,lk,h.tab,yM,wb,hc,hm,hp,hz]
  omega
 ·rw [if_neg hz]
  have:(60:Int)<sz t:=by omega
  simp [m_Op_answer,zB,zbG,zbF,zbE,zdv,zdu,jQ ho,i3,List.lookup_cons,lk,h.tab,yM,wb,hc,hm,hp,hz]
  omega
end
mutual
theorem TR.one {st:Sto}:∀(t t':Tr) {v:PV},TR st t v->TR st t' v->t=t'
 | .num i,t',v,h,h'=>by
  cases h
  cases t' with
  | num j=>cases h';rfl
  | word z=>obtain ⟨e,_⟩:=h';cases e
  | row ts=>obtain ⟨_,e,_⟩:=h';cases e
  | rec_ ks ts=>obtain ⟨_,_,e,_⟩:=h';cases e
 | .word z,t',v,h,h'=>by
  obtain ⟨rfl,_⟩:=h
  cases t' with
  | num j=>cases h'
  | word z=>obtain ⟨e,_⟩:=h';cases e;rfl
  | row ts=>obtain ⟨_,e,_⟩:=h';cases e
  | rec_ ks ts=>obtain ⟨_,_,e,_⟩:=h';cases e
 | .row ts,t',v,h,h'=>by
  obtain ⟨xs,rfl,r⟩:=h
  cases t' with
  | num j=>cases h'
  | word z=>obtain ⟨e,_⟩:=h';cases e
  | row us=>obtain ⟨_,e,r'⟩:=h';cases e;rw [TRs.one ts us r r']
  | rec_ ks ts=>obtain ⟨_,_,e,_⟩:=h';cases e
 | .rec_ ks ts,t',v,h,h'=>by
  obtain ⟨n,xs,rfl,g,_,_,r,_⟩:=h
  cases t' with
  | num j=>cases h'
  | word z=>obtain ⟨e,_⟩:=h';cases e
  | row us=>obtain ⟨_,e,r'⟩:=h';cases e
  | rec_ ks' us =>
   obtain ⟨_,_,e,g',_,_,r',_⟩:=h'
   cases e
   rw [g] at g'
   cases g'
   rw [TRs.one ts us r r']
theorem TRs.one {st:Sto}:∀(ts us:List Tr) {xs:List PV},TRs st ts xs->TRs st us xs->ts=us
 | [],us,xs,h,h'=>by
  cases h
  cases us with
  | nil=>rfl
  | cons=>obtain ⟨_,_,e,_⟩:=h';cases e
 | t::ts,us,xs,h,h'=>by
  obtain ⟨x,r,rfl,h1,h2⟩:=h
  cases us with
  | nil=>cases h'
  | cons u us =>
   obtain ⟨_,_,e,g1,g2⟩:=h'
   cases e
   rw [TR.one t u h1 g1,TRs.one ts us h2 g2]
end
theorem zgU {g:PV->zc->Option zc}{body:zc->Mo Fl}(I:Nat->zc->Sto->Prop) (n:Nat) (hb:∀i e st,i<n->I i e st->∃e1 e2 st2,g (.int i) e=some e1/\body e1 st=.ok (.nx e2) st2/\I (i+1) e2 st2) :
  ∀(k i:Nat) (env:zc) (st:Sto),i+k=n->I i env st->∃env' st',forL g body ((List.range' i k).map fun i:Nat=>PV.int i) env st=.ok (.nx env') st'/\I n env' st'
 | 0,i,env,st,hk,h=>⟨env,st,by simp,by rw [<-hk];exact h⟩
 | k+1,i,env,st,hk,h=>by
  obtain ⟨e1,e2,st2,q1,q2,q3⟩:=hb i env st (by omega) h
  obtain ⟨env',st',r1,r2⟩:=zgU I n hb k (i+1) e2 st2 (by omega) q3
  refine ⟨env',st',?_,r2⟩
  rw [List.range'_succ,List.map_cons]
  unfold forL
  rw [q1]
  simp only
  rw [q2]
  simp only [zF]
  exact r1
theorem zpP (m:Nat) (st:Sto) (h:m<=1000):wx [.int (m:Int)] st=.ok (.im ((List.range' 0 m).map fun i:Nat=>PV.int i)) st:=by
 have hr:cR (m:Int)=true:=by simp [cR];omega
 simp [hr,nums,List.range_eq_range']
theorem modNat (i:Int) (j:Nat) (h:0<j):∃b:Nat,b<j/\zO i j=b:=by
 have h1:=Int.emod_nonneg i (show (j:Int)≠0 by omega)
 have h2:=Int.emod_lt_of_pos i (show (0:Int)<j by omega)
 exact ⟨(i%j).toNat,by omega,by rw [zgH _ _ (by omega)];omega⟩
theorem wQ {st:Sto}{n:Nat}{so:SO}(h:st[n]?=some so):n<st.length:=(List.getElem?_eq_some_iff.mp h).1
theorem zdC {z:Str}{u:Tr}:∀{ks:List Str}{ts:List Tr},(ks.zip ts).lookup z=some u->u∈ts
 | [],_,h=>by simp at h
 | _::_,[],h=>by simp at h
 | k::ks,t::ts,h=>by
  rw [List.zip_cons_cons,List.lookup_cons] at h
  cases hz:(z==k) with
  | true=>rw [hz] at h;cases h;exact List.mem_cons_self ..
  | false=>rw [hz] at h;exact List.mem_cons_of_mem _ (zdC h)
theorem zgV {op f:Str}{ks:List Str}(h:(yT.zip y3).lookup op=some (.tup [.tup (ks.map PV.str),.fn f])) (st:Sto):y6 [.str op] st=.ok (.ref st.length) (st++[OpO op ks.length]):=by
 simp [y6,zB,zdh,zge,kdIn,h,newI,zdg,zgd,zgc,yH,insOf,Mi.putK,yM]
theorem mkOp {op f:Str}{ks:List Str}{mt:List PV->Mo PV}(h:(yT.zip y3).lookup op=some (.tup [.tup (ks.map PV.str),.fn f])) (h':zay f=some mt):OpIs op ks f mt:=⟨h,h',zgV h⟩
theorem zbJ {xs:List PV} {st:Sto}:wL [.tup xs] st=if xs=[] then .err "Fault" ["word"] [.str "empty"] st else .ok (.tup xs) st:=by
 by_cases h:xs=[]
 ·subst h;simp [wL,zB,zdl]
 ·rw [if_neg h]
  have:¬((xs.length:Int)=0):=by
   intro e
   exact h (List.length_eq_zero_iff.mp (by omega))
  simp [wL,zB,zdl,zgr,h]
theorem zpQ (x:PV) (r:List PV):cutP (x::r) (some 1) none=r:=by
 simp [cutP,HT.sIx]
theorem zgW {xs:List PV} {i:Int} {st:Sto}:wM [.tup xs,.int i] st=if 0<=i/\i<xs.length then .ok (.int i) st else .err "Fault" ["word"] [.str "place"] st:=by
 by_cases h0:0<=i
 ·by_cases h1:i<xs.length
  ·rw [if_pos ⟨h0,h1⟩];simp [wM,zB,zbz,zgt,h0,h1]
  ·rw [if_neg (fun z=>h1 z.2)];simp [wM,zB,zbz,h0,h1]
 ·rw [if_neg (fun z=>h0 z.1)];simp [wM,zB,zbz,h0]
theorem zpR {st:Sto}{n:Nat}{ks:List Str}{xs:List PV}(hn:st[n]?=some (.dic ks xs)) (w:Str):yk true (.str w) (.ref n) st=.ok (.bl (!((ks.zip xs).lookup w).isSome)) st:=by
 simp [yk,hn]
theorem zpS {st:Sto}{n:Nat}{ks:List Str}{xs:List PV}(hn:st[n]?=some (.dic ks xs)) (w:Str):zI (.ref n) (.str w) st=optR ((ks.zip xs).lookup w) st:=by
 simp only [zI,zfs,zcG hn]
theorem Old.set {a b:Sto}(h:Old a b) {n:Nat}(hn:a.length<=n) (so:SO):Old a (b.set n so):=fun m s e=>by
 have:=(List.getElem?_eq_some_iff.mp e).1
 rw [List.getElem?_set_ne (by omega)]
 exact h m s e
def mix (a:Int):List Int->Int
 | []=>a
 | x::r=>mix (zO (a*6007+x) 998244353) r
theorem zpT (l:List Int) (n:Nat) (st:Sto) (hn:st[n]?=some (.lst (l.map PV.int))) (v0 v1:Option PV):∀(k i m:Nat) (a:Int) (v3:Option PV),l.length-i=k->i<=l.length->k<m->∃v3',
  forR (gN 3) (zU 2 (zg zL (zg zZ (zg jS (zd 2) (mC (.int 6007))) (zd 3)) (mC (.int 998244353)))) n m i [v0,v1,some (.int a),v3] st=.ok (.nx [v0,v1,some (.int (mix a (l.drop i))),v3']) st:=by
 intro k
 induction k with
 | zero =>
  intro i m a v3 hk hi hm
  obtain ⟨m',rfl⟩:∃m',m=m'+1:=⟨m-1,by omega⟩
  have hi':i=l.length:=by omega
  subst hi'
  exact ⟨v3,by simp [forR,zW,hn,mix]⟩
 | succ k ih =>
  intro i m a v3 hk hi hm
  obtain ⟨m',rfl⟩:∃m',m=m'+1:=⟨m-1,by omega⟩
  have hlt:i<l.length:=by omega
  obtain ⟨v3',e⟩:=ih (i+1) m' (zO (a*6007+l[i]) 998244353) (some (.int l[i])) (by omega) (by omega) (by omega)
  refine ⟨v3',?_⟩
  rw [List.drop_eq_getElem_cons hlt]
  simp only [mix]
  rw [<-e]
  have hi1:(l.map PV.int)[i]?=some (.int l[i]):=by simp [hlt]
  have hc:cMul a 6007=true:=by simp [cMul]
  conv=>lhs;unfold forR
  simp only [zW,hn,hi1,zmo]
  simp [hc,cNz]
theorem zgX (ns:List Int) (k:Nat) (h9:k<1000):∃c,∀st,∃st1,yp [.frl (ns.map PV.int),.int k] st=.ok (.int c) st1/\Pre st st1:=by
 by_cases hk:k<ns.length
 ·have e:atI (ns.map PV.int) (k:Int)=some (.int ns[k]):=by
   simp [atI,ixN,hk]
  exact ⟨ns[k],fun st=>⟨st,by simp [yp,zB,zdf,hk,e],Pre.refl _⟩⟩
 ·have hcut:cutP (ns.map PV.int) none (some 5)=(ns.take 5).map PV.int:=by
   unfold cutP
   simp [HT.sIx]
  refine ⟨zO (mix (53*k+31) (ns.take 5)*(k+17)) 1000000007,fun st=>?_⟩
  have top:=yx st (SO.lst ((ns.take 5).map PV.int))
  obtain ⟨v3',e⟩:=zpT (ns.take 5) st.length (st++[.lst ((ns.take 5).map PV.int)]) top (some (.frl (ns.map PV.int))) (some (.int k)) (ns.take 5).length 0 (lim+1) (53*k+31) none (by omega) (Nat.zero_le _) (by show (ns.take 5).length<1000000+1;simp;omega)
  refine ⟨st++[.lst ((ns.take 5).map PV.int)],?_,Pre.of _ _⟩
  have c1:cMul 53 (k:Int)=true:=by simp [cMul]
  have c2:cMul (mix (53*k+31) (ns.take 5)) (k+17)=true:=by
   simp only [cMul,Bool.or_eq_true,Bool.and_eq_true,decide_eq_true_eq]
   exact .inr ⟨by omega,by omega⟩
  simp only [List.drop_zero] at e
  simp only [yp,zB,zdf,zgb,zga,zf9]
  simp [hk,c1,hcut,forS]
  simp only [zcr,List.map_take,Nat.reduceAdd] at e
  rw [e]
  simp [c2,cNz]
noncomputable def cel (ns:List Int) (k:Nat) (h:k<1000):Int:=Classical.choose (zgX ns k h)
theorem zpU (ns:List Int) (k:Nat) (h:k<1000) (st:Sto):∃st1,yp [.frl (ns.map PV.int),.int k] st=.ok (.int (cel ns k h)) st1/\Pre st st1:=Classical.choose_spec (zgX ns k h) st
abbrev scr (ns:List Int):PV:=.frl (ns.map PV.int)
noncomputable def cl (ns:List Int) (k:Nat):Int:=if h:k<1000 then cel ns k h else 0
theorem y7 (ns:List Int) (k:Nat) (h:k<1000) (st:Sto):∃st1,yp [scr ns,.int k] st=.ok (.int (cl ns k)) st1/\Old st st1:=by
 obtain ⟨st1,e,p⟩:=zpU ns k h st
 unfold cl
 rw [dif_pos h]
 exact ⟨st1,e,zgR p⟩
theorem zgY (l:List PV) (m:Nat):cutP l (some (m:Int)) none=l.drop m:=by
 have:¬((m:Int)<0):=by omega
 simp [cutP,HT.sIx,this]
 rw [List.take_of_length_le (by simp)]
 by_cases h:m<=l.length
 ·rw [Nat.min_eq_left h]
 ·rw [Nat.min_eq_right (by omega),List.drop_of_length_le (by omega),List.drop_of_length_le (by omega)]
theorem wc (i:Int) (j b:Nat) (h:0<j) (e:zO i j=(b:Int)) (st:Sto):zL (.int i) (.int (j:Int)) st=.ok (.int (b:Int)) st:=by
 rw [yG i j (by omega),e]
abbrev W:List Str:=["add", "sub", "mul", "div", "rem", "less", "same", "kind", "front", "many", "put", "set", "down", "head", "rest", "item", "field"]
theorem zdD:∀zs:List Str,plains (zs.map PV.str)=true
 | []=>rfl
 | z::zs=>by simp [plains,Mi.plain,zdD zs]
theorem zdE:∀zs:List Str,deps (zs.map PV.str)=0
 | []=>rfl
 | z::zs=>by simp [deps,dep,zdE zs]
theorem zgZ (z:Str) (zs:List Str):(zs.map PV.str).any (fun y=>eqP y (.str z))=decide (z∈zs):=by
 simp only [List.any_map,Function.comp_def,eqP]
 rw [Bool.eq_iff_iff,List.any_eq_true,decide_eq_true_eq]
 constructor
 ·rintro ⟨x,hx,e⟩
  rw [beq_iff_eq] at e
  exact e▸hx
 ·intro h
  exact ⟨z,h,by simp⟩
theorem jW {st:Sto}{n:Nat}{zs:List Str}(h:st[n]?=some (.lst (zs.map PV.str))) (z:Str):yk false (.str z) (.ref n) st=.ok (.bl (decide (z∈zs))) st:=by
 rw [zmT h,if_pos ⟨rfl,zdD zs,by rw [zdE];omega⟩,zgZ]
 simp
theorem zg0 (z:Str) (zs:List Str) (st:Sto):yk false (.str z) (.tup (zs.map PV.str)) st=.ok (.bl (decide (z∈zs))) st:=by
 rw [zmS,if_pos ⟨rfl,zdD zs,by rw [zdE];omega⟩,zgZ]
 simp
theorem zaC (st:Sto):∃r s',wI [] st=.ok (.ref r) s'/\Old st s'/\s'[r]?=some (.lst (W.map PV.str)):=by
 obtain ⟨a,ha⟩:∃a:List Str,a=(["add", "sub", "mul", "div", "rem", "less", "same", "kind", "front", "many", "put", "set"]:List Str):=⟨_,rfl⟩
 obtain ⟨b,hb⟩:∃b:List Str,b=(["down", "head", "rest", "item", "field"]:List Str):=⟨_,rfl⟩
 have hw:a++b=W:=by rw [ha,hb];rfl
 have h1:=yx st (.lst (a.map PV.str))
 have h2:=yn (st++[.lst (a.map PV.str)]) [.lst (b.map PV.str)] _ _ h1
 have h3:=yx (st++[.lst (a.map PV.str)]) (.lst (b.map PV.str))
 refine ⟨_,st++[.lst (a.map PV.str)]++[.lst (b.map PV.str)]++[.lst (W.map PV.str)],yr rfl (zu (yy (jU (xs:=a.map PV.str) (by rw [ha];rfl) (by simp [ha]))) (zT (zn (zk rfl) (jU (xs:=b.map PV.str) (by rw [hb];rfl) (by simp [hb])) ?_))),((yn _ _).trans (yn _ _)).trans (yn _ _),yx _ _⟩
 show zW _ _ _=_
 rw [yF h2]
 show zW _ _ _=_
 rw [yF h3,if_pos (by simp [ha,hb,lim]),<-List.map_append,hw]
def many (w:Str):Int:=if w∈(["kind", "many", "down", "head", "rest"]:List Str) then 1 else if w∈(["put", "set"]:List Str) then 3 else 2
theorem zpV (w:Str) (st:Sto):∃s',zbt [.str w] st=.ok (.int (many w)) s'/\Old st s':=by
 obtain ⟨a,ha⟩:∃a:List Str,a=(["kind", "many", "down", "head", "rest"]:List Str):=⟨_,rfl⟩
 obtain ⟨b,hb⟩:∃b:List Str,b=(["put", "set"]:List Str):=⟨_,rfl⟩
 have h1:=yx st (.lst (a.map PV.str))
 unfold many
 rw [<-ha,<-hb]
 by_cases h:w∈a
 ·rw [if_pos h]
  exact ⟨st++[.lst (a.map PV.str)],yr rfl (ym (yq (zX (b:=true) (zn (zk rfl) (jU (xs:=a.map PV.str) (by rw [ha];rfl) (by simp [ha])) (by rw [jW h1,decide_eq_true h]))) (zT rfl))),yn _ _⟩
 ·rw [if_neg h]
  have h2:=yx (st++[.lst (a.map PV.str)]) (.lst (b.map PV.str))
  refine ⟨st++[.lst (a.map PV.str)]++[.lst (b.map PV.str)],yr rfl (zu (zR (zX (zn (zk rfl) (jU (xs:=a.map PV.str) (by rw [ha];rfl) (by simp [ha])) (by rw [jW h1,decide_eq_false h])))) (zT (zn rfl (zA (zV (zn (zk rfl) (jU (xs:=b.map PV.str) (by rw [hb];exact zS rfl rfl) (by simp [hb])) (jW h2 w))) (zmh ..)) ?_))),(yn _ _).trans (yn _ _)⟩
  rw [jH]
  by_cases h3:w∈b<;>simp [h3]
theorem zg1 (a:Bool) (st:Sto):zbu [.bl a,.bl a] st=.ok (.bl true) st:=by
 refine yr rfl (zT (j9 (zA (zS (zk rfl) rfl) rfl) (zn (zk rfl) (zk rfl) ?_)))
 rw [zmi,if_pos ⟨rfl,rfl,by simp [dep]⟩]
 simp [eqP]
section
variable {st:Sto}{o:Nat}{w:Str}{k:Int}
theorem zpW (ho:st[o]?=some (OpO w k)):m_Op_falls [.ref o] st=.ok (.bl (decide (w∈ct_FALLING))) st:=by
 refine yr rfl (zT (zn (jF (zk rfl) (X:=.ok (.str w) st) ?_) rfl (zg0 _ _ _)))
 rw [zbe,jQ ho,if_pos i3]
 simp [List.lookup_cons]
theorem zpX (ho:st[o]?=some (OpO w k)):m_Op_never_faults [.ref o] st=.ok (.bl (decide (w∈ct_FAULTLESS))) st:=by
 refine yr rfl (zT (zn (jF (zk rfl) (X:=.ok (.str w) st) ?_) rfl (zg0 _ _ _)))
 rw [zbe,jQ ho,if_pos i3]
 simp [List.lookup_cons]
theorem zg2 (ho:st[o]?=some (OpO w k)):fldAt "word" insOf excOf (.ref o) st=.ok (.str w) st:=by
 rw [zbe,jQ ho,if_pos i3]
 simp [List.lookup_cons]
theorem zdF (ho:st[o]?=some (OpO w k)):fldAt "many" insOf excOf (.ref o) st=.ok (.int k) st:=by
 rw [zbe,jQ ho,if_pos i3]
 simp [List.lookup_cons]
theorem zpY (ho:st[o]?=some (OpO w k)):zK isT [.ref o,.fn "Op"] st=.ok (.bl true) st:=by
 show isiA isT st (.fn "Op") (soCls st[o]?) st=_
 rw [ho]
 rfl
theorem zbK (ho:st[o]?=some (OpO w k)) (hk:k=many w):∃s',wJ [.ref o,.str w] st=.ok (.bl true) s'/\Old st s':=by
 obtain ⟨s1,e1,o1⟩:=zpV w st
 have ho1:=o1 _ _ ho
 have h2:=yx s1 (.lst (ct_FALLING.map PV.str))
 have o2:=yn s1 [.lst (ct_FALLING.map PV.str)]
 have ho2:=o2 _ _ ho1
 generalize hs2:s1++[.lst (ct_FALLING.map PV.str)]=s2 at h2 o2 ho2
 have L2:∀e:zc,(yQ (j6 ["down", "head", "rest", "item", "field"])) e s1=.ok (.ref s1.length) s2:=fun e=>by rw [<-hs2];exact jU (xs:=ct_FALLING.map PV.str) rfl (by simp)
 have h3:=yx s2 (.lst (ct_FAULTLESS.map PV.str))
 have hm:∀(c:Nat->(List PV->Mo PV)->Res PV),methAt "falls" zan (.ref o) s2 c=c o m_Op_falls:=zbd ho2 (by simp) (by simp [zan])
 have hn:∀(c:Nat->(List PV->Mo PV)->Res PV),methAt "never_faults" zao (.ref o) s2 c=c o m_Op_never_faults:=zbd ho2 (by simp) (by simp [zao])
 have C1:(yu (yE (mB (zl (zK isT) (ze (zd 0) (ze (mC (.fn "Op")) zj))))) (yu (yE (mB (zl (zK isT) (ze (z0 (fldAt "word" insOf excOf) (zd 0)) (ze (mC (.ty "str")) zj))))) (mB (zg yX (z0 (fldAt "word" insOf excOf) (zd 0)) (zd 1))))) [some (.ref o),some (.str w),none] st=.ok false st :=
  yL (jG (b:=true) (zX (zA (zS (zk rfl) rfl) (zpY ho)))) (yL (jG (b:=true) (zX (zA (zS (jF (zk rfl) (zg2 ho)) rfl) rfl))) (zX (zn (jF (zk rfl) (zg2 ho)) (zk rfl) (by rw [znz];simp))))
 have C2:(yu (yE (mB (zl (zK isT) (ze (z0 (fldAt "many" insOf excOf) (zd 0)) (ze (mC (.ty "int")) zj))))) (yu (mB (zl (zK isT) (ze (z0 (fldAt "many" insOf excOf) (zd 0)) (ze (mC (.ty "bool")) zj)))) (mB (zg yX (z0 (fldAt "many" insOf excOf) (zd 0)) (zl zbt (ze (zd 1) zj)))))) [some (.ref o),some (.str w),none] st=.ok false s1 :=
  yL (jG (b:=true) (zX (zA (zS (jF (zk rfl) (zdF ho)) rfl) rfl))) (yL (zX (zA (zS (jF (zk rfl) (zdF ho)) rfl) rfl)) (zX (zn (jF (zk rfl) (zdF ho)) (zA (zV (zk rfl)) e1) (by rw [zny,hk];simp))))
 refine ⟨s2++[.lst (ct_FAULTLESS.map PV.str)],yr rfl (zu (zR C1) (zu (zR C2) (zu (yy (zn (zk rfl) (L2 _) (jW h2 w))) (zT (j9 (zA (zS (x:=.bl (decide (w∈ct_FALLING))) (s1:=s2) ?_ (zk rfl)) (zg1 _ _)) (zA (zS (x:=.bl (decide (w∈ct_FAULTLESS))) (s1:=s2) ?_ (zn (zk rfl) (jU (xs:=ct_FAULTLESS.map PV.str) (zS rfl rfl) (by simp)) (jW h3 w))) (zg1 _ _))))))),o1.trans (o2.trans (yn _ _))⟩
 ·rw [zfi,zk (v:=.ref o) rfl,zF,hm,zfe,zF]
  exact zpW ho2
 ·rw [zfi,zk (v:=.ref o) rfl,zF,hn,zfe,zF]
  exact zpX ho2
end
structure WordIs (w:Str) (ks:List Str) (f:Str):Prop where
 look:(yT.zip y3).lookup w=some (.tup [.tup (ks.map PV.str),.fn f])
 many:(ks.length:Int)=many w
theorem zdG:∀w∈W,∃ks f,WordIs w ks f:=by
 intro w hw
 simp only [W,List.mem_cons,List.not_mem_nil,or_false] at hw
 rcases hw with rfl|rfl|rfl|rfl|rfl|rfl|rfl|rfl|rfl|rfl|rfl|rfl|rfl|rfl|rfl|rfl|rfl
 ·exact ⟨["number", "number"],_,rfl,by decide⟩
 ·exact ⟨["number", "number"],_,rfl,by decide⟩
 ·exact ⟨["number", "number"],_,rfl,by decide⟩
 ·exact ⟨["number", "number"],_,rfl,by decide⟩
 ·exact ⟨["number", "number"],_,rfl,by decide⟩
 ·exact ⟨["number", "number"],_,rfl,by decide⟩
 ·exact ⟨["any", "any"],_,rfl,by decide⟩
 ·exact ⟨["any"],_,rfl,by decide⟩
 ·exact ⟨["any", "row"],_,rfl,by decide⟩
 ·exact ⟨["row"],_,rfl,by decide⟩
 ·exact ⟨["row", "number", "any"],_,rfl,by decide⟩
 ·exact ⟨["record", "word", "any"],_,rfl,by decide⟩
 ·exact ⟨["number"],_,rfl,by decide⟩
 ·exact ⟨["row"],_,rfl,by decide⟩
 ·exact ⟨["row"],_,rfl,by decide⟩
 ·exact ⟨["row", "number"],_,rfl,by decide⟩
 ·exact ⟨["record", "word"],_,rfl,by decide⟩
theorem zaD {w:Str}{ks:List Str}{f:Str}(h:WordIs w ks f) (st:Sto):y6 [.str w] st=.ok (.ref st.length) (st++[OpO w (many w)]):=by
 rw [<-h.many]
 exact zgV h.look st
theorem zg3 {α:Type}{z:Str}:∀{ks:List Str}{ts:List α},z∉ks->(ks.zip ts).lookup z=none
 | [],_,_=>by simp
 | _::_,[],_=>by simp
 | a::ks,b::ts,h=>by
  rw [List.zip_cons_cons,List.lookup_cons]
  have:(z==a)=false:=by
   simp only [beq_eq_false_iff_ne]
   intro e;subst e;exact h (List.mem_cons_self ..)
  rw [this]
  exact zg3 fun q=>h (List.mem_cons_of_mem _ q)
theorem zpZ:∀x∈yT,x∈W:=by decide
theorem zp0 {z:Str} (h:z∉W) (st:Sto):y6 [.str z] st=.err "NoOp" ["word"] [.str z] st:=by
 have hl:(yT.zip y3).lookup z=none:=zg3 fun q=>h (zpZ z q)
 simp [y6,zB,zdh,kdIn,hl]
section
variable {z:Str}{st:Sto}
theorem zg4 {B:Str} {b:Bool} (h:isL.lookup ((("NoOp" : String):Str),B)=some b):zK isT [.exo "NoOp" ["word"] [.str z],.fn B] st=.ok (.bl b) st:=by
 show (if isT.isx "NoOp" = true then optB (isT.sub "NoOp" B) st else .stuck)=_
 rw [if_pos (by decide)]
 show optB (isL.lookup ((("NoOp" : String):Str),B)) st=_
 rw [h]
 rfl
theorem zp1:zdi [.exo "NoOp" ["word"] [.str z]] st=.ok (.bl true) st:=by
 have e:∀{B:Str} {b:Bool},isL.lookup ((("NoOp" : String):Str),B)=some b->(mB (zl (zK isT) (ze (zd 0) (ze (mC (.fn B)) zj)))) [some (.exo "NoOp" ["word"] [.str z])] st=.ok b st:=fun h=>zX (zA (zS (zk rfl) rfl) (zg4 h))
 refine yr rfl (zu (zR (yL (e rfl) (yL (e rfl) (yL (e rfl) (e rfl))))) (zu (zR (yL (e rfl) (yL (e rfl) (e rfl)))) (zu (zR (yL (e rfl) (e rfl))) (zT (j9 (zA (zS (zk rfl) rfl) (zg4 rfl)) (zA (zS (zk rfl) rfl) ?_))))))
 rfl
theorem zp2 (z:Str) (st:Sto):∃s',zdj [.str z] st=.ok (.bl true) s'/\Old st s':=by
 by_cases h:z∈W
 ·obtain ⟨ks,f,hw⟩:=zdG z h
  have e1:=zaD hw st
  obtain ⟨r,s2,e2,o2,h2⟩:=zaC (st++[OpO z (many z)])
  refine ⟨s2,yr rfl (zu (yy rfl) (zu (e1:=[some (.str z),some .non,none]) (s1:=st++[OpO z (many z)]) ?_ (ym (yq (zX (b:=true) (zn (zk rfl) (zA j7 e2) (by rw [jW h2,decide_eq_true h]))) (zT (zn (zk rfl) rfl rfl)))))),(yn _ _).trans o2⟩
  show wa _ _ _ _ _ _=_
  unfold wa xCall
  have a1:(ze (zd 0) zj) [some (.str z),some .non,none] st=.ok [.str z] st:=rfl
  simp only [List.map_cons,List.map_nil,List.cons_append,List.nil_append,List.replicate,List.set_cons_succ,List.set_cons_zero]
  rw [a1,wA,zF,e1]
 ·have e1:=zp0 h st
  obtain ⟨r,s2,e2,o2,h2⟩:=zaC st
  refine ⟨s2,yr rfl (zu (yy rfl) (zu (e1:=[some (.str z),some (.exo "NoOp" ["word"] [.str z]),none]) (s1:=st) ?_ (zu (zR (zX (zn (zk rfl) (zA j7 e2) (by rw [jW h2,decide_eq_false h])))) (zT (j9 (zn (zk rfl) rfl rfl) (j9 (zA (zV (zk rfl)) zp1) (zn (jF (zk rfl) (X:=.ok (.str z) s2) ?_) (zk rfl) ?_))))))),o2⟩
  ·show wa _ _ _ _ _ _=_
   unfold wa xCall
   have a1:(ze (zd 0) zj) [some (.str z),some .non,none] st=.ok [.str z] st:=rfl
   simp only [List.map_cons,List.map_nil,List.cons_append,List.nil_append,List.replicate,List.set_cons_succ,List.set_cons_zero]
   rw [a1,wA,zF,e1]
   simp only
   rw [if_pos ⟨by decide,by simp⟩]
   rfl
  ·rw [zmu,if_pos (by decide)]
   simp [List.lookup_cons]
  ·unfold jE
   rw [show eqT s2 150 (.str z) (.str z)=some true by show some (z==z)=_;simp]
end
theorem zp3 (z:Str) (n:Nat) (hz:z.cps.toList.length=n) (hn:n<=1000) (i:Int) (h0:0<=i) (h1:i<n):∃c,∀st,zI (.str z) (.int i) st=.ok (.str ⟨#[c]⟩) st:=by
 have hl:z.length<=1000000:=by show z.cps.size<=1000000;rw [<-Array.length_toList];omega
 obtain ⟨k,rfl⟩:=Int.eq_ofNat_of_zero_le h0
 have lt:k<z.cps.toList.length:=by omega
 refine ⟨z.cps.toList[k],fun st=>?_⟩
 rw [zfB,zcr,if_pos hl,atI_get (List.getElem?_eq_getElem lt)]
 rfl
theorem sl_str {z:Str}(hz:z.length<=1000) (lo hi:Option Int) (st:Sto):j2 (.str z) lo hi st=.ok (.str (Txt.slice z lo hi)) st:=by
 show (if z.length<=lim then Res.ok (PV.str (Txt.slice z lo hi)) st else .stuck)=_
 rw [if_pos (by show z.length<=1000000;omega)]
theorem add_str {x y:Str}(h:x.length+y.length<=1000000) (st:Sto):zZ (.str x) (.str y) st=.ok (.str (x++y)) st:=by
 rw [zmg,if_pos h]
theorem zdH {fe:zc->Mo PV}{env:zc}{T:PV->Tr}:∀(xs:List PV),(∀x∈xs,∀s,∃y s',fe (some x::env) s=.ok y s'/\Old s s'/\TR s' (T x) y)->∀(acc:List PV) (ts:List Tr) (s:Sto),TRs s ts acc ->
  ∃ys s',compL fe env xs acc s=.ok (.ref s'.length) (s'++[.lst ys])/\Old s s'/\TRs s' (ts++xs.map T) ys
 | [],_,acc,ts,s,h=>⟨acc,s,rfl,Old.refl _,by simpa using h⟩
 | x::xs,hf,acc,ts,s,h=>by
  obtain ⟨y,s1,e1,o1,t1⟩:=hf x (List.mem_cons_self ..) s
  obtain ⟨ys,s2,e2,o2,t2⟩:=zdH xs (fun z hz=>hf z (List.mem_cons_of_mem _ hz)) (acc++[y]) (ts++[T x]) s1 ((h.mono o1.dk).append ⟨_,_,rfl,t1,rfl⟩)
  refine ⟨ys,s2,?_,o1.trans o2,by simpa using t2⟩
  simp only [compL,e1,wA,zF]
  exact e2
theorem zg5 {s:Sto}:∀{zs:List Str}{ys:List PV},TRs s (zs.map Tr.word) ys->ys=zs.map PV.str
 | [],ys,h=>by cases h;rfl
 | z::zs,ys,h=>by
  obtain ⟨y,r,rfl,⟨rfl,_⟩,h2⟩:=h
  rw [zg5 h2]
  rfl
theorem zg6:∀zs:List Str,strsOf (zs.map PV.str)=some zs
 | []=>rfl
 | z::zs=>by simp [strsOf,zg6 zs]
theorem zbL (n:Nat):nums 0 n=(List.range n).map fun k:Nat=>PV.int (k:Int):=by simp [nums]
theorem zp4:∀w∈W,w.length<=10:=by decide
theorem zp5:∀w∈W,(Txt.upper w).length<=1000:=by decide +kernel
theorem zaE (c:Nat):(⟨#[c]⟩:Str).length=1:=rfl
abbrev sg:Str := " abcdefghijklmnopqrstuvwxyzADS059_'-"
theorem zg7 (x:Int):∃c,∀st,zI (.str sg) (.int (zO x 36)) st=.ok (.str ⟨#[c]⟩) st:=by
 have h1:zO x 36=x%36:=zgH _ _ (by decide)
 have h2:=Int.emod_nonneg x (show (36:Int)≠0 by decide)
 have h3:=Int.emod_lt_of_pos x (show (0:Int)<36 by decide)
 rw [h1]
 exact zp3 sg 36 (by decide +kernel) (by decide) _ h2 h3
noncomputable def sgN (x:Int):Nat:=Classical.choose (zg7 x)
theorem zg8 (x:Int) (st:Sto):zI (.str sg) (.int (zO x 36)) st=.ok (.str ⟨#[sgN x]⟩) st:=Classical.choose_spec (zg7 x) st
theorem zg9:∀(zs:List Nat),((zs.map fun c=>(⟨#[c]⟩:Str)).map (·.length)).sum=zs.length
 | []=>rfl
 | c::zs=>by
  simp only [List.map_cons,List.sum_cons,zg9 zs,List.length_cons,zaE]
  omega
theorem zp6 (ns:List Int) (st:Sto):∃z s',zbx [scr ns] st=.ok (.str z) s'/\Old st s':=by
 obtain ⟨s1,e1,o1⟩:=y7 ns 2 (by omega) st
 obtain ⟨c,hc⟩:∃c,c=cl ns 2:=⟨_,rfl⟩
 rw [<-hc] at e1
 obtain ⟨r,s2,e2,o2,h2⟩:=zaC s1
 obtain ⟨j,hj,ej⟩:=modNat (yv c 8) 17 (by omega)
 have hj':j<W.length:=hj
 obtain ⟨w,hw⟩:∃w,w=W[j]:=⟨_,rfl⟩
 have hwm:w∈W:=by rw [hw];exact List.getElem_mem hj'
 have hl:=zp4 w hwm
 have ix:zI (.ref r) (.int (j:Int)) s2=.ok (.str w) s2:=by
  rw [zcv,yF h2,atI_get (k:=j) (x:=.str w) (by rw [List.getElem?_map,List.getElem?_eq_getElem hj',hw];rfl),zbc]
 obtain ⟨a,ha,ea⟩:=modNat (yv c 136) (w.length+1) (by omega)
 have ln:ye [.str w] s2=.ok (.int w.length) s2:=by
  rw [znt]
  show (if w.length<=lim then _ else _)=_
  rw [if_pos (by show w.length<=1000000;omega)]
 have sl:∀lo hi st,j2 (.str w) lo hi st=.ok (.str (Txt.slice w lo hi)) st:=fun lo hi st=>sl_str (by omega) lo hi st
 have sle:=Txt.slice_le w
 have R:∀X:PV×Sto,zgh [some (scr ns),some (.int c),some (.str w),some (.int (a:Int)),some (.str sg)] s2=.ok (.rt X.1) X.2->zbx [scr ns] st=.ok X.1 X.2:=fun X hX =>
  yr rfl (zu (yy (zA (zS (zk rfl) rfl) e1)) (zu (yy (zn (zA j7 e2) (zn (zn (zk rfl) rfl (jI _ _ (by decide) (by decide))) rfl (wc _ 17 j (by omega) ej s2)) ix)) (zu (yy (zn (zn (zk rfl) rfl (jI _ _ (by decide) (by decide))) (zn (zA (zV (zk rfl)) ln) rfl (jH _ _)) (wc _ _ a (by omega) ea s2))) (zu (yy rfl) hX))))
 obtain ⟨s3,e3,o3⟩:=y7 ns 3 (by omega) s2
 have sx:=zg8 (cl ns 3)
 have T:∀(m k:Int) (h:m≠0),(mB (zg yo (zg zL (zd 1) (mC (.int m))) (mC (.int k)))) [some (scr ns),some (.int c),some (.str w),some (.int (a:Int)),some (.str sg)] s2=.ok (decide (zO c m=k)) s2:=fun m k h=>zX (zn (zn (zk rfl) rfl (yG _ _ h)) rfl (zbm _ _))
 have o12:=o1.trans o2
 by_cases h0:zO c 4=0
 ·have q1:=sle none (some (a:Int))
  have q2:=sle (some ((a:Int)+1)) none
  exact ⟨_,s2,R (_,s2) (ym (yq (by rw [T 4 0 (by decide),decide_eq_true h0]) (zT (zn (js (zk rfl) ju (jt (zk rfl)) (sl ..)) (js (zk rfl) (jt (zn (zk rfl) rfl (jH _ _))) ju (sl ..)) (add_str (by omega) _))))),o12⟩
 by_cases h1:zO c 4=1
 ·have q1:=sle none (some (a:Int))
  have q2:=sle (some (a:Int)) none
  have q3:=zaE (sgN (cl ns 3))
  exact ⟨_,s3,R (_,s3) (zu (zR (by rw [T 4 0 (by decide),decide_eq_false h0])) (ym (yq (by rw [T 4 1 (by decide),decide_eq_true h1]) (zT (zn (zn (js (zk rfl) ju (jt (zk rfl)) (sl ..)) (zn (zk rfl) (zn (zA (zS (zk rfl) rfl) e3) rfl (yG _ _ (by decide))) (sx s3)) (add_str (by omega) _)) (js (zk rfl) (jt (zk rfl)) ju (sl ..)) (add_str (by rw [Str.length_append];omega) _)))))),o12.trans o3⟩
 by_cases h2':zO c 8=2
 ·refine ⟨_,s2,R (_,s2) (zu (zR (by rw [T 4 0 (by decide),decide_eq_false h0])) (zu (zR (by rw [T 4 1 (by decide),decide_eq_false h1])) (ym (yq (by rw [T 8 2 (by decide),decide_eq_true h2']) (zT (jF (zk rfl) (X:=.ok (.str (Txt.upper w)) s2) ?_)))))),o12⟩
  rw [znF,if_pos (zp5 w hwm)]
 by_cases h3:zO c 8=3
 ·have q1:=sle none (some (a:Int))
  have q2:=sle (some ((a:Int)+1)) none
  have q3:=zaE (sgN (cl ns 3))
  exact ⟨_,s3,R (_,s3) (zu (zR (by rw [T 4 0 (by decide),decide_eq_false h0])) (zu (zR (by rw [T 4 1 (by decide),decide_eq_false h1])) (zu (zR (by rw [T 8 2 (by decide),decide_eq_false h2'])) (ym (yq (by rw [T 8 3 (by decide),decide_eq_true h3]) (zT (zn (zn (js (zk rfl) ju (jt (zk rfl)) (sl ..)) (zn (zk rfl) (zn (zA (zS (zk rfl) rfl) e3) rfl (yG _ _ (by decide))) (sx s3)) (add_str (by omega) _)) (js (zk rfl) (jt (zn (zk rfl) rfl (jH _ _))) ju (sl ..)) (add_str (by rw [Str.length_append];omega) _)))))))),o12.trans o3⟩
 obtain ⟨m,hm,em⟩:=modNat (yv c 8) 7 (by omega)
 obtain ⟨ys,s4,e4,o4,t4⟩:=zdH (fe:=zg zI (zd 5) (zg zL (zl yp (ze (zd 1) (ze (zg zZ (mC (.int 3)) (zd 0)) zj))) (mC (.int 36)))) (env:=[some (scr ns),some (.int c),some (.str w),some (.int (a:Int)),some (.str sg)]) (T:=fun x=>match x with | .int k=>.word ⟨#[sgN (cl ns (3+k.toNat))]⟩|_=>.num 0) (nums 0 m) (fun x hx s=>by
  rw [zbL] at hx
  obtain ⟨k,hk,rfl⟩:=List.mem_map.mp hx
  rw [List.mem_range] at hk
  obtain ⟨s',e',o'⟩:=y7 ns (3+k) (by omega) s
  refine ⟨_,s',zn (zk rfl) (zn (zA (zS (zk rfl) (zn rfl (zk rfl) (jH _ _))) e') rfl (yG _ _ (by decide))) (zg8 _ s'),o',?_⟩
  show TR s' (.word ⟨#[sgN (cl ns (3+((k:Int)).toNat))]⟩) _
  rw [Int.toNat_natCast]
  exact ⟨rfl,by rw [zaE];omega⟩) [] [] s2 rfl
 have tw:(nums 0 m).map (fun x=>match x with | .int k=>Tr.word ⟨#[sgN (cl ns (3+k.toNat))]⟩|_=>.num 0)=(((List.range m).map fun k=>sgN (cl ns (3+k))).map fun c=>(⟨#[c]⟩:Str)).map Tr.word:=by
  rw [zbL]
  simp [List.map_map,Function.comp_def]
 rw [List.nil_append,tw] at t4
 have ey:=zg5 t4
 have top:=yx s4 (.lst ys)
 have hR:cR (m:Int)=true:=by simp [cR];omega
 have C:(jq (iRng1 (ze (zg zL (zg yK (zd 1) (mC (.int 8))) (mC (.int 7))) zj)) (zg zI (zd 5) (zg zL (zl yp (ze (zd 1) (ze (zg zZ (mC (.int 3)) (zd 0)) zj))) (mC (.int 36))))) [some (scr ns),some (.int c),some (.str w),some (.int (a:Int)),some (.str sg)] s2=.ok (.ref s4.length) (s4++[.lst ys]):=by
  rw [zcw,zcy,zV (zn (zn (zk (v:=.int c) rfl) rfl (jI _ _ (by decide) (by decide))) rfl (wc _ 7 m (by omega) em s2)),zF,zfC,if_pos hR,zF,zcx,if_pos (by simp [nums,lim];omega),Int.toNat_natCast]
  exact e4
 refine ⟨_,s4++[.lst ys],R (_,s4++[.lst ys]) (zu (zR (by rw [T 4 0 (by decide),decide_eq_false h0])) (zu (zR (by rw [T 4 1 (by decide),decide_eq_false h1])) (zu (zR (by rw [T 8 2 (by decide),decide_eq_false h2'])) (zu (zR (by rw [T 8 3 (by decide),decide_eq_false h3])) (zT (v:=.str (Txt.join "" (((List.range m).map fun k=>sgN (cl ns (3+k))).map fun c=>(⟨#[c]⟩:Str)))) ?_))))),o12.trans (o4.trans (yn _ _))⟩
 rw [znG,zl2,zF]
 simp only
 rw [C,zF]
 show zW _ _ _=_
 rw [yF top,ey]
 simp only [zg6]
 rw [if_pos]
 rw [zg9]
 simp
 have:((("" : String):Str)).length=0:=rfl
 rw [this]
 omega
inductive Lf:Tr->Prop
 | num (i:Int):Lf (.num i)
 | word (z:Str):Lf (.word z)
 | row (i j:Int):Lf (.row [.num i,.num j])
 | rec_ (i:Int):Lf (.rec_ ["a", "of"] [.num i,.row []])
theorem Lf.sz {t:Tr}(h:Lf t):sz t<=3:=by cases h<;>simp [FK16.sz,szs]
theorem zbM (st:Sto):wq (.int 10) (.int 18) st=.ok (.int 1000000000000000000) st:=by
 have cp:cPow 10 18=true:=by decide
 have pw:((10:Int) ^ (18:Int).toNat)=1000000000000000000:=by decide
 show (if cPow 10 18=true then Res.ok (PV.int (10 ^ (18:Int).toNat)) st else .stuck)=_
 rw [if_pos cp,pw]
abbrev abcS:Str := "abcdefghijklmnopqrstuvwxyz"
theorem zha (c:Int):∃t,Lf t/\∀st,∃v s',wK [.int c] st=.ok v s'/\Old st s'/\TR s' t v:=by
 have T:∀(k:Int) (st:Sto),(mB (zg yo (zg zL (zd 0) (mC (.int 5))) (mC (.int k)))) [some (.int c)] st=.ok (decide (zO c 5=k)) st:=fun k st=>zX (zn (zn (zk rfl) rfl (yG _ _ (by decide))) rfl (zbm _ _))
 have Tt:∀(k:Int) (st:Sto),zO c 5=k->(mB (zg yo (zg zL (zd 0) (mC (.int 5))) (mC (.int k)))) [some (.int c)] st=.ok true st:=fun k st h=>by rw [T k st,decide_eq_true h]
 have Tf:∀(k:Int) (st:Sto),¬zO c 5=k->(mB (zg yo (zg zL (zd 0) (mC (.int 5))) (mC (.int k)))) [some (.int c)] st=.ok false st:=fun k st h=>by rw [T k st,decide_eq_false h]
 have la:abcS.length<=1000:=by decide +kernel
 by_cases h0:zO c 5=0
 ·have q1:=Txt.slice_le abcS (some (zO (yv c 5) 19)) none
  refine ⟨.word (Txt.slice (Txt.slice abcS (some (zO (yv c 5) 19)) none) none (some (1+zO (yv c 95) 7))),.word _,fun st=>⟨_,st,yr rfl (ym (yq (Tt 0 st h0) (zT (js (js rfl (jt (zn (zn (zk rfl) rfl (jI _ _ (by decide) (by decide))) rfl (yG _ _ (by decide)))) ju (sl_str la ..)) ju (jt (zn rfl (zn (zn (zk rfl) rfl (jI _ _ (by decide) (by decide))) rfl (yG _ _ (by decide))) (jH _ _))) (sl_str (by omega) ..))))),Old.refl _,rfl,?_⟩⟩
  have q2:=Txt.slice_le (Txt.slice abcS (some (zO (yv c 5) 19)) none) none (some (1+zO (yv c 95) 7))
  omega
 by_cases h1:zO c 5=1
 ·refine ⟨.row [.num (zO (yv c 5) 4),.num (zO (yv c 20) 1000000000000000000)],.row _ _,fun st=>⟨_,st,yr rfl (zu (zR (Tf 0 st h0)) (ym (yq (Tt 1 st h1) (zT (jT (zS (zn (zn (zk rfl) rfl (jI _ _ (by decide) (by decide))) rfl (yG _ _ (by decide))) (zn (zn (zk rfl) rfl (jI _ _ (by decide) (by decide))) (zn rfl rfl (zbM _)) (yG _ _ (by decide)))) (by simp)))))),Old.refl _,_,rfl,_,_,rfl,rfl,_,_,rfl,rfl,rfl⟩⟩
 by_cases h2:zO c 5=2
 ·refine ⟨.rec_ ["a", "of"] [.num (zO (yv c 5) 9-4),.row []],.rec_ _,fun st=>?_⟩
  obtain ⟨s1,hs1⟩:∃s1:Sto,s1=st++[.dic [] []]:=⟨_,rfl⟩
  have top:=yx st (.dic [] [])
  rw [<-hs1] at top
  have hlt:=wQ top
  refine ⟨.ref st.length,s1.set st.length (.dic ["a", "of"] [.int (zO (yv c 5) 9-4),.tup []]),yr rfl (zu (zR (Tf 0 st h0)) (zu (zR (Tf 1 st h1)) (ym (yq (Tt 2 st h2) (zT ?_))))),?_,st.length,_,rfl,by rw [List.getElem?_set_self hlt],by decide,rfl,⟨_,_,rfl,rfl,_,_,rfl,⟨_,rfl,rfl⟩,rfl⟩,by decide⟩
  ·unfold zcA
   rw [<-hs1]
   have v1:wC [(zg ja (zg zL (zg yK (zd 0) (mC (.int 5))) (mC (.int 9))) (mC (.int 4))),(yW zj)] [some (.int c)] s1=.ok [.int (zO (yv c 5) 9-4),.tup []] s1:=by
    have a1:(zg ja (zg zL (zg yK (zd 0) (mC (.int 5))) (mC (.int 9))) (mC (.int 4))) [some (.int c)] s1=.ok (.int (zO (yv c 5) 9-4)) s1:=zn (zn (zn (zk rfl) rfl (jI _ _ (by decide) (by decide))) rfl (yG _ _ (by decide))) rfl (wG _ _)
    have a2:(yW zj) [some (.int c)] s1=.ok (.tup []) s1:=jT j7 (by simp)
    simp only [wC]
    rw [a1,zF,a2,zF,zF,zF]
   show (wC _ [some (.int c)] s1).bind _=_
   rw [v1,zF,top,if_pos (show isEmp (some (SO.dic [] []))=true from rfl)]
   have nc:([("a" : Str)].contains "of")=false:=by decide
   simp [j5,yS,nc]
  ·intro n so e
   have hn:=wQ e
   rw [List.getElem?_set_ne (by omega),hs1]
   exact yn _ _ n so e
 ·refine ⟨.num (zO (yv c 5) 1999999999999999999-1000000000000000000+1),.num _,fun st=>⟨_,st,yr rfl (zu (zR (Tf 0 st h0)) (zu (zR (Tf 1 st h1)) (zu (zR (Tf 2 st h2)) (zT (zn (zn (zn (zn (zk rfl) rfl (jI _ _ (by decide) (by decide))) (zn (zn rfl (zn rfl rfl (zbM _)) (znA _ _ (by simp [cMul]))) rfl (wG _ _)) (yG _ _ (by decide))) (zn rfl rfl (zbM _)) (wG _ _)) rfl (jH _ _)))))),Old.refl _,rfl⟩⟩
noncomputable def lfT (c:Int):Tr:=Classical.choose (zha c)
theorem lf (c:Int):Lf (lfT c)/\∀st,∃v s',wK [.int c] st=.ok v s'/\Old st s'/\TR s' (lfT c) v:=Classical.choose_spec (zha c)
noncomputable def thT (ns:List Int) (m:Nat):List Tr:=(List.range m).map fun k=>lfT (cl ns (11+k))
theorem zp7 (ns:List Int) (m:Nat):∀t∈thT ns m,Lf t:=fun t h=>by
 unfold thT at h
 obtain ⟨k,_,rfl⟩:=List.mem_map.mp h
 exact (lf _).1
theorem zp8 (ns:List Int) (m:Nat):(thT ns m).length=m:=by simp [thT]
theorem zhb:∀{ts:List Tr},(∀t∈ts,Lf t)->szs ts<=3*ts.length
 | [],_=>by simp [szs]
 | t::ts,h=>by
  have h1:=(h t (List.mem_cons_self ..)).sz
  have h2:=zhb (fun u hu=>h u (List.mem_cons_of_mem _ hu))
  simp only [szs,List.length_cons]
  omega
theorem zp9 (ns:List Int):∃m:Nat,m<5/\∀w st,∃r ys s',(zU 2 (jq (iRng1 (ze (zg zL (zl yp (ze (zd 0) (ze (mC (.int 4)) zj))) (mC (.int 5))) zj)) (zl wK (ze (zl yp (ze (zd 1) (ze (zg zZ (mC (.int 11)) (zd 0)) zj))) zj)))) [some (scr ns),some (.str w),none,none,none,none] st=.ok (.nx [some (scr ns),some (.str w),some (.ref r),none,none,none]) s'/\Old st s'/\s'[r]?=some (.lst ys)/\TRs s' (thT ns m) ys:=by
 obtain ⟨m,hm,em⟩:=modNat (cl ns 4) 5 (by omega)
 refine ⟨m,hm,fun w st=>?_⟩
 obtain ⟨s1,e1,o1⟩:=y7 ns 4 (by omega) st
 obtain ⟨ys,s4,e4,o4,t4⟩:=zdH (fe:=zl wK (ze (zl yp (ze (zd 1) (ze (zg zZ (mC (.int 11)) (zd 0)) zj))) zj)) (env:=[some (scr ns),some (.str w),none,none,none,none]) (T:=fun x=>match x with | .int k=>lfT (cl ns (11+k.toNat))|_=>.num 0) (nums 0 m) (fun x hx s=>by
  rw [zbL] at hx
  obtain ⟨k,hk,rfl⟩:=List.mem_map.mp hx
  rw [List.mem_range] at hk
  obtain ⟨s',e',o'⟩:=y7 ns (11+k) (by omega) s
  obtain ⟨v,s2,e2,o2,t2⟩:=(lf (cl ns (11+k))).2 s'
  refine ⟨v,s2,zA (zV (zA (zS (zk rfl) (zn rfl (zk rfl) (jH _ _))) e')) e2,o'.trans o2,?_⟩
  show TR s2 (lfT (cl ns (11+((k:Int)).toNat))) _
  rw [Int.toNat_natCast]
  exact t2) [] [] s1 rfl
 have tw:(nums 0 m).map (fun x=>match x with | .int k=>lfT (cl ns (11+k.toNat))|_=>Tr.num 0)=thT ns m:=by
  rw [zbL]
  simp [thT,List.map_map,Function.comp_def]
 rw [List.nil_append,tw] at t4
 have hR:cR (m:Int)=true:=by simp [cR];omega
 refine ⟨s4.length,ys,s4++[.lst ys],yy ?_,o1.trans (o4.trans (yn _ _)),yx _ _,t4.mono (zdw _ _)⟩
 rw [zcw,zcy,zV (zn (zA (zS (zk (v:=scr ns) rfl) rfl) e1) rfl (wc _ 5 m (by omega) em s1)),zF,zfC,if_pos hR,zF,zcx,if_pos (by simp [nums,lim];omega),Int.toNat_natCast]
 exact e4
theorem zqa {st:Sto}{n:Nat}{ks:List Str}{xs:List PV}(hn:st[n]?=some (.dic ks xs)) (hl:ks.length<=1000) (z:Str) (x:PV):jp (.str z) x (.ref n) st=.ok () (st.set n (.dic (yS z x ks xs).1 (yS z x ks xs).2)):=by
 simp only [jp,zcG hn]
 rw [if_pos (by show ks.length<1000000;omega)]
@[simp] theorem zqb {fo fi fv:zc->Mo PV}{env:zc}{st:Sto}:zaf fo fi fv env st=(fv env st).bind fun x st1=>(fo env st1).bind fun o st2=>(fi env st2).bind fun z st3=>(jp z x o st3).bind fun _ st4=>.ok (.nx env) st4:=(rfl)
theorem zqc {fo fi fv:zc->Mo PV}{e:zc}{st s1 s2 s3 s4:Sto}{x o k:PV}(h1:fv e st=.ok x s1) (h2:fo e s1=.ok o s2) (h3:fi e s2=.ok k s3) (h4:jp k x o s3=.ok () s4):zaf fo fi fv e st=.ok (.nx e) s4:=by
 rw [zqb,h1,zF,h2,zF,h3,zF,h4,zF]
abbrev abcde:Str := "abcde"
def kN (k:Nat):Nat:=(abcde.cps.toList[k]?).getD 0
def kS (k:Nat):Str:=⟨#[kN k]⟩ ++ "to"
theorem zhc (k:Nat) (hk:k<5) (st:Sto):zI (.str abcde) (.int k) st=.ok (.str ⟨#[kN k]⟩) st:=by
 have hz:abcde.cps.toList.length=5:=by decide +kernel
 have lt:k<abcde.cps.toList.length:=by omega
 have hl:abcde.length<=1000000:=by decide +kernel
 have e:abcde.cps.toList[k]?=some (kN k):=by unfold kN;rw [List.getElem?_eq_getElem lt];rfl
 rw [zfB,zcr,if_pos hl,atI_get e]
 rfl
theorem zhd:∀i,i<5->∀j,j<5->kS i=kS j->i=j:=by decide +kernel
theorem zdI:∀i,i<5->(kS i).length=3:=by decide +kernel
theorem zhe (k:Nat) (hk:k<5) (st:Sto):zZ (.str ⟨#[kN k]⟩) (.str "to") st=.ok (.str (kS k)) st:=by
 have h1:(("to" : String):Str).length=2:=by decide +kernel
 have h2:=zaE (kN k)
 exact add_str (by omega) st
theorem zqd:∀i,i<5->kS i ≠ "a" := by decide +kernel
def yl (m:Nat):List Str:=(List.range m).map kS
theorem zhf (m:Nat):(yl m).length=m:=by simp [yl]
theorem zqe (m:Nat) (h:m<=5):(yl m).Nodup:=by
 unfold yl List.Nodup
 rw [List.pairwise_map]
 refine List.Pairwise.imp_of_mem ?_ (List.nodup_range (n:=m))
 intro a b ha hb ne e
 rw [List.mem_range] at ha hb
 exact ne (zhd a (by omega) b (by omega) e)
theorem zqf (m:Nat) (h:m<=5):∀z∈yl m,z.length<=1000:=by
 intro z hz
 unfold yl at hz
 obtain ⟨i,hi,rfl⟩:=List.mem_map.mp hz
 rw [List.mem_range] at hi
 rw [zdI i (by omega)];omega
theorem zqg (m:Nat) (h:m<=5):yl m≠(["a", "of"]:List Str):=by
 intro e
 have:("a" : Str)∈yl m:=by rw [e];simp
 unfold yl at this
 obtain ⟨i,hi,q⟩:=List.mem_map.mp this
 rw [List.mem_range] at hi
 exact zqd i (by omega) q
inductive VOk:Str->List Tr->Prop
 | down (i:Int):VOk "down" [.num i]
 | head {us:List Tr} (h:∀t∈us,Lf t) (l:us.length<5):VOk "head" [.row us]
 | rest {us:List Tr} (h:∀t∈us,Lf t) (l:us.length<5):VOk "rest" [.row us]
 | item {us:List Tr} (h:∀t∈us,Lf t) (l:us.length<5) (a:Nat):VOk "item" [.row us,.num a]
 | field {us:List Tr} (h:∀t∈us,Lf t) (l:us.length<5) {z:Str} (hz:z.length<=1000):VOk "field" [.rec_ (yl us.length) us,.word z]
abbrev bdV:zc->Mo Fl:=(zaf (zd 4) (zg zZ (zg zI (mC (.str "abcde")) (zd 5)) (mC (.str "to"))) (zg zI (zd 2) (zd 5)))
theorem zqh {st:Sto}{r:Nat}{vs:List PV}{ts:List Tr}{e0 e1 e3:Option PV}(hv:st[r]?=some (.lst vs)) (tr:TRs st ts vs) (hl:ts.length<5) :
  ∃z5 s',(ww (iRng1 (ze (zl ye (ze (zd 2) zj)) zj)) (gN 5) bdV) [e0,e1,some (.ref r),e3,some (.ref st.length),none] (st++[.dic [] []])=.ok (.nx [e0,e1,some (.ref r),e3,some (.ref st.length),z5]) s'/\Old st s'/\TR s' (.rec_ (yl ts.length) ts) (.ref st.length):=by
 have ll:=tr.len
 obtain ⟨env',st',F,z5,rfl,hr,o⟩:=zgU (g:=gN 5) (body:=bdV) (fun i e s=>∃z5,e=[e0,e1,some (.ref r),e3,some (.ref st.length),z5]/\s[st.length]?=some (.dic (yl i) (vs.take i))/\Old st s) vs.length (fun i e s hi ⟨z5,he,h1,o⟩=>by
  subst he
  have hv1:vs[i]?=some (vs[i]'hi):=List.getElem?_eq_getElem hi
  have hv':=o _ _ hv
  have av:=atI_get hv1
  have dp:=zqa h1 (by rw [zhf];omega) (kS i) (vs[i]'hi)
  have nc:(yl i).contains (kS i)=false:=by
   rw [Bool.eq_false_iff]
   intro h
   have hm:kS i∈yl i:=by simpa using h
   unfold yl at hm
   obtain ⟨j,hj,e⟩:=List.mem_map.mp hm
   rw [List.mem_range] at hj
   exact absurd (zhd j (by omega) i (by omega) e) (by omega)
  have ed:yS (kS i) (vs[i]'hi) (yl i) (vs.take i)=(yl (i+1),vs.take (i+1)):=by
   unfold yS
   rw [nc]
   simp only [Bool.false_eq_true,↓reduceIte]
   rw [List.take_succ_eq_append_getElem hi]
   simp [yl,List.range_succ]
  rw [ed] at dp
  have hlt:=wQ h1
  have ix:zI (.ref r) (.int (i:Int)) s=.ok (vs[i]'hi) s:=by rw [zcv,yF hv',av,zbc]
  exact ⟨[e0,e1,some (.ref r),e3,some (.ref st.length),some (.int (i:Int))],_,s.set st.length (.dic (yl (i+1)) (vs.take (i+1))),rfl,zqc (zn (zk rfl) (zk rfl) ix) (zk rfl) (zn (zn rfl (zk rfl) (zhc i (by omega) s)) rfl (zhe i (by omega) s)) dp,some (.int (i:Int)),rfl,by rw [List.getElem?_set_self hlt],o.set (Nat.le_refl _) _⟩) vs.length 0 [e0,e1,some (.ref r),e3,some (.ref st.length),none] (st++[.dic [] []]) (by omega) ⟨none,rfl,by simp [yl],yn _ _⟩
 rw [List.take_of_length_le (Nat.le_refl _)] at hr
 refine ⟨z5,st',?_,o,st.length,vs,rfl,by rw [ll];exact hr,zqe _ (by omega),by rw [zhf,ll],tr.mono o.dk,zqf _ (by omega)⟩
 have R:=zpP vs.length (st++[.dic [] []]) (by omega)
 have ln:=zbl (yn st [.dic [] []] _ _ hv)
 rw [zms,zcy,zV (zA (zV (zk (v:=.ref r) rfl)) ln),zF,R,zF,zmt]
 exact F
theorem zqi (ns:List Int) (w:Str) (hw:w∈ct_FALLING):∃ts,VOk w ts/\∀st,∃xs s',zar [scr ns,.str w] st=.ok (.tup xs) s'/\Old st s'/\TRs s' ts xs:=by
 obtain ⟨m,hm,things⟩:=zp9 ns
 obtain ⟨a,ha,ea⟩:=modNat (cl ns 5) 5 (by omega)
 have run:∀st,∃r ys s',Old st s'/\s'[r]?=some (.lst ys)/\TRs s' (thT ns m) ys/\∀X:PV×Sto,zgi [some (scr ns),some (.str w),some (.ref r),some (.int (a:Int)),none,none] s'=.ok (.rt X.1) X.2->zar [scr ns,.str w] st=.ok X.1 X.2:=fun st=>by
  obtain ⟨r,ys,s1,e1,o1,h1,t1⟩:=things w st
  obtain ⟨s2,e2,o2⟩:=y7 ns 5 (by omega) s1
  exact ⟨r,ys,s2,o1.trans o2,o2 _ _ h1,t1.mono o2.dk,fun X hX=>yr rfl (zu e1 (zu (yy (zn (zA (zS (zk rfl) rfl) e2) rfl (wc _ 5 a (by omega) ea s2))) hX))⟩
 have lfs:=zp7 ns m
 have ln:=zp8 ns m
 have neq:∀{z:Str} {e:zc} {st:Sto} {g:zc->Mo Fl},e[1]?=some (some (.str w))->w≠z->zH (mB (zg yo (zd 1) (mC (.str z)))) g zJ e st=.ok (.nx e) st:=fun he h=>zR (zX (zn (zk he) rfl (by rw [zf3,decide_eq_false h])))
 have yeq:∀{z:Str} {e:zc} {st s1:Sto} {v:PV} {g:zc->Mo Fl},e[1]?=some (some (.str w))->w=z->g e st=.ok (.rt v) s1->zH (mB (zg yo (zd 1) (mC (.str z)))) g zJ e st=.ok (.rt v) s1:=fun he h hg=>yq (zX (zn (zk he) rfl (by rw [zf3,decide_eq_true h]))) hg
 simp only [ct_FALLING,List.mem_cons,List.not_mem_nil,or_false] at hw
 rcases hw with h|h|h|h|h
 ·by_cases h3:zO (cl ns 4) 3=0
  ·refine ⟨[.num (zO (cl ns 5) 1000000000000000000)],by rw [h];exact .down _,fun st=>?_⟩
   obtain ⟨r,ys,s1,o1,h1,t1,K⟩:=run st
   obtain ⟨s2,e2,o2⟩:=y7 ns 4 (by omega) s1
   obtain ⟨s3,e3,o3⟩:=y7 ns 5 (by omega) s2
   exact ⟨_,s3,K (_,s3) (ym (yeq rfl h (ym (yq (zX (b:=true) (zn (zn (zA (zS (zk rfl) rfl) e2) rfl (yG _ _ (by decide))) rfl (by rw [zbm,decide_eq_true h3]))) (zT (jT (zV (zn (zA (zS (zk rfl) rfl) e3) (zn rfl rfl (zbM _)) (yG _ _ (by decide)))) (by simp))))))),o1.trans (o2.trans o3),_,_,rfl,rfl,rfl⟩
  ·refine ⟨[.num (zO (cl ns 5) 12-3)],by rw [h];exact .down _,fun st=>?_⟩
   obtain ⟨r,ys,s1,o1,h1,t1,K⟩:=run st
   obtain ⟨s2,e2,o2⟩:=y7 ns 4 (by omega) s1
   obtain ⟨s3,e3,o3⟩:=y7 ns 5 (by omega) s2
   exact ⟨_,s3,K (_,s3) (ym (yeq rfl h (zu (zR (zX (b:=false) (zn (zn (zA (zS (zk rfl) rfl) e2) rfl (yG _ _ (by decide))) rfl (by rw [zbm,decide_eq_false h3])))) (zT (jT (zV (zn (zn (zA (zS (zk rfl) rfl) e3) rfl (yG _ _ (by decide))) rfl (wG _ _))) (by simp)))))),o1.trans (o2.trans o3),_,_,rfl,rfl,rfl⟩
 ·refine ⟨[.row (thT ns m)],by rw [h];exact .head lfs (by omega),fun st=>?_⟩
  obtain ⟨r,ys,s1,o1,h1,t1,K⟩:=run st
  refine ⟨[.tup ys],s1,K (_,s1) (zu (neq rfl (by rw [h];decide)) (zu (neq rfl (by rw [h];decide)) (zu (neq rfl (by rw [h];decide)) (zT (jT (zV (zA (zV (zk rfl)) ?_)) (by simp)))))),o1,_,_,rfl,⟨_,rfl,t1⟩,rfl⟩
  rw [zcz,yF h1]
 ·refine ⟨[.row (thT ns m)],by rw [h];exact .rest lfs (by omega),fun st=>?_⟩
  obtain ⟨r,ys,s1,o1,h1,t1,K⟩:=run st
  refine ⟨[.tup ys],s1,K (_,s1) (zu (neq rfl (by rw [h];decide)) (zu (neq rfl (by rw [h];decide)) (zu (neq rfl (by rw [h];decide)) (zT (jT (zV (zA (zV (zk rfl)) ?_)) (by simp)))))),o1,_,_,rfl,⟨_,rfl,t1⟩,rfl⟩
  rw [zcz,yF h1]
 ·refine ⟨[.row (thT ns m),.num a],by rw [h];exact .item lfs (by omega) a,fun st=>?_⟩
  obtain ⟨r,ys,s1,o1,h1,t1,K⟩:=run st
  refine ⟨[.tup ys,.int a],s1,K (_,s1) (zu (neq rfl (by rw [h];decide)) (zu (neq rfl (by rw [h];decide)) (ym (yeq rfl h (zT (jT (zS (zA (zV (zk rfl)) ?_) (zk rfl)) (by simp))))))),o1,_,_,rfl,⟨_,rfl,t1⟩,_,_,rfl,rfl,rfl⟩
  rw [zcz,yF h1]
 ·refine ⟨[.rec_ (yl (thT ns m).length) (thT ns m),.word (kS a)],by rw [h];exact .field lfs (by omega) (by rw [zdI a ha];omega),fun st=>?_⟩
  obtain ⟨r,ys,s1,o1,h1,t1,K⟩:=run st
  obtain ⟨z5,s2,e2,o2,t2⟩:=zqh (e0:=some (scr ns)) (e1:=some (.str w)) (e3:=some (.int (a:Int))) h1 t1 (by omega)
  exact ⟨[.ref s1.length,.str (kS a)],s2,K (_,s2) (zu (neq rfl (by rw [h];decide)) (ym (yeq rfl h (zu (yy rfl) (zu e2 (zT (jT (zS (zk rfl) (zn (zn rfl (zk rfl) (zhc a ha _)) rfl (zhe a ha _))) (by simp)))))))),o1.trans o2,_,_,rfl,t2,_,_,rfl,⟨rfl,by rw [zdI a ha];omega⟩,rfl⟩
theorem boolsP_map:∀bs:List Bool,boolsP (bs.map PV.bl)=some bs
 | []=>rfl
 | b::bs=>by simp [boolsP,boolsP_map bs]
theorem zhg {st:Sto}{n:Nat}{bs:List Bool}(h:st[n]?=some (.lst (bs.map PV.bl))):zaj [.ref n] st=.ok (.bl (bs.any id)) st:=by
 unfold zaj
 rw [zmQ,yF h,zF,yF h]
 simp only [boolsP_map]
section
variable {mr:List PV->Mo PV}{P:PV->Prop}{v w:PV}
abbrev feP (mr:List PV->Mo PV):zc->Mo PV:=zl mr (ze (zd 1) (ze (zd 0) zj))
theorem zhh {x:PV}{s:Sto}{X:Res PV}(h:mr [v,x] s=X):feP mr (some x::[some v,some w]) s=X:=zA (zS (zk rfl) (zk rfl)) h
theorem zhi:∀(xs:List PV) (acc:List Bool) (s0 s:Sto),Old s0 s->(∀x∈xs,∀s,Old s0 s->∃b s',mr [v,x] s=.ok (.bl b) s'/\Old s s'/\(P x->b=true)) ->
  ∃(bs:List Bool) (s':Sto),compL (feP mr) [some v,some w] xs (acc.map PV.bl) s=.ok (.ref s'.length) (s'++[.lst (bs.map PV.bl)])/\Old s s'/\((true∈acc\/∃x∈xs,P x)->true∈bs)
 | [],acc,s0,s,_,_=>⟨acc,s,rfl,Old.refl _,fun h=>h.elim id (fun ⟨x,h,_⟩=>by cases h)⟩
 | x::xs,acc,s0,s,o,h=>by
  obtain ⟨b,s1,e1,o1,hb⟩:=h x (List.mem_cons_self ..) s o
  obtain ⟨bs,s2,e2,o2,ht⟩:=zhi xs (acc++[b]) s0 s1 (o.trans o1) fun y hy=>h y (List.mem_cons_of_mem _ hy)
  refine ⟨bs,s2,?_,o1.trans o2,fun q=>ht ?_⟩
  ·simp only [compL,zhh e1,wA,zF]
   rw [List.map_append] at e2
   exact e2
  ·rcases q with q|⟨y,hy,q⟩
   ·exact .inl (List.mem_append_left _ q)
   ·rcases List.mem_cons.mp hy with rfl|hy
    ·exact .inl (by rw [hb q];simp)
    ·exact .inr ⟨y,hy,q⟩
theorem zhj:∀(xs:List PV) (acc:List Bool) (s0 s:Sto),Old s0 s->(∀x∈xs,∀s,Old s0 s->∃b s',mr [v,x] s=.ok (.bl b) s'/\Old s s'/\(P x->b=true)) ->
  ∃(bs:List Bool) (s':Sto),compK (feP mr) [some v,some w] xs (acc.map PV.bl) s=.ok (bs.map PV.bl) s'/\Old s s'/\((true∈acc\/∃x∈xs,P x)->true∈bs)
 | [],acc,s0,s,_,_=>⟨acc,s,rfl,Old.refl _,fun h=>h.elim id (fun ⟨x,h,_⟩=>by cases h)⟩
 | x::xs,acc,s0,s,o,h=>by
  obtain ⟨b,s1,e1,o1,hb⟩:=h x (List.mem_cons_self ..) s o
  obtain ⟨bs,s2,e2,o2,ht⟩:=zhj xs (acc++[b]) s0 s1 (o.trans o1) fun y hy=>h y (List.mem_cons_of_mem _ hy)
  refine ⟨bs,s2,?_,o1.trans o2,fun q=>ht ?_⟩
  ·simp only [compK,zhh e1,wA,zF]
   rw [List.map_append] at e2
   exact e2
  ·rcases q with q|⟨y,hy,q⟩
   ·exact .inl (List.mem_append_left _ q)
   ·rcases List.mem_cons.mp hy with rfl|hy
    ·exact .inl (by rw [hb q];simp)
    ·exact .inr ⟨y,hy,q⟩
theorem zhk {bs:List Bool}(h:true∈bs):bs.any id=true:=List.any_eq_true.mpr ⟨true,h,rfl⟩
end
section
variable {mr:List PV->Mo PV}{st:Sto}{f t:Tr}{v w:PV}
theorem isB (h:TR st f v):zK isT [v,.ty "bool"] st=.ok (.bl false) st:=by
 rw [zaB h];cases f<;>rfl
theorem isK (h:TR st f v) (n:String) {b:Bool}(hb:tyb (ty f) n=some b):(mB (zl (zK isT) (ze (zd 0) (ze (mC (.ty n)) zj)))) [some v,some w] st=.ok b st:=zX (zA (zS (zk rfl) rfl) (by rw [zaB h,hb];rfl))
theorem isW' (h:TR st t w) (n:String) {b:Bool}(hb:tyb (ty t) n=some b):(mB (zl (zK isT) (ze (zd 1) (ze (mC (.ty n)) zj)))) [some v,some w] st=.ok b st:=zX (zA (zS (zk rfl) rfl) (by rw [zaB h,hb];rfl))
theorem notB (h:TR st f v):(mB (zl (zK isT) (ze (zd 0) (ze (mC (.ty "bool")) zj)))) [some v,some w] st=.ok false st:=zX (zA (zS (zk rfl) rfl) (isB h))
theorem zdJ (hf:TR st f v) (ht:TR st t w) (hd:dp f<150):∃b,jE v w st=.ok (.bl b) st/\(f=t->b=true):=by
 obtain ⟨b,e,h⟩:=zgM 150 f t v w hd hf ht
 exact ⟨b,by unfold jE;rw [e],h⟩
theorem wR (hf:TR st f v) (ht:TR st t w) (hd:dp f<150) (hk:ty t ≠ "int" \/ ty f = "int"):∃b,(f=t->b=true)/\(b=true->jv mr [v,w] st=.ok (.bl true) st)/\(b=false->∀X:PV×Sto,zgD mr [some v,some w] st=.ok (.rt X.1) X.2->jv mr [v,w] st=.ok X.1 X.2):=by
 obtain ⟨b,e,h⟩:=zdJ hf ht hd
 have C:(yu (mB (zl (zK isT) (ze (zd 0) (ze (mC (.ty "bool")) zj)))) (yV (mB (zl (zK isT) (ze (zd 1) (ze (mC (.ty "int")) zj)))) (yE (mB (zl (zK isT) (ze (zd 0) (ze (mC (.ty "int")) zj))))))) [some v,some w] st=.ok false st:=by
  refine yL (notB hf) ?_
  by_cases hi:ty t = "int"
  ·have hfi:=hk.resolve_left (fun z=>z hi)
   exact j8 (isW' ht "int" (by rw [hi];rfl)) (jG (b:=true) (isK hf "int" (by rw [hfi];rfl)))
  ·exact zcH (isW' ht "int" (by cases t<;>first|rfl|exact absurd rfl hi))
 refine ⟨b,h,fun hb=>?_,fun hb X hX=>?_⟩
 ·subst hb
  exact yr rfl (zu (zR C) (ym (yq (zX (zn (zk rfl) (zk rfl) e)) (zT rfl))))
 ·subst hb
  exact yr rfl (zu (zR C) (zu (zR (zX (zn (zk rfl) (zk rfl) e))) hX))
theorem zbN (hf:TR st f v) (hd:dp f<150) (i:Int):∃b,jv mr [v,.int i] st=.ok (.bl b) st/\(f=.num i->b=true):=by
 have ht:TR st (.num i) (.int i):=rfl
 by_cases hi:ty f = "int"
 ·obtain ⟨b,h1,h2,h3⟩:=wR (mr:=mr) hf ht hd (.inr hi)
  cases b with
  | true=>exact ⟨true,h2 rfl,fun _=>rfl⟩
  | false =>
   cases f with
   | num j =>
    cases hf
    exact ⟨_,h3 rfl (_,st) (ym (yq (isW' ht "int" rfl) (zT (v:=.bl (decide (0<=j)&&decide (j<i))) (by by_cases q:0<=j<;>simp [q])))),fun e=>by cases h1 e⟩
   | word z=>exact absurd hi (by simp [ty])
   | row us=>exact absurd hi (by simp [ty])
   | rec_ ks us=>exact absurd hi (by simp [ty])
 ·refine ⟨false,?_,fun e=>absurd (by rw [e];rfl) hi⟩
  refine yr rfl (ym (yq (yL (notB hf) (j8 (isW' ht "int" rfl) (jG (b:=false) (isK hf "int" ?_)))) (zT rfl)))
  cases f<;>first|rfl|exact absurd rfl hi
theorem zqj {i:Int}(h:1<=i):jv mr [.int (i-1),.int i] st=.ok (.bl true) st:=by
 have hf:TR st (.num (i-1)) (.int (i-1)):=rfl
 have ht:TR st (.num i) (.int i):=rfl
 obtain ⟨b,h1,h2,h3⟩:=wR (mr:=mr) hf ht (by simp [dp]) (.inr rfl)
 cases b with
 | true=>exact h2 rfl
 | false =>
  have q1:0<=i-1:=by omega
  have q2:i-1<i:=by omega
  exact h3 rfl (_,st) (ym (yq (isW' ht "int" rfl) (zT (by simp [q2];omega))))
theorem zqk (hf:TR st f v) (hd:dp f<150) {z:Str}(hz:z.length<=1000):∃b,jv mr [v,.str z] st=.ok (.bl b) st/\(f=.word z->b=true):=by
 have ht:TR st (.word z) (.str z):=⟨rfl,hz⟩
 obtain ⟨b,h1,h2,h3⟩:=wR (mr:=mr) hf ht hd (.inl (by simp [ty]))
 cases b with
 | true=>exact ⟨true,h2 rfl,fun _=>rfl⟩
 | false=>exact ⟨false,h3 rfl (_,st) (zu (zR (isW' ht "int" rfl)) (zu (zR (isW' ht "tuple" rfl)) (zu (zR (isW' ht "dict" rfl)) (zT rfl)))),fun e=>by cases h1 e⟩
theorem zdK {P:PV->Prop}{us:List Tr}{ws:List PV}(hf:TR st f v) (hd:dp f<149) (ht:TRs st us ws) (hl:us.length<=1000) (hc:∀x∈ws,∀s,Old st s->∃b s',mr [v,x] s=.ok (.bl b) s'/\Old s s'/\(P x->b=true)) :
  ∃b s',jv mr [v,.tup ws] st=.ok (.bl b) s'/\Old st s'/\(f=.row us->b=true)/\((∃x∈ws,P x)->b=true)/\(∀k,0<k->k<=us.length->f=.row (us.drop k)->b=true):=by
 have htr:TR st (.row us) (.tup ws):=⟨ws,rfl,ht⟩
 have hw:=ht.len
 obtain ⟨b,h1,h2,h3⟩:=wR (mr:=mr) hf htr (by omega) (.inl (by simp [ty]))
 cases b with
 | true=>exact ⟨true,st,h2 rfl,Old.refl _,fun _=>rfl,fun _=>rfl,fun _ _ _ _=>rfl⟩
 | false =>
  have S:∃c,(yV (mB (zl (zK isT) (ze (zd 0) (ze (mC (.ty "tuple")) zj)))) (yV (mB (zg jm (zl ye (ze (zd 0) zj)) (zl ye (ze (zd 1) zj)))) (mB (zg jE (zd 0) (yJ (zd 1) (pSome (zg ja (zl ye (ze (zd 1) zj)) (zl ye (ze (zd 0) zj)))) pNone))))) [some v,some (.tup ws)] st=.ok c st/\∀k,0<k->k<=us.length->f=.row (us.drop k)->c=true:=by
   by_cases hft:ty f = "tuple"
   ·cases f with
    | row fs =>
     obtain ⟨vs,rfl,hr⟩:=hf
     have hv:=hr.len
     by_cases hlt:vs.length<ws.length
     ·obtain ⟨k,hk⟩:∃k:Nat,k=ws.length-vs.length:=⟨_,rfl⟩
      obtain ⟨c,e,h⟩:=zdJ (f:=.row fs) (t:=.row (us.drop k)) (v:=.tup vs) (w:=.tup (ws.drop k)) (st:=st) ⟨_,rfl,hr⟩ ⟨_,rfl,ht.drop k⟩ (by omega)
      have hs:((ws.length:Int)-(vs.length:Int))=(k:Int):=by omega
      refine ⟨c,j8 (isK (f:=.row fs) ⟨_,rfl,hr⟩ "tuple" rfl) (j8 (zX (zn (zA (zV (zk rfl)) (jr ..)) (zA (zV (zk rfl)) (jr ..)) (by rw [zcI,decide_eq_true (by omega)]))) (zX (zn (zk rfl) (js (zk rfl) (jt (zn (zA (zV (zk rfl)) (jr ..)) (zA (zV (zk rfl)) (jr ..)) (wG _ _))) ju (X:=.ok (.tup (ws.drop k)) st) ?_) e))),fun j h0 hj hfj=>?_⟩
      ·rw [zff,hs,zgY]
      ·injection hfj with hfj
       have hle:fs.length=us.length-j:=by rw [hfj,List.length_drop]
       have:j=k:=by omega
       exact h (by rw [hfj,this])
     ·refine ⟨false,j8 (isK (f:=.row fs) ⟨_,rfl,hr⟩ "tuple" rfl) (zcH (zX (zn (zA (zV (zk rfl)) (jr ..)) (zA (zV (zk rfl)) (jr ..)) (by rw [zcI,decide_eq_false (by omega)])))),fun j h0 hj hfj=>?_⟩
      injection hfj with hfj
      have hle:fs.length=us.length-j:=by rw [hfj,List.length_drop]
      omega
    | num i=>exact absurd hft (by simp [ty])
    | word z=>exact absurd hft (by simp [ty])
    | rec_ ks us=>exact absurd hft (by simp [ty])
   ·exact ⟨false,zcH (isK hf "tuple" (by cases f<;>first|rfl|exact absurd rfl hft)),fun j h0 hj hfj=>absurd (by rw [hfj];rfl) hft⟩
  obtain ⟨c,S,hS⟩:=S
  cases c with
  | true=>exact ⟨true,st,h3 rfl (_,st) (zu (zR (isW' htr "int" rfl)) (ym (yq (isW' htr "tuple" rfl) (ym (yq S (zT rfl)))))),Old.refl _,fun _=>rfl,fun _=>rfl,fun _ _ _ _=>rfl⟩
  | false =>
   obtain ⟨bs,s1,e1,o1,hb⟩:=zhi (mr:=mr) (P:=P) (v:=v) (w:=.tup ws) ws [] st st (Old.refl _) hc
   have top:=yx s1 (.lst (bs.map PV.bl))
   refine ⟨bs.any id,s1++[.lst (bs.map PV.bl)],h3 rfl (_,_) (zu (zR (isW' htr "int" rfl)) (ym (yq (isW' htr "tuple" rfl) (zu (zR S) (zT (zA (zV (x:=.ref s1.length) (s1:=s1++[.lst (bs.map PV.bl)]) ?_) (zhg top))))))),o1.trans (yn _ _),(fun e=>by cases h1 e),fun q=>zhk (hb (.inr q)),(fun k h0 hk hfk=>by cases hS k h0 hk hfk)⟩
   rw [zcw,zmq,zk (v:=.tup ws) rfl,zF,zmr,zF,zcx,if_pos (by show _<=1000000;omega)]
   exact e1
theorem zql {st s1:Sto}{n:Nat}{ks:List Str}{xs:List PV}(hn:st[n]?=some (.dic ks xs)) (o:Old (st.set n (.fdi ks xs)) s1) (so:SO):Old st ((s1++[so]).set n (.dic ks xs))/\s1[n]?=some (.fdi ks xs):=by
 have hlt:=wQ hn
 have h1:s1[n]?=some (.fdi ks xs):=o n _ (by rw [List.getElem?_set_self hlt])
 refine ⟨fun m s e=>?_,h1⟩
 by_cases hm:n=m
 ·subst hm
  rw [List.getElem?_set_self (by have:=wQ h1;simp;omega),<-hn]
  exact e
 ·rw [List.getElem?_set_ne hm]
  exact yn _ _ m s (o m s (by rw [List.getElem?_set_ne hm];exact e))
theorem zhl {P:PV->Prop}{ks:List Str}{us:List Tr}{xs:List PV}{n:Nat}(hf:TR st f v) (hd:dp f<149) (ht:TR st (.rec_ ks us) (.ref n)) (hn:st[n]?=some (.dic ks xs))
  (hc:f ≠ .rec_ ks us->∀x∈xs,∀s,Old (st.set n (.fdi ks xs)) s->∃b s',mr [v,x] s=.ok (.bl b) s'/\Old s s'/\(P x->b=true)) :
  ∃b s',jv mr [v,.ref n] st=.ok (.bl b) s'/\Old st s'/\(f=.rec_ ks us->b=true)/\((∃x∈xs,P x)->b=true):=by
 obtain ⟨b,h1,h2,h3⟩:=wR (mr:=mr) hf ht (by omega) (.inl (by simp [ty]))
 cases b with
 | true=>exact ⟨true,st,h2 rfl,Old.refl _,fun _=>rfl,fun _=>rfl⟩
 | false =>
  have hne:f ≠ .rec_ ks us:=fun e=>by cases h1 e
  obtain ⟨bs,s1,e1,o1,hb⟩:=zhj (mr:=mr) (P:=P) (v:=v) (w:=.ref n) xs [] (st.set n (.fdi ks xs)) (st.set n (.fdi ks xs)) (Old.refl _) (hc hne)
  obtain ⟨o2,hz⟩:=zql hn o1 (.lst (bs.map PV.bl))
  have hlt:=wQ hz
  have top:((s1++[SO.lst (bs.map PV.bl)]).set n (.dic ks xs))[s1.length]?=some (.lst (bs.map PV.bl)):=by
   rw [List.getElem?_set_ne (by omega)]
   exact yx _ _
  refine ⟨bs.any id,_,h3 rfl (_,_) (zu (zR (isW' ht "int" rfl)) (zu (zR (isW' ht "tuple" rfl)) (ym (yq (isW' ht "dict" rfl) (zT (zA (zV (x:=.ref s1.length) (s1:=(s1++[SO.lst (bs.map PV.bl)]).set n (.dic ks xs)) ?_) (zhg top))))))),o2,fun e=>absurd e hne,fun q=>zhk (hb (.inr q))⟩
  unfold zcL
  rw [zk (v:=.ref n) rfl,zF,znu,zcG hn]
  have e1':compK (feP mr) [some v,some (.ref n)] xs [] (st.set n (.fdi ks xs))=.ok (bs.map PV.bl) s1:=e1
  show (noErr (compK (feP mr) [some v,some (.ref n)] xs [] (st.set n (.fdi ks xs)))).bind _=_
  rw [e1',wA,zF]
  unfold thawM
  have hz2:(s1++[SO.lst (bs.map PV.bl)])[n]?=some (.fdi ks xs):=yn _ _ n _ hz
  rw [hz2]
end
theorem Lf.dp {t:Tr}(h:Lf t):dp t<=2:=by cases h<;>simp [FK16.dp,dps]
theorem Lf.keys {t:Tr} (h:Lf t) {ks:List Str} {us:List Tr} (e:t=.rec_ ks us):ks=((["a", "of"]):List Str):=by
 cases h<;>cases e
 rfl
theorem zdL {f:Tr}{v:PV}{st:Sto}{m:Nat}{so:SO}(hf:Lf f) (h:TR st f v) (hne:v ≠ .ref m):TR (st.set m so) f v:=by
 cases hf with
 | num i=>exact h
 | word z=>exact h
 | row i j =>
  obtain ⟨xs,rfl,x,r,rfl,h1,y,r',rfl,h2,rfl⟩:=h
  exact ⟨_,rfl,_,_,rfl,h1,_,_,rfl,h2,rfl⟩
 | rec_ i =>
  obtain ⟨n,xs,rfl,h1,nd,hl,⟨x,r,rfl,h2,y,r',rfl,⟨ys,rfl,hy⟩,rfl⟩,hk⟩:=h
  have ne:m≠n:=fun e=>hne (by rw [e])
  exact ⟨n,_,rfl,by rw [List.getElem?_set_ne ne];exact h1,nd,hl,⟨_,_,rfl,h2,_,_,rfl,⟨ys,rfl,hy⟩,rfl⟩,hk⟩
theorem zhm (n:Nat) {f t:Tr}(hf:Lf f) (ht:Lf t) {v w:PV}{st:Sto}(tf:TR st f v) (tt:TR st t w):∃b s',yz (n+2) [v,w] st=.ok (.bl b) s'/\Old st s'/\(f=t->b=true):=by
 have hd:=hf.dp
 show ∃b s',jv (yz (n+1)) [v,w] st=.ok (.bl b) s'/\Old st s'/\(f=t->b=true)
 cases ht with
 | num i =>
  cases tt
  obtain ⟨b,e,h⟩:=zbN (mr:=yz (n+1)) tf (by omega) i
  exact ⟨b,st,e,Old.refl _,h⟩
 | word z =>
  obtain ⟨rfl,hz⟩:=tt
  obtain ⟨b,e,h⟩:=zqk (mr:=yz (n+1)) tf (by omega) hz
  exact ⟨b,st,e,Old.refl _,h⟩
 | row i j =>
  obtain ⟨xs,rfl,hr⟩:=tt
  obtain ⟨b,s',e,o,h,_⟩:=zdK (mr:=yz (n+1)) (P:=fun _=>False) tf (by omega) hr (by simp) (fun x hx s os=>by
   obtain ⟨x1,r,rfl,h1,x2,r',rfl,h2,rfl⟩:=hr
   cases h1
   cases h2
   rcases List.mem_cons.mp hx with rfl|hx
   ·obtain ⟨b,e,_⟩:=zbN (mr:=yz n) (tf.mono os.dk) (by omega) i
    exact ⟨b,s,e,Old.refl _,fun z=>z.elim⟩
   ·rw [List.mem_singleton.mp hx]
    obtain ⟨b,e,_⟩:=zbN (mr:=yz n) (tf.mono os.dk) (by omega) j
    exact ⟨b,s,e,Old.refl _,fun z=>z.elim⟩)
  exact ⟨b,s',e,o,h⟩
 | rec_ i =>
  have tt':=tt
  obtain ⟨m,xs,rfl,hm,nd,hl,hr,hk⟩:=tt
  obtain ⟨b,s',e,o,h,_⟩:=zhl (mr:=yz (n+1)) (P:=fun _=>False) tf (by omega) tt' hm (fun hne x hx s os=>by
   have tf2:TR (st.set m (.fdi ["a", "of"] xs)) f v:=zdL hf tf fun ev=>by
    subst ev
    exact hne (TR.one _ _ tf tt')
   have tf3:=tf2.mono os.dk
   obtain ⟨x1,r,rfl,h1,x2,r',rfl,⟨ys,rfl,hy⟩,rfl⟩:=hr
   cases h1
   cases hy
   rcases List.mem_cons.mp hx with rfl|hx
   ·obtain ⟨b,e,_⟩:=zbN (mr:=yz n) tf3 (by omega) i
    exact ⟨b,s,e,Old.refl _,fun z=>z.elim⟩
   ·rw [List.mem_singleton.mp hx]
    obtain ⟨b,s',e,o,_⟩:=zdK (mr:=yz n) (P:=fun _=>False) (us:=[]) (ws:=[]) tf3 (by omega) rfl (by simp) (fun x hx=>by cases hx)
    exact ⟨b,s',e,o,fun z=>z.elim⟩)
  exact ⟨b,s',e,o,h⟩
section
variable {st:Sto}{us:List Tr}{ws:List PV}{f:Tr}{v:PV}
theorem zhn (hl:∀t∈us,Lf t) (hn:us.length<5) (ht:TRs st us ws) {i:Nat}(hi:us[i]?=some f) (hv:ws[i]?=some v) (tf:TR st f v):∃s',yz 6 [v,.tup ws] st=.ok (.bl true) s'/\Old st s':=by
 have hf:=hl f (List.mem_of_getElem? hi)
 have hd:=hf.dp
 obtain ⟨b,s',e,o,_,h,_⟩:=zdK (mr:=yz 5) (P:=fun x=>TR st f x) tf (by omega) ht (by omega) (fun x hx s os=>by
  obtain ⟨j,hj⟩:=List.getElem?_of_mem hx
  obtain ⟨t,h1,h2⟩:=ht.get hj
  obtain ⟨b,s',e,o,hb⟩:=zhm 3 hf (hl t (List.mem_of_getElem? h1)) (tf.mono os.dk) (h2.mono os.dk)
  exact ⟨b,s',e,o,fun q=>hb (TR.one _ _ q h2)⟩)
 have:=h ⟨v,List.mem_of_getElem? hv,tf⟩
 subst this
 exact ⟨s',e,o⟩
theorem zqm {u:Tr}{y:PV}(hl:∀t∈u::us,Lf t) (hn:(u::us).length<5) (hy:TR st u y) (ht:TRs st us ws):∃s',yz 6 [.tup ws,.tup (y::ws)] st=.ok (.bl true) s'/\Old st s':=by
 have hd:dps us<=2:=by
  have:∀{ts:List Tr},(∀t∈ts,Lf t)->dps ts<=2:=by
   intro ts
   induction ts with
   | nil=>intro _;simp [dps]
   | cons a ts ih =>
    intro h
    have h1:=(h a (List.mem_cons_self ..)).dp
    have h2:=ih fun t q=>h t (List.mem_cons_of_mem _ q)
    simp only [dps];omega
  exact this fun t h=>hl t (List.mem_cons_of_mem _ h)
 have tf:TR st (.row us) (.tup ws):=⟨_,rfl,ht⟩
 have tr:TRs st (u::us) (y::ws):=⟨_,_,rfl,hy,ht⟩
 have htr:TR st (.row (u::us)) (.tup (y::ws)):=⟨_,rfl,tr⟩
 obtain ⟨b,h1,h2,h3⟩:=wR (mr:=yz 5) tf htr (by simp only [dp];omega) (.inl (by simp [ty]))
 cases b with
 | true=>exact ⟨st,h2 rfl,Old.refl _⟩
 | false =>
  obtain ⟨c,e,h⟩:=zdJ (f:=.row us) (t:=.row us) (v:=.tup ws) (w:=.tup ws) (st:=st) tf tf (by simp only [dp];omega)
  rw [h rfl] at e
  have hs:(((y::ws).length:Int)-(ws.length:Int))=((1:Nat):Int):=by simp;omega
  refine ⟨st,h3 rfl (_,st) (zu (zR (isW' htr "int" rfl)) (ym (yq (isW' htr "tuple" rfl) (ym (yq (j8 (isK tf "tuple" rfl) (j8 (zX (zn (zA (zV (zk rfl)) (jr ..)) (zA (zV (zk rfl)) (jr ..)) (by rw [zcI,decide_eq_true (by simp;omega)]))) (zX (zn (zk rfl) (js (zk rfl) (jt (zn (zA (zV (zk rfl)) (jr ..)) (zA (zV (zk rfl)) (jr ..)) (wG _ _))) ju (X:=.ok (.tup ws) st) ?_) e)))) (zT rfl)))))),Old.refl _⟩
  rw [zff,hs,zgY]
  rfl
theorem zqn (hl:∀t∈us,Lf t) (hn:us.length<5) {n:Nat}(ht:TR st (.rec_ (yl us.length) us) (.ref n)) (hd:st[n]?=some (.dic (yl us.length) ws)) {z:Str}(hi:((yl us.length).zip us).lookup z=some f) (hv:((yl us.length).zip ws).lookup z=some v) (tf:TR st f v):∃s',yz 6 [v,.ref n] st=.ok (.bl true) s'/\Old st s':=by
 have hf:=hl f (zdC hi)
 have hdp:=hf.dp
 have hr:TRs st us ws:=by
  obtain ⟨m,xs,e,h1,_,_,h2,_⟩:=ht
  cases e
  rw [hd] at h1
  cases h1
  exact h2
 have notn:∀{t:Tr} {x:PV},Lf t->TR st t x->x ≠ .ref n:=fun {t x} hlt tx e=>by
  subst e
  exact zqg _ (by omega) (hlt.keys (TR.one _ _ tx ht))
 obtain ⟨b,s',e,o,_,h⟩:=zhl (mr:=yz 5) (P:=fun x=>TR st f x) tf (by omega) ht hd (fun hne x hx s os=>by
  obtain ⟨j,hj⟩:=List.getElem?_of_mem hx
  obtain ⟨t,h1,h2⟩:=hr.get hj
  have lt:=hl t (List.mem_of_getElem? h1)
  obtain ⟨b,s',e,o,hb⟩:=zhm 3 hf lt ((zdL hf tf (notn hf tf)).mono os.dk) ((zdL lt h2 (notn lt h2)).mono os.dk)
  exact ⟨b,s',e,o,fun q=>hb (TR.one _ _ q h2)⟩)
 have hm:v∈ws:=by
  have:∀{ks:List Str} {xs:List PV},(ks.zip xs).lookup z=some v->v∈xs:=by
   intro ks
   induction ks with
   | nil=>intro xs h;simp at h
   | cons k ks ih =>
    intro xs h
    cases xs with
    | nil=>simp at h
    | cons x xs =>
     rw [List.zip_cons_cons,List.lookup_cons] at h
     split at h
     ·cases h;exact List.mem_cons_self ..
     ·exact List.mem_cons_of_mem _ (ih h)
  exact this hv
 have:=h ⟨v,hm,tf⟩
 subst this
 exact ⟨s',e,o⟩
end
theorem zho:OpIs "down" ["number"] "tell_down" zat:=mkOp rfl rfl
theorem zhp:OpIs "head" ["row"] "tell_head" zau:=mkOp rfl rfl
theorem zhq:OpIs "rest" ["row"] "tell_rest" zav:=mkOp rfl rfl
theorem zhr:OpIs "item" ["row", "number"] "tell_item" zaw:=mkOp rfl rfl
theorem zhs:OpIs "field" ["record", "word"] "tell_field" zax:=mkOp rfl rfl
section
variable {op f:Str}{ks:List Str}{mt:List PV->Mo PV}{ts:List Tr}{xs:List PV}{st st1:Sto}{o:Nat}{k:Int}
theorem zaF {w:Str} (h:OpIs op ks f mt) (ho:st[o]?=some (OpO op k)) (hr:TRs st ts xs) (hl:ks.length=ts.length) (hf:fits ks ts=true) (hm:mt [.tup xs] st=.err "Fault" ["word"] [.str w] st) (hw:w∈(["low", "empty", "place", "field"]:List Str)) :
  ∃s',wN [.ref o,.tup xs] st=.ok (.bl true) s'/\Old st s':=by
 have ha:=zpN h ho hr hl hf hm
 have hme:∀c:Nat->(List PV->Mo PV)->Res PV,methAt "answer" jJ (.ref o) st c=c o m_Op_answer:=zbd ho (by simp) (by simp [jJ])
 obtain ⟨L,hL⟩:∃L:List Str,L=(["low", "empty", "place", "field"]:List Str):=⟨_,rfl⟩
 have top:=yx st (.lst (L.map PV.str))
 rw [<-hL] at hw
 have iw:=jW top w
 rw [decide_eq_true hw] at iw
 have A:(j4 2 4 "Fault" (xMeth "answer" jJ (zd 0) (ze (zd 1) zj)) (zU 3 (z0 (fldAt "word" insOf excOf) (zd 4)))) [some (.ref o),some (.tup xs),some .non,some .non,none] st=.ok (.nx [some (.ref o),some (.tup xs),some .non,some (.str w),none]) st:=by
  simp [hme,ha,excOf,List.lookup_cons]
 refine ⟨st++[.lst (L.map PV.str)],yr rfl (zu (yy rfl) (zu (yy rfl) (zu A (ym (yq (zX (b:=true) (zn (zk rfl) rfl rfl)) (zT (zn (zk rfl) (jU (xs:=L.map PV.str) (by rw [hL];rfl) (by simp [hL])) iw))))))),yn _ _⟩
theorem zaG {t:Tr}{y x0:PV}(h:OpIs op ks f mt) (ho:st[o]?=some (OpO op k)) (hr:TRs st ts xs) (hl:ks.length=ts.length) (hf:fits ks ts=true) (hm:mt [.tup xs] st=.ok y st) (hv:TR st t y) (hs:sz t<=60) (h0:xs[0]?=some x0) (hp:∀s,Old st s->∃s',yz 6 [y,x0] s=.ok (.bl true) s'/\Old s s') :
  ∃s',wN [.ref o,.tup xs] st=.ok (.bl true) s'/\Old st s':=by
 obtain ⟨s2,o2,ha⟩:=zpO h ho hr hl hf hm hv (by omega)
 rw [if_pos hs] at ha
 obtain ⟨s3,e3,o3⟩:=hp s2 o2
 have hme:∀c:Nat->(List PV->Mo PV)->Res PV,methAt "answer" jJ (.ref o) st c=c o m_Op_answer:=zbd ho (by simp) (by simp [jJ])
 have A:(j4 2 4 "Fault" (xMeth "answer" jJ (zd 0) (ze (zd 1) zj)) (zU 3 (z0 (fldAt "word" insOf excOf) (zd 4)))) [some (.ref o),some (.tup xs),some .non,some .non,none] st=.ok (.nx [some (.ref o),some (.tup xs),some y,some .non,none]) s2:=by
  simp [hme,ha]
 have ix:zI (.tup xs) (.int 0) s2=.ok x0 s2:=by
  rw [zmP,show atI xs (0:Int)=some x0 from atI_get (k:=0) h0,zbc]
 exact ⟨s3,yr rfl (zu (yy rfl) (zu (yy rfl) (zu A (zu (zR (zX (b:=false) (zn (zk rfl) rfl rfl))) (zT (zA (zS (zk rfl) (zn (zk rfl) rfl ix)) e3)))))),o2.trans o3⟩
theorem zht {w:Str}(h:VOk w ts) (ho:st[o]?=some (OpO w k)) (hr:TRs st ts xs):∃s',wN [.ref o,.tup xs] st=.ok (.bl true) s'/\Old st s':=by
 have hr':=hr
 cases h with
 | down i =>
  obtain ⟨x,r,rfl,rfl,rfl⟩:=hr
  by_cases hi:i<1
  ·exact zaF zho ho hr' rfl (by simp [fits,kn]) (w := "low") (by simp [zat,zB,zdk,yM,hi]) (by simp)
  ·exact zaG zho ho hr' rfl (by simp [fits,kn]) (t:=.num (i-1)) (y:=.int (i-1)) (x0:=.int i) (by simp [zat,zB,zdk,zgq,yM,hi]) rfl (by simp [sz]) rfl (fun s os=>⟨s,zqj (by omega),Old.refl _⟩)
 | @head us hl hn =>
  obtain ⟨x,r,rfl,⟨ws,rfl,hw⟩,rfl⟩:=hr
  cases us with
  | nil =>
   cases hw
   exact zaF zhp ho hr' rfl (by simp [fits,kn]) (w := "empty") (by simp [zau,zB,zdm,yM,zbJ]) (by simp)
  | cons u us =>
   have hw':=hw
   obtain ⟨y,r,rfl,h2,h3⟩:=hw
   have hz:=(hl u (List.mem_cons_self ..)).sz
   exact zaG zhp ho hr' rfl (by simp [fits,kn]) (t:=u) (y:=y) (x0:=.tup (y::r)) (by simp [zau,zB,zdm,yM,zbJ]) h2 (by omega) rfl (fun s os=>zhn hl hn (hw'.mono os.dk) (i:=0) rfl rfl (h2.mono os.dk))
 | @rest us hl hn =>
  obtain ⟨x,r,rfl,⟨ws,rfl,hw⟩,rfl⟩:=hr
  cases us with
  | nil =>
   cases hw
   exact zaF zhq ho hr' rfl (by simp [fits,kn]) (w := "empty") (by simp [zav,zB,zdn,yM,zbJ]) (by simp)
  | cons u us =>
   obtain ⟨y,r,rfl,h2,h3⟩:=hw
   have hz:=zhb (fun t q=>hl t (List.mem_cons_of_mem _ q))
   simp only [List.length_cons] at hn
   exact zaG zhq ho hr' rfl (by simp [fits,kn]) (t:=.row us) (y:=.tup r) (x0:=.tup (y::r)) (by simp [zav,zB,zdn,yM,zbJ,zpQ]) ⟨_,rfl,h3⟩ (by simp only [sz];omega) rfl (fun s os=>zqm hl (by simp;omega) (h2.mono os.dk) (h3.mono os.dk))
 | @item us hl hn a =>
  obtain ⟨x,r,rfl,⟨ws,rfl,hw⟩,x',r',rfl,rfl,rfl⟩:=hr
  have hlen:=hw.len
  by_cases hi:a<ws.length
  ·obtain ⟨t,h1,h2⟩:=hw.get (List.getElem?_eq_getElem hi)
   have hz:=(hl t (List.mem_of_getElem? h1)).sz
   exact zaG zhr ho hr' rfl (by simp [fits,kn]) (t:=t) (y:=ws[a]) (x0:=.tup ws) (by simp [zaw,zB,zdp,zdo,yM,wb,zgW,hi,atI_get (List.getElem?_eq_getElem hi)]) h2 (by omega) rfl (fun s os=>zhn hl hn (hw.mono os.dk) h1 (List.getElem?_eq_getElem hi) (h2.mono os.dk))
  ·exact zaF zhr ho hr' rfl (by simp [fits,kn]) (w := "place") (by simp [zaw,zB,zdp,zdo,yM,wb,zgW,hi]) (by simp)
 | @field us hl hn z hz =>
  obtain ⟨x,r,rfl,hv,x',r',rfl,⟨rfl,_⟩,rfl⟩:=hr
  have hv':=hv
  obtain ⟨n,ws,rfl,hd,nd,hll,hw,hk⟩:=hv
  have e1:=zpR hd z
  have e2:=zpS hd z
  cases hlk:((yl us.length).zip ws).lookup z with
  | none =>
   rw [hlk] at e1
   exact zaF zhs ho hr' rfl (by simp [fits,kn]) (w := "field") (by simp [zax,zB,zdr,zdq,yM,wb,e1]) (by simp)
  | some w' =>
   rw [hlk] at e1 e2
   obtain ⟨t,q1,q2⟩:=zdx hw hlk
   have hzz:=(hl t (zdC q1)).sz
   exact zaG zhs ho hr' rfl (by simp [fits,kn]) (t:=t) (y:=w') (x0:=.ref n) (by simp [zax,zB,zdr,zdq,zgw,yM,wb,e1,e2]) q2 (by omega) rfl (fun s os=>zqn hl hn (hv'.mono os.dk) (os _ _ hd) q1 hlk (q2.mono os.dk))
end
theorem VOk.dps {w:Str}{ts:List Tr}(h:VOk w ts):∀t∈ts,dp t<100:=by
 have lr:∀{us:List Tr},(∀t∈us,Lf t)->FK16.dps us<=2:=by
  intro us
  induction us with
  | nil=>intro _;simp [FK16.dps]
  | cons a ts ih =>
   intro h
   have h1:=(h a (List.mem_cons_self ..)).dp
   have h2:=ih fun t q=>h t (List.mem_cons_of_mem _ q)
   simp only [FK16.dps];omega
 cases h with
 | down i=>intro t ht;rw [List.mem_singleton.mp ht];simp [dp]
 | head h l=>intro t ht;rw [List.mem_singleton.mp ht];have:=lr h;simp only [dp];omega
 | rest h l=>intro t ht;rw [List.mem_singleton.mp ht];have:=lr h;simp only [dp];omega
 | item h l a =>
  intro t ht
  have:=lr h
  rcases List.mem_cons.mp ht with rfl|ht
  ·simp only [dp];omega
  ·rw [List.mem_singleton.mp ht];simp [dp]
 | field h l hz =>
  intro t ht
  have:=lr h
  rcases List.mem_cons.mp ht with rfl|ht
  ·simp only [dp];omega
  ·rw [List.mem_singleton.mp ht];simp [dp]
theorem zqo (ns:List Int):∃st,zgG [.frl (ns.map .int)] []=.ok (.bl true) st:=by
 obtain ⟨r1,s1,e1,o1,h1⟩:=zaC []
 obtain ⟨s2,e2,o2⟩:=y7 ns 0 (by omega) s1
 obtain ⟨j,hj,ej⟩:=modNat (cl ns 0) 17 (by omega)
 have hj':j<W.length:=hj
 obtain ⟨w,hw⟩:∃w,w=W[j]:=⟨_,rfl⟩
 have ixw:∀{st:Sto} {r i:Nat} (hi:i<W.length),st[r]?=some (.lst (W.map PV.str))->zI (.ref r) (.int (i:Int)) st=.ok (.str W[i]) st:=fun {st r i} hi h=>by
  rw [zcv,yF h,atI_get (k:=i) (x:=.str W[i]) (by rw [List.getElem?_map,List.getElem?_eq_getElem hi];rfl),zbc]
 have hwm:w∈W:=by rw [hw];exact List.getElem_mem hj'
 obtain ⟨r3,s3,e3,o3,h3⟩:=zaC s2
 obtain ⟨s4,e4,o4⟩:=y7 ns 1 (by omega) s3
 obtain ⟨i,hi,ei⟩:=modNat (cl ns 1) 5 (by omega)
 have hi':12+i<W.length:=by show 12+i<17;omega
 obtain ⟨f,hf⟩:∃f,f=W[12+i]:=⟨_,rfl⟩
 have hfo:W[12+i]?=some f:=by rw [hf,List.getElem?_eq_getElem hi']
 have key:∀i,i<5->W[12+i]?=some f->f∈ct_FALLING:=fun i hi q=>by
  match i,hi,q with
  | 0,_,q=>cases q;decide
  | 1,_,q=>cases q;decide
  | 2,_,q=>cases q;decide
  | 3,_,q=>cases q;decide
  | 4,_,q=>cases q;decide
 have hff:=key i hi hfo
 have hfm:f∈W:=by rw [hf];exact List.getElem_mem hi'
 obtain ⟨ksw,fw,iw⟩:=zdG w hwm
 obtain ⟨ksf,ff,iff_⟩:=zdG f hfm
 have n1:=zaD iw s4
 have t5:=yx s4 (OpO w (many w))
 have o5:Old s4 (s4++[OpO w (many w)]):=yn _ _
 generalize s4++[OpO w (many w)]=s5 at n1 t5 o5
 generalize s4.length=ow at n1 t5
 have n2:=zaD iff_ s5
 have t6:=yx s5 (OpO f (many f))
 have o6:Old s5 (s5++[OpO f (many f)]):=yn _ _
 generalize s5++[OpO f (many f)]=s6 at n2 t6 o6
 generalize s5.length=of at n2 t6
 obtain ⟨s7,e7,o7⟩:=zbK (o6 _ _ t5) rfl
 obtain ⟨s8,e8,o8⟩:=zbK (o7 _ _ t6) rfl
 obtain ⟨z,s9,e9,o9⟩:=zp6 ns s8
 obtain ⟨s10,e10,o10⟩:=zp2 z s9
 obtain ⟨ts,vok,hv⟩:=zqi ns f hff
 obtain ⟨xs,s11,e11,o11,t11⟩:=hv s10
 have o611:Old s6 s11:=o7.trans (o8.trans (o9.trans (o10.trans o11)))
 obtain ⟨s12,e12,o12⟩:=zht vok (o611 _ _ t6) t11
 obtain ⟨xs2,s13,e13,o13,t13⟩:=hv s12
 have ne:zak (.tup xs) (.tup xs2) s13=.ok (.bl false) s13:=by
  obtain ⟨b,eb,hb⟩:=zdy (f:=eqT s13 149) ts ts (fun u hu t' v w=>zgM 149 u t' v w (by have:=vok.dps u hu;omega)) (t11.mono (o12.trans o13).dk) t13
  unfold zak
  simp only [eb,hb rfl]
  rfl
 have o613:=o611.trans (o12.trans o13)
 obtain ⟨s14,e14,o14⟩:=zbK ((o6.trans o613) _ _ t5) rfl
 have n3:=zaD iw s14
 have wP:=yx s14 (OpO w (many w))
 have o15:Old s14 (s14++[OpO w (many w)]):=yn _ _
 generalize s14++[OpO w (many w)]=s15 at n3 wP o15
 generalize s14.length=ow2 at n3 wP
 obtain ⟨s16,e16,o16⟩:=zbK wP rfl
 have n4:=zaD iff_ s16
 have t17:=yx s16 (OpO f (many f))
 have o17:Old s16 (s16++[OpO f (many f)]):=yn _ _
 generalize s16++[OpO f (many f)]=s17 at n4 t17 o17
 generalize s16.length=of2 at n4 t17
 have o1117:Old s11 s17:=o12.trans (o13.trans (o14.trans (o15.trans (o16.trans o17))))
 obtain ⟨s18,e18,o18⟩:=zht vok t17 (t11.mono o1117.dk)
 have ix1:=ixw hj' (o2 _ _ h1)
 have ix2:=ixw hi' (o4 _ _ h3)
 rw [<-hw] at ix1
 rw [<-hf] at ix2
 exact ⟨s18,yr rfl (zu (yy (zn (zA j7 e1) (zn (zA (zS (zk rfl) rfl) e2) rfl (wc _ 17 j (by omega) ej s2)) ix1)) (zu (yy (zn (zA j7 e3) (zn rfl (zn (zA (zS (zk rfl) rfl) e4) rfl (wc _ 5 i (by omega) ei s4)) (jH _ _)) ix2)) (zu (yy (zA (zV (zk rfl)) n1)) (zu (yy (zA (zV (zk rfl)) n2)) (zu (zR (yL (jG (b:=true) (zX (zA (zS (zk rfl) (zk rfl)) e7))) (jG (b:=true) (zX (zA (zS (zk rfl) (zk rfl)) e8))))) (zu (zR (jG (b:=true) (zX (zA (zV (zA (zV (zk rfl)) e9)) e10)))) (zu (yy (zA (zS (zk rfl) (zk rfl)) e11)) (zu (zR (yL (jG (b:=true) (zX (zA (zS (zk rfl) (zk rfl)) e12))) (zX (zn (zk rfl) (zA (zS (zk rfl) (zk rfl)) e13) ne)))) (zT (j9 (zA (zS (zk rfl) (zk rfl)) e14) (j9 (zA (zS (zA (zV (zk rfl)) n3) (zk rfl)) e16) (zA (zS (zA (zV (zk rfl)) n4) (zk rfl)) e18))))))))))))⟩
end FK16
open PySem PySem.W PyProof.Rows
set_option maxHeartbeats 0
namespace PySem.W.Fast
def tw5422459024162873376:=()
def tw230087821036382272:=()
def tw13989401218958379136:=()
def tw4543357335744763008:=()
def tw3763064767782465696:=()
def tw1937588757997542592:=()
def tw6090367890817826016:=()
def tw3434444806382439648:=()
def tw11145361131737779456:=()
def tw11580330514469120320:=()
def tw3979812842892386656:=()
def tw7156950394831539616:=()
def tw7449875054043605440:=()
def tw12893780005389805120:=()
def tw10274909012663377600:=()
def tw4903613260370815680:=()
def tw5165233262021056224:=()
def tw17030034787315318528:=()
def tw8453278198843344704:=()
def tw11425114182643207008:=()
def tw17240587728523874305:=()
def tw15443810872348336225:=()
def tw2059070008920900737:=()
def tw7148934985206993025:=()
def tw6101320959039674657:=()
def tw9607830111404102977:=()
def tw7450078728642109825:=()
def tw5363099244638618081:=()
def tw15009497898603434561:=()
def tw8230444157320288929:=()
def tw3009000474656657153:=()
def tw14594129718489937665:=()
def tw6374413764064010017:=()
def tw13131462262126634785:=()
def tw74663948371277633:=()
def tw10099695638841385889:=()
def tw10768446424828314561:=()
def tw5885766200903748545:=()
def tw14224772883799350241:=()
def tw16886350617538965506:=()
def tw3163217807179857922:=()
def tw3755915419497628706:=()
def tw4155370403949194338:=()
def tw5017884899072020610:=()
def tw694007552984459458:=()
def tw16333260966957852994:=()
def tw8083475292667102626:=()
def tw17609847453510679042:=()
def tw13612097799317210754:=()
def tw7891871970215977698:=()
def tw5920597244747024162:=()
def tw9101524887965488930:=()
def tw9449106256036401986:=()
def tw8281039398285180770:=()
def tw1857879809359058850:=()
def tw9464362842141399010:=()
def tw8419007868389760003:=()
def tw14139053673683135555:=()
def tw8464935863556324451:=()
def tw13973894931816666243:=()
def tw11833997865787860387:=()
def tw15308806405571087811:=()
def tw3750028083350574531:=()
def tw16093186439581592035:=()
def tw12723709163734258179:=()
def tw13751227306131090979:=()
def tw10828547111624704675:=()
def tw3794317355570679459:=()
def tw10301200563340957411:=()
def tw8149007435326322435:=()
def tw9274933556345298723:=()
def tw8434750135932220227:=()
def tw9770887571987260259:=()
def tw11640217937080530819:=()
def tw11865053331515865987:=()
def tw13038936011269115843:=()
def tw16809445522484449284:=()
def tw570680344110593060:=()
def tw7009740581462092868:=()
def tw5679923807892483172:=()
def tw18188969029471768740:=()
def tw6708860388170798308:=()
def tw18218911188963499268:=()
def tw1944263907650676004:=()
def tw15651031862379361636:=()
def tw1432058875082836356:=()
def tw16460977569284743556:=()
def tw16624471559758357956:=()
def tw3278562246784279044:=()
def tw4586710439035791876:=()
def tw12278179424242486916:=()
def tw13711312134945991332:=()
def tw68637367299847876:=()
def tw9037024423309567684:=()
def tw2473860055375291140:=()
def tw16775843446252184548:=()
def tw10416862441068760165:=()
def tw2964491474191921285:=()
def tw12170436461423303845:=()
def tw1711716937562295493:=()
def tw9749006905721904325:=()
def tw9306920259015581061:=()
def tw3542173008339136933:=()
def tw5029665332173436357:=()
def tw10940319405948478949:=()
def tw7072719223745375717:=()
def tw5346320694991299205:=()
def tw10091001551137818277:=()
def tw7957985699441254085:=()
def tw7983007090494275301:=()
def tw588394099400301445:=()
def tw13050159067113572293:=()
def tw17061141170447380518:=()
def tw1896567366858444966:=()
def tw9589087209790865702:=()
def tw5218377233734759750:=()
def tw14816297726982580582:=()
def tw2223482398833415558:=()
def tw1589775094827678118:=()
def tw4945455619775401414:=()
def tw10755459767760302534:=()
def tw11137608901026781670:=()
def tw6476914457254133222:=()
def tw17030731380369037830:=()
def tw9890745274697342470:=()
def tw793386678933960262:=()
def tw13520642288541536966:=()
def tw11047492762340823750:=()
def tw17355523458351426278:=()
def tw2232725820125796230:=()
def tw5755440277297719174:=()
def tw13954613356136847302:=()
def tw4623542303748258758:=()
def tw784804221044131814:=()
def tw13727373838625742983:=()
def tw10520462987955263623:=()
def tw9843540083314274471:=()
def tw12244908846169985351:=()
def tw15630647406278756711:=()
def tw14331986546932970855:=()
def tw8631119922075221703:=()
def tw17523357860535001959:=()
def tw8624196930197389159:=()
def tw8623702553552382919:=()
def tw10666844287152266215:=()
def tw18396002191304646664:=()
def tw12824225608724752424:=()
def tw16217775412105195560:=()
def tw558746005296412744:=()
def tw1132752003266019432:=()
def tw2810259913452938344:=()
def tw5869399055001969768:=()
def tw7148842861097315432:=()
def tw13166208584252299432:=()
def tw16763674208320990376:=()
def tw8495702330051731656:=()
def tw17745157685613742280:=()
def tw5419097350403292488:=()
def tw15347851337620323656:=()
def tw2625461754278809032:=()
def tw12419193261846059464:=()
def tw15858704347928230504:=()
def tw8912594458559549096:=()
def tw17636100177212503752:=()
def tw2791057311062819624:=()
def tw16885267941978153768:=()
def tw1475622693500433224:=()
def tw8782834034213582696:=()
def tw12077907180048599944:=()
def tw14645263427044794248:=()
def tw4936086006854156168:=()
def tw796050816773925864:=()
def tw12874141840109704233:=()
def tw1329521874133232745:=()
def tw4573085165934192841:=()
def tw9401617590642104553:=()
def tw11337939571669174537:=()
def tw11425248627073359113:=()
def tw7208751115768426825:=()
def tw11245886629863368169:=()
def tw1974420287372357129:=()
def tw13887855555507804809:=()
def tw1053313995919358601:=()
def tw4325926841318596265:=()
def tw11338288334836614889:=()
def tw5457915222827854633:=()
def tw3680974940131743561:=()
def tw4036461531281375081:=()
def tw15063816746116984713:=()
def tw10511018123266534345:=()
def tw14154887324676629546:=()
def tw4100007938799771754:=()
def tw4714069054737433706:=()
def tw9910475135884381290:=()
def tw11912099469482512586:=()
def tw16982734899456252298:=()
def tw76059420408778186:=()
def tw2618685949271333354:=()
def tw4478654787941486154:=()
def tw9304971058105865034:=()
def tw6948523838610923338:=()
def tw4232153050971412330:=()
def tw14344803227425698762:=()
def tw3280069390304979946:=()
def tw11854672462478225419:=()
def tw14756705942111597675:=()
def tw7579007895083926635:=()
def tw9485320362202397867:=()
def tw17466688741412015403:=()
def tw3105332416013755723:=()
def tw7886476600979200363:=()
def tw5740330110288766315:=()
def tw10889120481242820107:=()
def tw2097295425164946955:=()
def tw2276436883638389323:=()
def tw11392721782429675115:=()
def tw8624416791417946795:=()
def tw14654609426006585035:=()
def tw17879386449209134923:=()
def tw14479423038600503115:=()
def tw4090976627024491339:=()
def tw16425426045135424363:=()
def tw13250908797153228651:=()
def tw11691979381953291147:=()
def tw1632981890173992875:=()
def tw12662572187164664811:=()
def tw1624471996206894316:=()
def tw440782769964673260:=()
def tw15966115646099415372:=()
def tw16471387159689902444:=()
def tw14862125641730001324:=()
def tw4746921167546651180:=()
def tw14648320065911457388:=()
def tw8363115841319806668:=()
def tw2252446474247416556:=()
def tw7971220578538482476:=()
def tw4226848260258358124:=()
def tw5391572554334823308:=()
def tw12206921882397058988:=()
def tw11041927614218069037:=()
def tw10671786478918687917:=()
def tw7468514028552095949:=()
def tw3042307057773919469:=()
def tw2370766593442583821:=()
def tw9738130893232145709:=()
def tw16797315380603002157:=()
def tw13379470960043698477:=()
def tw15207807936149387565:=()
def tw7229622334968471949:=()
def tw4063573881387404685:=()
def tw3675988319407564173:=()
def tw7326280575537574285:=()
def tw16461020862680864173:=()
def tw14747563710385062381:=()
def tw17086903839395096045:=()
def tw14147686684331691533:=()
def tw10359059405588292173:=()
def tw8461815477360583245:=()
def tw2279989614224631373:=()
def tw5566002435330066061:=()
def tw4352668670278431373:=()
def tw15745447435639870349:=()
def tw5635260749008339885:=()
def tw1612442727989361613:=()
def tw15494438674416117774:=()
def tw13904406376262274190:=()
def tw2918202248286901454:=()
def tw16118948147000315150:=()
def tw15233841040833794350:=()
def tw17174843663265229166:=()
def tw6555143838719401422:=()
def tw4367557229581232622:=()
def tw664244091082734062:=()
def tw4162726254090068622:=()
def tw7736739695222416078:=()
def tw98068145813812014:=()
def tw10507443364458133294:=()
def tw9085145740428716910:=()
def tw2193470709512917870:=()
def tw1312446085913801646:=()
def tw4897850845756489646:=()
def tw8189578056743136238:=()
def tw17900084902259600399:=()
def tw6762574634884369487:=()
def tw3505861326113034351:=()
def tw3098963735914918031:=()
def tw13937647197628463343:=()
def tw15078775193499501839:=()
def tw12644464911596689743:=()
def tw4144826722658133327:=()
def tw17689317819290036623:=()
def tw8786036253874965903:=()
def tw12804198508965487023:=()
def tw14012970212026855919:=()
def tw14645385915613015631:=()
def tw10542286040425421647:=()
def tw8194776649183911759:=()
def tw3089962467943793519:=()
def tw5570528222812008303:=()
def tw9491931449441620879:=()
def tw1577010847474450319:=()
def tw9072106039034801168:=()
def tw822680193119962192:=()
def tw18400874811627184240:=()
def tw3217158089760969968:=()
def tw1174662520086510992:=()
def tw1647475980172131728:=()
def tw6987496393814749648:=()
def tw9518707652791874032:=()
def tw13365648022291509744:=()
def tw9910060874654091792:=()
def tw6497083409103311440:=()
def tw14517492410455308912:=()
def tw3496166172841077360:=()
def tw14406561785035852464:=()
def tw12393423190094860080:=()
def tw5090833687433808752:=()
def tw1847674096497333104:=()
def tw14617196519517778832:=()
def tw17133233376583831472:=()
def tw8524310512081336240:=()
def tw4755322035185626064:=()
def tw466132905212005360:=()
def tw2332265283783468081:=()
def tw5775053703004775537:=()
def tw1586814386432065681:=()
def tw4079848406252760273:=()
def tw18236455360591461585:=()
def tw4522465980720557361:=()
def tw10365631065426583857:=()
def tw12345417779103459665:=()
def tw15181789389910223249:=()
def tw4682253471321590193:=()
def tw2460466003746917809:=()
def tw13005954146370661841:=()
def tw2729418844554048977:=()
def tw886830210233997937:=()
def tw3706857856364341905:=()
def tw5220255134087640721:=()
def tw14465915897235975889:=()
def tw6230876638106146769:=()
def tw13582013837605787601:=()
def tw725167644113893329:=()
def tw5864814469504020465:=()
def tw18072588307805510706:=()
def tw6994615742954226898:=()
def tw12684905494114203922:=()
def tw13373161644567389554:=()
def tw10938539020755662226:=()
def tw10067157658862946898:=()
def tw8434822123244954194:=()
def tw18024478144130456210:=()
def tw4062197796661472914:=()
def tw303780793035643634:=()
def tw15642950988206242610:=()
def tw11266317964694191954:=()
def tw8846255094883945394:=()
def tw14712850086400744402:=()
def tw13515416901310548978:=()
def tw7722614749510539315:=()
def tw6482193909863024755:=()
def tw16127422392203786355:=()
def tw15684019346836118803:=()
def tw11617310392261798163:=()
def tw18122738669389878579:=()
def tw9858351641597600115:=()
def tw12727016000449914419:=()
def tw16115928692095375923:=()
def tw17628367871454634643:=()
def tw11650315679706374931:=()
def tw9833806813208670003:=()
def tw1046776669731703635:=()
def tw7418776215135901587:=()
def tw14297555905818320851:=()
def tw6866134895078950899:=()
def tw14325237694715702356:=()
def tw16348357270970813556:=()
def tw1329825861112079508:=()
def tw4929179680990501076:=()
def tw8608575186652088756:=()
def tw17097221767594397236:=()
def tw15750936597440050772:=()
def tw638297923029529172:=()
def tw5595023905871058548:=()
def tw11238439922504735380:=()
def tw8126179348126028532:=()
def tw464142990463128340:=()
def tw12929583613859821332:=()
def tw2863965676411434868:=()
def tw14087077044363196276:=()
def tw11434117604106772404:=()
def tw16477978970467083252:=()
def tw9538464219033761780:=()
def tw3168826794931204117:=()
def tw1984112895102349397:=()
def tw3119835848713025653:=()
def tw14844483314538570869:=()
def tw18117495511060846741:=()
def tw79083322567732373:=()
def tw1343525857951379701:=()
def tw12197405437692645653:=()
def tw1822125171824872821:=()
def tw7359215475661287829:=()
def tw2192592922858377685:=()
def tw9885527301502707221:=()
def tw4155099513290616341:=()
def tw3842907970548989525:=()
def tw2139001761264422549:=()
def tw16844131366654406389:=()
def tw13196734951148413845:=()
def tw11845590207754610613:=()
def tw15498735793009607702:=()
def tw6002720326304715830:=()
def tw12161182997554939990:=()
def tw14583006319761018966:=()
def tw8323788935242343510:=()
def tw10379301036583039158:=()
def tw13729187797224944822:=()
def tw16335004234242623702:=()
def tw4126711968591976790:=()
def tw16579066605342300534:=()
def tw13353623244268563862:=()
def tw1188462880945110454:=()
def tw9822631622851560918:=()
def tw2253672120007611862:=()
def tw491917063019019766:=()
def tw15562923744641834518:=()
def tw17774530577512671830:=()
def tw5048126720383025782:=()
def tw318633082006923894:=()
def tw2200864910392805142:=()
def tw6311198349885532982:=()
def tw12429786022357692246:=()
def tw7916025181599738774:=()
def tw7690263982000922518:=()
def tw18266746422620228566:=()
def tw3920549413146986583:=()
def tw13748577461770261591:=()
def tw16154182991341170775:=()
def tw177916274382809303:=()
def tw6872063562458217751:=()
def tw7954014960889456919:=()
def tw3744700516938124599:=()
def tw14035094420071547223:=()
def tw3937786518955883927:=()
def tw9682702257618895287:=()
def tw18254063102935869911:=()
def tw17324846447732041207:=()
def tw9164709727982079479:=()
def tw9319984705923165719:=()
def tw16846627375198012055:=()
def tw340606899720885943:=()
def tw12934517471257370359:=()
def tw13813892191204711287:=()
def tw2310013915579584439:=()
def tw14832493129652476855:=()
def tw13589487388921946039:=()
def tw14966273054233675735:=()
def tw3462595488291191767:=()
def tw18393713428286595192:=()
def tw3012462994635878520:=()
def tw11882495857799807192:=()
def tw2319425830691086616:=()
def tw10766494856093624600:=()
def tw1260851757661849912:=()
def tw552420718367970648:=()
def tw4220084461746356600:=()
def tw14122354408543093112:=()
def tw2281645744949877208:=()
def tw18050002681069518328:=()
def tw7782281806036060728:=()
def tw2169383868564578008:=()
def tw2936004725703372504:=()
def tw16870188353047138168:=()
def tw1411290552253026264:=()
def tw3511694617336004568:=()
def tw4534350275389467673:=()
def tw13157757656163652761:=()
def tw16608098765697861785:=()
def tw4811485881436149945:=()
def tw14195861143303166233:=()
def tw16810676349521182009:=()
def tw2648503310515553593:=()
def tw13284575536446135865:=()
def tw12502115837268226649:=()
def tw9670452447984571065:=()
def tw8534534267454093017:=()
def tw2708833814291623737:=()
def tw15833410221013807929:=()
def tw10336640447109019449:=()
def tw4528429290172839801:=()
def tw13464014425104947129:=()
def tw12684882620892383193:=()
def tw8308912113245058009:=()
def tw3439567745537036346:=()
def tw11034610343202860186:=()
def tw2886799302278731930:=()
def tw3774508814048831674:=()
def tw778255679271584954:=()
def tw7645405417117229306:=()
def tw8379108762608192826:=()
def tw13662782185602816346:=()
def tw4525992607811976570:=()
def tw12048911583005658490:=()
def tw815151707465999834:=()
def tw10240357735205696986:=()
def tw1649326413888131642:=()
def tw13666684493385676378:=()
def tw7210567731604423290:=()
def tw15440303728742991482:=()
def tw5374830236731897498:=()
def tw8141332160352876218:=()
def tw10872352773072155354:=()
def tw12572768672864084730:=()
def tw2451913211297765146:=()
def tw12875768883526892346:=()
def tw10197663757198585754:=()
def tw7750354549917964218:=()
def tw773304510420239354:=()
def tw17869942935493975131:=()
def tw8858116691924049019:=()
def tw18241824539721584923:=()
def tw15254765562333803867:=()
def tw2725870326581326171:=()
def tw10838779689171019163:=()
def tw16690752584973055483:=()
def tw3894448669117795867:=()
def tw12665394836699327099:=()
def tw3098147654240066235:=()
def tw11843757711878123227:=()
def tw1359769726700932859:=()
def tw17563380569588356859:=()
def tw16095667951327988539:=()
def tw4363050237421771579:=()
def tw2802322429721082747:=()
def tw14626913935583864731:=()
def tw11789503555512922011:=()
def tw15688247228519531451:=()
def tw8894553544174352379:=()
def tw6040837443394748444:=()
def tw16278773828502686780:=()
def tw5616628329872801852:=()
def tw5094233783756918876:=()
def tw8062602049690841180:=()
def tw10239629368724356220:=()
def tw7277628095361987772:=()
def tw10610672038923842876:=()
def tw3306597359199590812:=()
def tw12258269884315889052:=()
def tw14890061422016307740:=()
def tw6380909778941145692:=()
def tw18064529117680106076:=()
def tw6132727442864311932:=()
def tw9758594922861867644:=()
def tw14538685768688458428:=()
def tw2397939804742112988:=()
def tw5463811282917731132:=()
def tw4288888718723746652:=()
def tw1131936765491155868:=()
def tw17956224108379953052:=()
def tw2490890500789930972:=()
def tw2918804995271233500:=()
def tw7674836438987480028:=()
def tw7603721005848011805:=()
def tw3160122418672735293:=()
def tw4487500502896002109:=()
def tw10443696846295393341:=()
def tw12290435555538479229:=()
def tw5864434426585707677:=()
def tw16955539070994288829:=()
def tw7542596787205924029:=()
def tw17124305161995863261:=()
def tw1698996889396696349:=()
def tw14557500333765429597:=()
def tw14462824749356214621:=()
def tw1629932311045580157:=()
def tw16455056675564482973:=()
def tw18048046326338755005:=()
def tw8285750339144727005:=()
def tw3917619104225017341:=()
def tw2062032596816129533:=()
def tw11496577341053358717:=()
def tw7881331777544678013:=()
def tw14710433284802269:=()
def tw1139400940956903133:=()
def tw17583373998401766237:=()
def tw8414861320964003677:=()
def tw68523917658410973:=()
def tw11652563187888100349:=()
def tw894609685281855485:=()
def tw15877243629957314622:=()
def tw11264004120108430462:=()
def tw9480985089478716574:=()
def tw6387422686323141790:=()
def tw309492647624563902:=()
def tw9039671421636205790:=()
def tw2346339830717291902:=()
def tw1563881845005759006:=()
def tw2560073534162569822:=()
def tw17400771678382279294:=()
def tw9347195769723488926:=()
def tw17786186980120812190:=()
def tw2767642804699358910:=()
def tw8759758849535226718:=()
def tw13502058043044913086:=()
def tw4196626138541659102:=()
def tw49721690618537950:=()
def tw15348440590029037599:=()
def tw3191905234253208607:=()
def tw18137715408302642303:=()
def tw15654132365470475455:=()
def tw16638935374546060543:=()
def tw16918139668057049343:=()
def tw13181787721490038015:=()
def tw14982786808869369279:=()
def tw11004091521110442527:=()
def tw4635120314319742495:=()
def tw8215686023134954015:=()
def tw4199058660335682175:=()
def tw12769660984311136895:=()
def tw49001696787101311:=()
def tw7892830642413809407:=()
def tw16570758193760121599:=()
def tw13836647651325856511:=()
def tw1261876922605304575:=()
def tw5281405454208150303:=()
def tw10765222448683262847:=()
def tw10341904971170490239:=()
def tw17142977488908071807:=()
def tw1186917871935201183:=()
def tw2936809512725862367:=()
def tw5135373606591324127:=()
def tw16513541383661885354:=()
def tw4603121806731787023:=()
end PySem.W.Fast
open_top hdT for PySem.Challenge.rw_foreknown_k16_ops_by_words
theorem PySem.Challenge.cw_foreknown_k16_ops_by_words_holds : PySem.Challenge.rw_foreknown_k16_ops_by_words.Holds :=
 hdT (by
 k_fill
 refine Mi.walkM (l:=PySem.Challenge.rw_foreknown_k16_ops_by_words) (k:=10) (x := "_law_script") rfl rfl ⟨rfl,by decide,by decide⟩ (fun w h Y=>PySem.W.kIn_of Y) ?F
 case F =>
  intro w mg fa h KX G hmg
  have f__law_words:Mi.FnF (L2.KOf KX) mg "_law_words" FK16.zcM []:=by
   dsimp only [L2.KOf]
   refine' Mi.yj KX G ?a ?l ?c ?k ?b
   case a|l|c|k=>k_is
   (case b=>exact fun _ _ _ _ _ _ us hl=>match us,hl with|[],_=>rfl)
  have f__law_cell:Mi.FnF (L2.KOf KX) mg "_law_cell" FK16.zcN ["_law_script", "_law_k"]:=by
   dsimp only [L2.KOf]
   refine' Mi.yj KX G ?a ?l ?c ?k ?b
   case a|l|c|k=>k_is
   (case b=>exact fun _ _ _ _ _ _ us hl=>match us,hl with|[_,_],_=>rfl)
  have n_Op:Mi.NwF (L2.KOf KX) mg "Op" "Op.__init__" FK16.zcO ["self", "word"]:=by
   dsimp only [L2.KOf]
   refine' Mi.zmv KX G ?aC ?mk ?kc ?a ?i ?l ?c ?k ?b
   case aC|mk|kc|a|i|l|c|k=>k_is
   (case b=>exact fun _ _ _ _ _ _ us hl=>match us,hl with|[_,_],_=>rfl)
  have f_op_of:Mi.FnF (L2.KOf KX) mg "op_of" FK16.zcP ["word"]:=by
   dsimp only [L2.KOf]
   refine' Mi.yj KX G ?a ?l ?c ?k ?b
   case a|l|c|k=>k_is
   (case b=>exact fun _ _ _ _ _ _ us hl=>match us,hl with|[_],_=>rfl)
  have f__law_many:Mi.FnF (L2.KOf KX) mg "_law_many" FK16.zcQ ["_law_word"]:=by
   dsimp only [L2.KOf]
   refine' Mi.yj KX G ?a ?l ?c ?k ?b
   case a|l|c|k=>k_is
   (case b=>exact fun _ _ _ _ _ _ us hl=>match us,hl with|[_],_=>rfl)
  have f__law_truth:Mi.FnF (L2.KOf KX) mg "_law_truth" FK16.zcR ["_law_found", "_law_due"]:=by
   dsimp only [L2.KOf]
   refine' Mi.yj KX G ?a ?l ?c ?k ?b
   case a|l|c|k=>k_is
   (case b=>exact fun _ _ _ _ _ _ us hl=>match us,hl with|[_,_],_=>rfl)
  have m_Op_falls:Mi.MtF (L2.KOf KX) mg "Op" "falls" "Op.falls" FK16.zcS ["self"]:=by
   dsimp only [L2.KOf]
   refine' Mi.zcs KX G ?aC ?pg ?hd ?po ?sa ?a ?i ?l ?c ?k ?b
   case aC|pg|hd|po|sa|a|i|l|c|k=>k_is
   (case b=>exact fun _ _ _ _ _ _ us hl=>match us,hl with|[_],_=>rfl)
  have m_Op_never_faults:Mi.MtF (L2.KOf KX) mg "Op" "never_faults" "Op.never_faults" FK16.zcT ["self"]:=by
   dsimp only [L2.KOf]
   refine' Mi.zcs KX G ?aC ?pg ?hd ?po ?sa ?a ?i ?l ?c ?k ?b
   case aC|pg|hd|po|sa|a|i|l|c|k=>k_is
   (case b=>exact fun _ _ _ _ _ _ us hl=>match us,hl with|[_],_=>rfl)
  have f__law_fits:Mi.FnF (L2.KOf KX) mg "_law_fits" FK16.zcU ["_law_op", "_law_word"]:=by
   dsimp only [L2.KOf]
   refine' Mi.yj KX G ?a ?l ?c ?k ?b
   case a|l|c|k=>k_is
   (case b=>exact fun _ _ _ _ _ _ us hl=>match us,hl with|[_,_],_=>rfl)
  have f__law_pure:Mi.FnF (L2.KOf KX) mg "_law_pure" FK16.zcV ["_law_e"]:=by
   dsimp only [L2.KOf]
   refine' Mi.yj KX G ?a ?l ?c ?k ?b
   case a|l|c|k=>k_is
   (case b=>exact fun _ _ _ _ _ _ us hl=>match us,hl with|[_],_=>rfl)
  have f__law_refused:Mi.FnF (L2.KOf KX) mg "_law_refused" FK16.zcW ["_law_text_here"]:=by
   dsimp only [L2.KOf]
   refine' Mi.yj KX G ?a ?l ?c ?k ?b
   case a|l|c|k=>k_is
   (case b=>exact fun _ _ _ _ _ _ us hl=>match us,hl with|[_],_=>rfl)
  have f__law_text:Mi.FnF (L2.KOf KX) mg "_law_text" FK16.zbn ["_law_script"]:=by
   dsimp only [L2.KOf]
   refine' Mi.yj KX G ?a ?l ?c ?k ?b
   case a|l|c|k=>k_is
   (case b=>exact fun _ _ _ _ _ _ us hl=>match us,hl with|[_],_=>rfl)
  have f__law_leaf:Mi.FnF (L2.KOf KX) mg "_law_leaf" FK16.zcX ["_law_cell_here"]:=by
   dsimp only [L2.KOf]
   refine' Mi.yj KX G ?a ?l ?c ?k ?b
   case a|l|c|k=>k_is
   (case b=>exact fun _ _ _ _ _ _ us hl=>match us,hl with|[_],_=>rfl)
  have f__law_values:Mi.FnF (L2.KOf KX) mg "_law_values" FK16.zbo ["_law_script", "_law_word"]:=by
   dsimp only [L2.KOf]
   refine' Mi.yj KX G ?a ?l ?c ?k ?b
   case a|l|c|k=>k_is
   (case b=>exact fun _ _ _ _ _ _ us hl=>match us,hl with|[_,_],_=>rfl)
  have f_kind_of:Mi.FnF (L2.KOf KX) mg "kind_of" FK16.zcY ["value"]:=by
   dsimp only [L2.KOf]
   refine' Mi.yj KX G ?a ?l ?c ?k ?b
   case a|l|c|k=>k_is
   (case b=>exact fun _ _ _ _ _ _ us hl=>match us,hl with|[_],_=>rfl)
  have f_check_kinds:Mi.FnF (L2.KOf KX) mg "check_kinds" FK16.zcZ ["kinds", "values"]:=by
   dsimp only [L2.KOf]
   refine' Mi.yj KX G ?a ?l ?c ?k ?b
   case a|l|c|k=>k_is
   (case b=>exact fun _ _ _ _ _ _ us hl=>match us,hl with|[_,_],_=>rfl)
  have f_tell_down:Mi.FnF (L2.KOf KX) mg "tell_down" FK16.zc0 ["values"]:=by
   dsimp only [L2.KOf]
   refine' Mi.yj KX G ?a ?l ?c ?k ?b
   case a|l|c|k=>k_is
   (case b=>exact fun _ _ _ _ _ _ us hl=>match us,hl with|[_],_=>rfl)
  have f_filled:Mi.FnF (L2.KOf KX) mg "filled" FK16.zc1 ["row"]:=by
   dsimp only [L2.KOf]
   refine' Mi.yj KX G ?a ?l ?c ?k ?b
   case a|l|c|k=>k_is
   (case b=>exact fun _ _ _ _ _ _ us hl=>match us,hl with|[_],_=>rfl)
  have f_tell_head:Mi.FnF (L2.KOf KX) mg "tell_head" FK16.zc2 ["values"]:=by
   dsimp only [L2.KOf]
   refine' Mi.yj KX G ?a ?l ?c ?k ?b
   case a|l|c|k=>k_is
   (case b=>exact fun _ _ _ _ _ _ us hl=>match us,hl with|[_],_=>rfl)
  have f_tell_rest:Mi.FnF (L2.KOf KX) mg "tell_rest" FK16.zc3 ["values"]:=by
   dsimp only [L2.KOf]
   refine' Mi.yj KX G ?a ?l ?c ?k ?b
   case a|l|c|k=>k_is
   (case b=>exact fun _ _ _ _ _ _ us hl=>match us,hl with|[_],_=>rfl)
  have f_place_in:Mi.FnF (L2.KOf KX) mg "place_in" FK16.zc4 ["row", "number"]:=by
   dsimp only [L2.KOf]
   refine' Mi.yj KX G ?a ?l ?c ?k ?b
   case a|l|c|k=>k_is
   (case b=>exact fun _ _ _ _ _ _ us hl=>match us,hl with|[_,_],_=>rfl)
  have f_tell_item:Mi.FnF (L2.KOf KX) mg "tell_item" FK16.zc5 ["values"]:=by
   dsimp only [L2.KOf]
   refine' Mi.yj KX G ?a ?l ?c ?k ?b
   case a|l|c|k=>k_is
   (case b=>exact fun _ _ _ _ _ _ us hl=>match us,hl with|[_],_=>rfl)
  have f_tell_field:Mi.FnF (L2.KOf KX) mg "tell_field" FK16.zc6 ["values"]:=by
   dsimp only [L2.KOf]
   refine' Mi.yj KX G ?a ?l ?c ?k ?b
   case a|l|c|k=>k_is
   (case b=>exact fun _ _ _ _ _ _ us hl=>match us,hl with|[_],_=>rfl)
  have f_things_within:Mi.FnF (L2.KOf KX) mg "things_within" FK16.zc7 ["thing"]:=by
   dsimp only [L2.KOf]
   refine' Mi.yj KX G ?a ?l ?c ?k ?b
   case a|l|c|k=>k_is
   (case b=>exact fun _ _ _ _ _ _ us hl=>match us,hl with|[_],_=>rfl)
  have f_all_within:Mi.FnF (L2.KOf KX) mg "all_within" FK16.zc8 ["thing"]:=by
   dsimp only [L2.KOf]
   refine' Mi.yj KX G ?a ?l ?c ?k ?b
   case a|l|c|k=>k_is
   (case b=>exact fun _ _ _ _ _ _ us hl=>match us,hl with|[_],_=>rfl)
  have f_parts:Mi.FnF (L2.KOf KX) mg "parts" FK16.zc9 ["value"]:=by
   dsimp only [L2.KOf]
   refine' Mi.yj KX G ?a ?l ?c ?k ?b
   case a|l|c|k=>k_is
   (case b=>exact fun _ _ _ _ _ _ us hl=>match us,hl with|[_],_=>rfl)
  have m_Op_answer:Mi.MtF (L2.KOf KX) mg "Op" "answer" "Op.answer" FK16.zda ["self", "values"]:=by
   dsimp only [L2.KOf]
   refine' Mi.zcs KX G ?aC ?pg ?hd ?po ?sa ?a ?i ?l ?c ?k ?b
   case aC|pg|hd|po|sa|a|i|l|c|k=>k_is
   (case b=>exact fun _ _ _ _ _ _ us hl=>match us,hl with|[_,_],_=>rfl)
  have f__law_piece:Mi.FnF (L2.KOf KX) mg "_law_piece" FK16.zal ["_law_found", "_law_value"]:=by
   dsimp only [L2.KOf]
   refine' Mi.yj KX G ?a ?l ?c ?k ?b
   case a|l|c|k=>k_is
   (case b=>exact fun _ _ _ _ _ _ us hl=>match us,hl with|[_,_],_=>rfl)
  have f__law_falls:Mi.FnF (L2.KOf KX) mg "_law_falls" FK16.zdb ["_law_op", "_law_values_here"]:=by
   dsimp only [L2.KOf]
   refine' Mi.yj KX G ?a ?l ?c ?k ?b
   case a|l|c|k=>k_is
   (case b=>exact fun _ _ _ _ _ _ us hl=>match us,hl with|[_,_],_=>rfl)
  have f_law:Mi.FnF (L2.KOf KX) mg "law" FK16.zbp ["_law_script"]:=by
   dsimp only [L2.KOf]
   refine' Mi.yj KX G ?a ?l ?c ?k ?b
   case a|l|c|k=>k_is
   (case b=>exact fun _ _ _ _ _ _ us hl=>match us,hl with|[_],_=>rfl)
  have x_Fault:Mi.XnF (L2.KOf KX) mg "Fault" "word" "Fault.__init__" FK16.zdc:=by
   dsimp only [L2.KOf]
   refine' Mi.zfk KX G ?aC ?hC ?hB ?hN ?he ?hi ?fn ?kp ?sa ?hcl ?hl ?no ?hd ?l ?c ?k ?b
   case aC|hC=>k_is
   (case hB=>k_exc)
   (case hN=>k_is)
   (case he=>first|rfl|with_unfolding_all rfl|simp)
   (case hi=>k_is)
   (case fn=>k_is)
   (case kp=>k_is)
   (case sa=>k_is)
   (case hcl=>k_is)
   (case hl=>rfl)
   (case no=>k_is)
   (case hd=>k_is)
   (case l=>k_is)
   (case c=>k_is)
   (case k=>k_is)
   (case b=>exact fun _ _ _ _ _ _ us hl=>match us,hl with|[_,_],_=>rfl)
  have x_NoOp:Mi.XnF (L2.KOf KX) mg "NoOp" "word" "NoOp.__init__" FK16.zdd:=by
   dsimp only [L2.KOf]
   refine' Mi.zfk KX G ?aC ?hC ?hB ?hN ?he ?hi ?fn ?kp ?sa ?hcl ?hl ?no ?hd ?l ?c ?k ?b
   case aC|hC=>k_is
   (case hB=>k_exc)
   (case hN=>k_is)
   (case he=>first|rfl|with_unfolding_all rfl|simp)
   (case hi=>k_is)
   (case fn=>k_is)
   (case kp=>k_is)
   (case sa=>k_is)
   (case hcl=>k_is)
   (case hl=>rfl)
   (case no=>k_is)
   (case hd=>k_is)
   (case l=>k_is)
   (case c=>k_is)
   (case k=>k_is)
   (case b=>exact fun _ _ _ _ _ _ us hl=>match us,hl with|[_,_],_=>rfl)
  have a_Fault:∃f,mg "Fault" = some (.ref f):=by
   refine' Mi.jh KX G ?a
   (case a=>k_is)
  have a_NoFunction:∃f,mg "NoFunction" = some (.ref f):=by
   refine' Mi.jh KX G ?a
   (case a=>k_is)
  have a_NoOp:∃f,mg "NoOp" = some (.ref f):=by
   refine' Mi.jh KX G ?a
   (case a=>k_is)
  have a_NoScore:∃f,mg "NoScore" = some (.ref f):=by
   refine' Mi.jh KX G ?a
   (case a=>k_is)
  have a_NoText:∃f,mg "NoText" = some (.ref f):=by
   refine' Mi.jh KX G ?a
   (case a=>k_is)
  have a_NotLetBy:∃f,mg "NotLetBy" = some (.ref f):=by
   refine' Mi.jh KX G ?a
   (case a=>k_is)
  have a_Op:∃f,mg "Op" = some (.ref f):=by
   refine' Mi.jh KX G ?a
   (case a=>k_is)
  have a_TooMany:∃f,mg "TooMany" = some (.ref f):=by
   refine' Mi.jh KX G ?a
   (case a=>k_is)
  have a_Twice:∃f,mg "Twice" = some (.ref f):=by
   refine' Mi.jh KX G ?a
   (case a=>k_is)
  have a_Unbound:∃f,mg "Unbound" = some (.ref f):=by
   refine' Mi.jh KX G ?a
   (case a=>k_is)
  have a_WrongCount:∃f,mg "WrongCount" = some (.ref f):=by
   refine' Mi.jh KX G ?a
   (case a=>k_is)
  have b_ValueError:mg "ValueError" = none:=by
   refine' Mi.yZ KX G ?a
   (case a=>k_is)
  have b_any:mg "any" = none:=by
   refine' Mi.yZ KX G ?a
   (case a=>k_is)
  have b_bool:mg "bool" = none:=by
   refine' Mi.yZ KX G ?a
   (case a=>k_is)
  have b_dict:mg "dict" = none:=by
   refine' Mi.yZ KX G ?a
   (case a=>k_is)
  have b_int:mg "int" = none:=by
   refine' Mi.yZ KX G ?a
   (case a=>k_is)
  have b_isinstance:mg "isinstance" = none:=by
   refine' Mi.yZ KX G ?a
   (case a=>k_is)
  have b_len:mg "len" = none:=by
   refine' Mi.yZ KX G ?a
   (case a=>k_is)
  have b_list:mg "list" = none:=by
   refine' Mi.yZ KX G ?a
   (case a=>k_is)
  have b_range:mg "range" = none:=by
   refine' Mi.yZ KX G ?a
   (case a=>k_is)
  have b_str:mg "str" = none:=by
   refine' Mi.yZ KX G ?a
   (case a=>k_is)
  have b_tuple:mg "tuple" = none:=by
   refine' Mi.yZ KX G ?a
   (case a=>k_is)
  have b_zip:mg "zip" = none:=by
   refine' Mi.yZ KX G ?a
   (case a=>k_is)
  have c_MOST_PARTS:∃t,mg "MOST_PARTS" = some (.int 60 t):=by
   refine' Mi.zmA KX G ?a
   (case a=>k_is)
  have ct_FALLING:∃a,mg "FALLING" = some (.ref a)/\∀ρ H,Mi.R (L2.KOf KX) mg ρ H (.tup (List.map Mi.PV.str FK16.ct_FALLING)) (.ref a):=by
   dsimp only [L2.KOf]
   refine' Mi.zf6 KX G ?a ?l ?z ?s
   case a|l=>k_is
   (case z=>rfl)
   (case s=>decide)
  have ct_FAULTLESS:∃a,mg "FAULTLESS" = some (.ref a)/\∀ρ H,Mi.R (L2.KOf KX) mg ρ H (.tup (List.map Mi.PV.str FK16.ct_FAULTLESS)) (.ref a):=by
   dsimp only [L2.KOf]
   refine' Mi.zf6 KX G ?a ?l ?z ?s
   case a|l=>k_is
   (case z=>rfl)
   (case s=>decide)
  have sb_ForeError:∃B,mg "ForeError" = some (.ref B)/\L2.ExOf (L2.KOf KX) B/\∀c,FK16.zbq c=true->∃C,mg c=some (.ref C)/\L2.ExSub (L2.KOf KX) C B:=by
   dsimp only [L2.KOf]
   have hb:=by
    refine' Mi.znQ (c := "ForeError") KX G ?aC ?hC ?hN ?he ?kp
    case aC|hC|hN=>k_is
    (case he=>first|rfl|with_unfolding_all rfl|simp)
    (case kp=>k_is)
   refine ⟨_,hb.1,hb.2,fun c hc=>?_⟩
   simp [FK16.zbq,or_assoc] at hc
   rcases hc with rfl
   ·refine' Mi.znP KX G hb.1 x_NoOp.tr ?aC ?aB ?hm
    case aC|aB|hm=>k_is
  have d_many:Mi.FldF (L2.KOf KX) mg "many" FK16.insOf FK16.excOf:=by
   refine ⟨fun c hc=>?_,fun c hc=>?_⟩
   ·simp [FK16.insOf,or_assoc] at hc
    rcases hc with rfl
    ·dsimp only [L2.KOf]
     refine' Mi.zfl KX G ?aC ?pg ?hd ?po ?sa ?na
     case aC|pg|hd|po|sa|na=>k_is
   ·simp [FK16.excOf,or_assoc] at hc
    rcases hc with rfl|rfl
    ·dsimp only [L2.KOf]
     refine' Mi.zbf KX G ?aC ?ga ?hk ?hB ?hd ?no
     case aC|ga|hk|hB|hd|no=>k_is
    ·dsimp only [L2.KOf]
     refine' Mi.zbf KX G ?aC ?ga ?hk ?hB ?hd ?no
     case aC|ga|hk|hB|hd|no=>k_is
  have d_word:Mi.FldF (L2.KOf KX) mg "word" FK16.insOf FK16.excOf:=by
   refine ⟨fun c hc=>?_,fun c hc=>?_⟩
   ·simp [FK16.insOf,or_assoc] at hc
    rcases hc with rfl
    ·dsimp only [L2.KOf]
     refine' Mi.zfl KX G ?aC ?pg ?hd ?po ?sa ?na
     case aC|pg|hd|po|sa|na=>k_is
   ·simp [FK16.excOf,or_assoc] at hc
    rcases hc with rfl|rfl
    ·dsimp only [L2.KOf]
     refine' Mi.zbf KX G ?aC ?ga ?hk ?hB ?hd ?no
     case aC|ga|hk|hB|hd|no=>k_is
    ·dsimp only [L2.KOf]
     refine' Mi.zbf KX G ?aC ?ga ?hk ?hB ?hd ?no
     case aC|ga|hk|hB|hd|no=>k_is
  have is:Mi.IsF (L2.KOf KX) mg FK16.isT:=by
   refine Mi.znR (L:=FK16.isL) (LT:=FK16.isLT) (es:=["NoOp"]) (is:=["Op"]) rfl rfl rfl (by decide) ?hS ?hT ?hE ?hI
   case hS =>
    unfold FK16.isL
    refine Mi.all_cons ?_ ?_
    ·show ∃C D,mg "NoOp" = some (.ref C)/\mg "Fault" = some (.ref D)/\PySem.W.kitOne _ (.ref C) (.ref D)=some false
     dsimp only [L2.KOf]
     refine' Mi.jD KX G ?aC ?aD ?u1 ?u2 ?u3 ?ne
     case aC|aD|u1|u2|u3=>k_is
     (case ne=>decide)
    refine Mi.all_cons ?_ ?_
    ·show ∃C D,mg "NoOp" = some (.ref C)/\mg "NoText" = some (.ref D)/\PySem.W.kitOne _ (.ref C) (.ref D)=some false
     dsimp only [L2.KOf]
     refine' Mi.jD KX G ?aC ?aD ?u1 ?u2 ?u3 ?ne
     case aC|aD|u1|u2|u3=>k_is
     (case ne=>decide)
    refine Mi.all_cons ?_ ?_
    ·show ∃C D,mg "NoOp" = some (.ref C)/\mg "Twice" = some (.ref D)/\PySem.W.kitOne _ (.ref C) (.ref D)=some false
     dsimp only [L2.KOf]
     refine' Mi.jD KX G ?aC ?aD ?u1 ?u2 ?u3 ?ne
     case aC|aD|u1|u2|u3=>k_is
     (case ne=>decide)
    refine Mi.all_cons ?_ ?_
    ·show ∃C D,mg "NoOp" = some (.ref C)/\mg "Unbound" = some (.ref D)/\PySem.W.kitOne _ (.ref C) (.ref D)=some false
     dsimp only [L2.KOf]
     refine' Mi.jD KX G ?aC ?aD ?u1 ?u2 ?u3 ?ne
     case aC|aD|u1|u2|u3=>k_is
     (case ne=>decide)
    refine Mi.all_cons ?_ ?_
    ·show ∃C D,mg "NoOp" = some (.ref C)/\mg "NoFunction" = some (.ref D)/\PySem.W.kitOne _ (.ref C) (.ref D)=some false
     dsimp only [L2.KOf]
     refine' Mi.jD KX G ?aC ?aD ?u1 ?u2 ?u3 ?ne
     case aC|aD|u1|u2|u3=>k_is
     (case ne=>decide)
    refine Mi.all_cons ?_ ?_
    ·show ∃C D,mg "NoOp" = some (.ref C)/\mg "WrongCount" = some (.ref D)/\PySem.W.kitOne _ (.ref C) (.ref D)=some false
     dsimp only [L2.KOf]
     refine' Mi.jD KX G ?aC ?aD ?u1 ?u2 ?u3 ?ne
     case aC|aD|u1|u2|u3=>k_is
     (case ne=>decide)
    refine Mi.all_cons ?_ ?_
    ·show ∃C D,mg "NoOp" = some (.ref C)/\mg "NotLetBy" = some (.ref D)/\PySem.W.kitOne _ (.ref C) (.ref D)=some false
     dsimp only [L2.KOf]
     refine' Mi.jD KX G ?aC ?aD ?u1 ?u2 ?u3 ?ne
     case aC|aD|u1|u2|u3=>k_is
     (case ne=>decide)
    refine Mi.all_cons ?_ ?_
    ·show ∃C D,mg "NoOp" = some (.ref C)/\mg "TooMany" = some (.ref D)/\PySem.W.kitOne _ (.ref C) (.ref D)=some false
     dsimp only [L2.KOf]
     refine' Mi.jD KX G ?aC ?aD ?u1 ?u2 ?u3 ?ne
     case aC|aD|u1|u2|u3=>k_is
     (case ne=>decide)
    refine Mi.all_cons ?_ ?_
    ·show ∃C D,mg "NoOp" = some (.ref C)/\mg "NoScore" = some (.ref D)/\PySem.W.kitOne _ (.ref C) (.ref D)=some false
     dsimp only [L2.KOf]
     refine' Mi.jD KX G ?aC ?aD ?u1 ?u2 ?u3 ?ne
     case aC|aD|u1|u2|u3=>k_is
     (case ne=>decide)
    refine Mi.all_cons ?_ ?_
    ·show ∃C D,mg "NoOp" = some (.ref C)/\mg "NoOp" = some (.ref D)/\PySem.W.kitOne _ (.ref C) (.ref D)=some true
     dsimp only [L2.KOf]
     refine' Mi.zfN KX G ?aC
     (case aC=>k_is)
    refine Mi.all_cons ?_ ?_
    ·show ∃C D,mg "Op" = some (.ref C)/\mg "Op" = some (.ref D)/\PySem.W.kitOne _ (.ref C) (.ref D)=some true
     dsimp only [L2.KOf]
     refine' Mi.zfN KX G ?aC
     (case aC=>k_is)
    exact Mi.zad
   case hT =>
    unfold FK16.isLT
    refine Mi.all_cons ?_ ?_
    ·show ∃C,mg "NoOp" = some (.ref C)/\PySem.W.kitOne _ (.ref C) (.type "ValueError")=some true
     dsimp only [L2.KOf]
     refine' Mi.zmx KX G ?aC ?u1 ?u3
     (case aC=>k_is)
     (case u1=>first|rfl|decide|kernel_rfl)
     (case u3=>k_is)
    exact Mi.zad
   case hE =>
    refine Mi.all_cons ?_ ?_
    ·show ∀D,mg "NoOp" = some (.ref D)->L2.ExIs (L2.KOf KX) D
     dsimp only [L2.KOf]
     refine' Mi.zmy KX G ?aC ?ga ?hk ?hB ?hd ?ha ?hn ?tk ?hm
     case aC|ga|hk|hB|hd|ha|hn|tk|hm=>k_is
    exact Mi.zad
   case hI =>
    refine Mi.all_cons ?_ ?_
    ·show ∀D,mg "Op" = some (.ref D)->Mi.InIs (L2.KOf KX) D
     dsimp only [L2.KOf]
     refine' Mi.zm4 KX G ?aC ?pg ?hd ?po ?sa ?ha ?hn ?tk ?hm
     case aC|pg|hd|po|sa|ha|hn|tk|hm=>k_is
    exact Mi.zad
  have kd_OPS:∀X:L2.Cx,X.K=(L2.KOf KX)->X.mg=mg->X.w=w->Mi.KdF X "OPS" FK16.yT FK16.y3 FK16.zde:=by
   dsimp only [L2.KOf]
   refine' Mi.zns KX G ?aO ?lO ?hk ?no rfl ?ks ?hi
   case aO|lO=>k_is
   case hk =>
    repeat (refine ⟨⟨_,_,rfl,rfl⟩,?_⟩)
    exact trivial
   (case no=>first|rfl|decide)
   (case ks=>first|rfl|decide|kernel_rfl)
   case hi =>
    simp only [FK16.yT,FK16.y3,List.zip_cons_cons,List.zip_nil_left]
    refine Mi.all_cons ?_ ?_
    ·refine' Mi.jo KX G ?e ?l1 ?l2 ?a
     case e|l1|l2|a=>k_is
    refine Mi.all_cons ?_ ?_
    ·refine' Mi.jo KX G ?e ?l1 ?l2 ?a
     case e|l1|l2|a=>k_is
    refine Mi.all_cons ?_ ?_
    ·refine' Mi.jo KX G ?e ?l1 ?l2 ?a
     case e|l1|l2|a=>k_is
    refine Mi.all_cons ?_ ?_
    ·refine' Mi.jo KX G ?e ?l1 ?l2 ?a
     case e|l1|l2|a=>k_is
    refine Mi.all_cons ?_ ?_
    ·refine' Mi.jo KX G ?e ?l1 ?l2 ?a
     case e|l1|l2|a=>k_is
    refine Mi.all_cons ?_ ?_
    ·refine' Mi.jo KX G ?e ?l1 ?l2 ?a
     case e|l1|l2|a=>k_is
    refine Mi.all_cons ?_ ?_
    ·refine' Mi.jo KX G ?e ?l1 ?l2 ?a
     case e|l1|l2|a=>k_is
    refine Mi.all_cons ?_ ?_
    ·refine' Mi.zae KX G ?e ?l1 ?l2 ?a
     case e|l1|l2|a=>k_is
    refine Mi.all_cons ?_ ?_
    ·refine' Mi.zae KX G ?e ?l1 ?l2 ?a
     case e|l1|l2|a=>k_is
    refine Mi.all_cons ?_ ?_
    ·refine' Mi.jo KX G ?e ?l1 ?l2 ?a
     case e|l1|l2|a=>k_is
    refine Mi.all_cons ?_ ?_
    ·refine' Mi.zae KX G ?e ?l1 ?l2 ?a
     case e|l1|l2|a=>k_is
    refine Mi.all_cons ?_ ?_
    ·refine' Mi.zae KX G ?e ?l1 ?l2 ?a
     case e|l1|l2|a=>k_is
    refine Mi.all_cons ?_ ?_
    ·refine' Mi.zae KX G ?e ?l1 ?l2 ?a
     case e|l1|l2|a=>k_is
    refine Mi.all_cons ?_ ?_
    ·refine' Mi.jo KX G ?e ?l1 ?l2 ?a
     case e|l1|l2|a=>k_is
    refine Mi.all_cons ?_ ?_
    ·refine' Mi.zf1 KX G ?e ?l1 ?l2 ?a
     case e|l1|l2|a=>k_is
    refine Mi.all_cons ?_ ?_
    ·refine' Mi.jo KX G ?e ?l1 ?l2 ?a
     case e|l1|l2|a=>k_is
    refine Mi.all_cons ?_ ?_
    ·refine' Mi.zf1 KX G ?e ?l1 ?l2 ?a
     case e|l1|l2|a=>k_is
    exact Mi.zad
  have T:FK16.Txt w (L2.KOf KX) mg:=⟨f__law_words,f__law_cell,n_Op,f_op_of,f__law_many,f__law_truth,m_Op_falls,m_Op_never_faults,f__law_fits,f__law_pure,f__law_refused,f__law_text,f__law_leaf,f__law_values,f_kind_of,f_check_kinds,f_tell_down,f_filled,f_tell_head,f_tell_rest,f_place_in,f_tell_item,f_tell_field,f_things_within,f_all_within,f_parts,m_Op_answer,f__law_piece,f__law_falls,f_law,x_Fault,x_NoOp,a_Fault,a_NoFunction,a_NoOp,a_NoScore,a_NoText,a_NotLetBy,a_Op,a_TooMany,a_Twice,a_Unbound,a_WrongCount,b_ValueError,b_any,b_bool,b_dict,b_int,b_isinstance,b_len,b_list,b_range,b_str,b_tuple,b_zip,c_MOST_PARTS,ct_FALLING,ct_FAULTLESS,sb_ForeError,d_many,d_word,is,kd_OPS⟩
  exact Mi.zmz T.f_law hmg (fun _ _ _ _ _ _ _=>rfl) (fun f fd F base=>FK16.zpy T F) (fun ns _=>FK16.zqo ns))
