import PyProof.Rows.All
import Wide.All
import OpenK.AllK
import Wide.FinOn
import Lean
import PyProof.EqAt
import PyProof.EqKinds
import PyProof.TupleCall
import PySem.Challenge.RW_foreknown_k31_straight_lines
set_option Elab.async false
set_option linter.all false
set_option maxRecDepth 100000
namespace L2
open PySem PySem.Spec PyProof.Rows
abbrev Key:=Sum Int Str
def keyIs:Key→Value→Bool
 | .inl k,v=>Value.isInt k v
 | .inr x,v=>Value.isStrOf x v
def keyH (w:World):Key→Int
 | .inl k=>hashInt k
 | .inr x=>hashStr w x
theorem zZ:∀{k:Key} {v:Value},keyIs k v=true→(∃i t,k=Sum.inl i∧v=Value.int i t)∨(∃x t,k=Sum.inr x∧v=Value.str x t)
 | .inl i,v,h=>by
  obtain ⟨t,e⟩:=Value.isInt_shape (k:=i) (v:=v) h
  exact .inl ⟨i,t,rfl,e⟩
 | .inr x,v,h=>by
  obtain ⟨t,e⟩:=Value.isStrOf_shape (x:=x) (v:=v) h
  exact .inr ⟨x,t,rfl,e⟩
theorem zh0 (i:Int) (t:Tok):keyIs (.inl i) (.int i t)=true:=by simp [keyIs,Value.isInt]
theorem zh1 (x:Str) (t:Tok):keyIs (.inr x) (.str x t)=true:=by simp [keyIs,Value.isStrOf]
theorem zmY (a b:Int):decide ((Sum.inl a:Key)=Sum.inl b)=(a==b):=by
 by_cases e:a=b
 ·subst e;simp
 ·have h:¬(Sum.inl a:Key)=Sum.inl b:=fun q=>e (Sum.inl.inj q)
  rw [decide_eq_false h]
  exact (beq_eq_false_iff_ne.mpr e).symm
theorem zmZ (a b:Str):decide ((Sum.inr a:Key)=Sum.inr b)=decide (a=b):=by
 by_cases e:a=b
 ·subst e;simp
 ·have h:¬(Sum.inr a:Key)=Sum.inr b:=fun q=>e (Sum.inr.inj q)
  rw [decide_eq_false h,decide_eq_false e]
theorem zm0 (a:Int) (b:Str):decide ((Sum.inl a:Key)=Sum.inr b)=false:=decide_eq_false (fun q=>nomatch q)
theorem zm1 (a:Str) (b:Int):decide ((Sum.inr a:Key)=Sum.inl b)=false:=decide_eq_false (fun q=>nomatch q)
def mixKind (prog:Program) (w:World):PySem.KeyKind prog w Key where
 is:=keyIs
 hash:=keyH w
 inj:=fun v a b ha hb=>by
  rcases zZ ha with ⟨i,t,rfl,rfl⟩|⟨x,t,rfl,rfl⟩
  ·rcases zZ hb with ⟨j,u,rfl,e⟩|⟨y,u,rfl,e⟩
   ·injection e with e1 _;rw [e1]
   ·exact nomatch e
  ·rcases zZ hb with ⟨j,u,rfl,e⟩|⟨y,u,rfl,e⟩
   ·exact nomatch e
   ·injection e with e1 _;rw [e1]
 byValue:=fun k v h=>by
  rcases zZ h with ⟨i,t,rfl,rfl⟩|⟨x,t,rfl,rfl⟩<;>rfl
 pyHash:=fun hv h=>by
  rcases zZ hv with ⟨i,t,rfl,rfl⟩|⟨x,t,rfl,rfl⟩
  ·exact wpAny_pyHash_int h
  ·exact wpAny_pyHash_str h
 eqBool:=fun hu hv h=>by
  rcases zZ hu with ⟨i,t,rfl,rfl⟩|⟨x,t,rfl,rfl⟩
  ·rcases zZ hv with ⟨j,u,rfl,rfl⟩|⟨y,u,rfl,rfl⟩
   ·rw [zmY] at h;exact wpAny_eqBool_int h
   ·rw [zm0] at h;exact SeqAt.EqAt.int_str i t y u _ _ _ _ h
  ·rcases zZ hv with ⟨j,u,rfl,rfl⟩|⟨y,u,rfl,rfl⟩
   ·rw [zm1] at h;exact SeqAt.EqAt.str_int x t j u _ _ _ _ h
   ·rw [zmZ] at h;exact wpAny_eqBool_str h
 «strs» := fun k x t v h=>by
  rcases zZ h with ⟨i,u,rfl,e⟩|⟨y,u,rfl,e⟩
  ·exact nomatch e
  ·injection e with e1 _
   subst e1
   cases v<;>rfl
theorem zgm (prog:Program) (w:World) (i:Int) (t:Tok):(mixKind prog w).is (.inl i) (.int i t)=true:=zh0 i t
theorem zgn (prog:Program) (w:World) (x:Str) (t:Tok):(mixKind prog w).is (.inr x) (.str x t)=true:=zh1 x t
end L2
namespace L2
open PySem PySem.Spec PyProof.Rows
inductive V where
 | non|bl (b:Bool)|int (i:Int)|str (x:Str)|byt (b:Array UInt8)|flt (b:UInt64)|ref (a:Addr)|ty (n:String)
 deriving DecidableEq
def RelV:V→Value→Prop
 | .non,u=>u=Value.none
 | .bl b,u=>u=Value.bool b
 | .int i,u=>∃t,u=Value.int i t
 | .str x,u=>∃t,u=Value.str x t
 | .byt b,u=>∃t,u=Value.bytes b t
 | .flt b,u=>∃t,u=Value.float b t
 | .ref a,u=>u=Value.ref a
 | .ty n,u=>u=Value.type n
abbrev Vals:List V→List Value→Prop:=Paired RelV
theorem Vals.length {xs:List V} {us:List Value} (r:Vals xs us):xs.length=us.length:=Paired.length r
theorem Vals.get:∀{xs:List V} {us:List Value} {i:Nat} {x:V},Vals xs us→xs[i]?=some x→∃u,us[i]?=some u∧RelV x u
 | _,_,_,_,.nil,e=>by simp at e
 | _,_,0,_,.cons r _,e=>by simp at e;subst e;exact ⟨_,rfl,r⟩
 | _,_,i+1,x,.cons _ t,e=>by
  obtain ⟨u,h1,h2⟩:=Vals.get (i:=i) (x:=x) t (by simpa using e)
  exact ⟨u,by simpa using h1,h2⟩
theorem Vals.append:∀{xs ys:List V} {us ws:List Value},Vals xs us→Vals ys ws→Vals (xs++ys) (us++ws)
 | _,_,_,_,.nil,s=>s
 | _,_,_,_,.cons r t,s=>.cons r (Vals.append t s)
theorem Vals.take:∀{xs:List V} {us:List Value} (n:Nat),Vals xs us→Vals (xs.take n) (us.take n)
 | _,_,0,_=>.nil
 | _,_,_+1,.nil=>.nil
 | _,_,n+1,.cons r t=>.cons r (Vals.take n t)
theorem Vals.drop:∀{xs:List V} {us:List Value} (n:Nat),Vals xs us→Vals (xs.drop n) (us.drop n)
 | _,_,0,r=>r
 | _,_,_+1,.nil=>.nil
 | _,_,n+1,.cons _ t=>Vals.drop n t
def RelO:Option V→Option Value→Prop
 | some v,some u=>RelV v u
 | none,none=>True
 | _,_=>False
def KV {κ:Type}:List (κ×V)→List (κ×Value)→Prop:=Paired fun (p:κ×V) (q:κ×Value)=>p.1=q.1∧RelV p.2 q.2
def kV:Key→V
 | .inl i=>.int i
 | .inr x=>.str x
inductive HO where
 | lst (xs:List V)
 | tup (xs:List V)
 | dK (kvs:List (Key×V))|dT (kvs:List (List Key×V))
 | set (S:Int→Bool) (n:Nat)
 | ins (C dx:Addr) (fs:List (Str×V))
 | own (x:Addr)
 | xd (fs:List (Str×V))
 | met (f x:Addr)
 | rng (lo hi:Int)
 | frz (o:Obj) (u:HO)
 | tbl (ps:Array Value)
 | ext (φ:Heap→Prop)
abbrev Hp:=Addr→Option HO
def upd (H:Hp) (a:Addr) (o:HO):Hp:=fun b=>if b=a then some o else H b
theorem zx {H:Hp} {a:Addr} {o:HO}:upd H a o a=some o:=by unfold upd;rw [if_pos rfl]
theorem zu {H:Hp} {a b:Addr} {o:HO} (h:b≠a):upd H a o b=H b:=by unfold upd;rw [if_neg h]
theorem zlr {H:Hp} {a:Addr} {o u:HO}:upd (upd H a o) a u=upd H a u:=by
 funext b;unfold upd;split<;>rfl
theorem zoD {H:Hp} {a b:Addr} {o u:HO} (h:H a=some o) (h':H b=some u) (d:o≠u):a≠b:=by
 intro e;subst e;rw [h] at h';exact d (Option.some.inj h')
theorem zae {H:Hp} {a b:Addr} {o:HO} (h:H a=some o) (h':H b=none):a≠b:=by
 intro e;subst e;rw [h] at h';cases h'
section
variable (P:Program) (w:World)
def ObjOk (H:Hp) (h:Heap) (a:Addr):HO→Prop
 | .lst xs=>xs.length≤sizeLine∧∃(its:List Value) (n:Nat),Vals xs its∧h.get? a=some { cls:=.type "list", data:=.seq its.toArray n }
 | .tup xs=>xs.length≤sizeLine∧∃its:List Value,Vals xs its∧IsTup h a its.toArray
 | .dK kvs=>kvs.length≤sizeLine∧(a==sysModules)=false∧∃vs,KV kvs vs∧h.DictOf (mixKind P w) a vs
 | .dT kvs=>kvs.length≤sizeLine∧(a==sysModules)=false∧∃xs:List (List Key×Addr×Value),
   Paired (fun (p:List Key×V) (q:List Key×Addr×Value)=>p.1=q.1∧H q.2.1=some (.tup (p.1.map kV))∧RelV p.2 q.2.2) kvs xs ∧
   ∃o es ep,h.get? a=some o∧o.ExactDict∧o.data=.dict es ep∧es.toList=xs.map (entryOfKey (tupleKind (mixKind P w)))∧(xs.map (·.1)).Nodup
 | .set S n=>h.SetOf (intKind P w) a S n
 | .ins C dx fs=>H dx=some (.own a)∧fs.length≤1000∧dx≠a∧h.get? a=some (PySem.W.instObj C dx) ∧
   ∃mA,h.Ns1 dx mA∧(∀f,RelO (fs.lookup f) (mA f))∧PySem.Within mA (fs.map (·.1))
 | .own _=>∃o,h.get? a=some o
 | .xd fs=>∃mA,h.Ns1 a mA∧∀f,RelO (fs.lookup f) (mA f)
 | .rng lo hi=>∃t u v,h.get? a=some { cls:=.type "range", data:=.fields #[.int lo t,.int hi u,.int 1 v] }
 | .frz o u=>h.get? a=some o∧ObjOk H h a u
 | .tbl ps=>h.get? a=some { cls:=.none,data:=.fields ps }
 | .met f x=>h.get? a=some (PySem.W.methodObj (.ref f) (.ref x))
 | .ext φ=>φ h∧(∃o,h.get? a=some o)∧∀h1 h2:Heap,φ h1→(∀o,h1.get? a=some o→h2.get? a=some o)→φ h2
def HOk (H:Hp) (h:Heap):Prop:=∀a o,H a=some o→ObjOk P w H h a o
end
section
variable {P:Program} {w:World} {H H':Hp} {h h':Heap} {a:Addr} {o:HO}
theorem ObjOk.lt (x:ObjOk P w H h a o):a<h.objs.size:=by
 cases o with
 | lst xs=>obtain ⟨_,_,_,_,e⟩:=x;exact Heap.lt_size e
 | tup xs=>obtain ⟨_,_,_,p⟩:=x;exact p.lt
 | dK kvs=>obtain ⟨_,_,_,_,o,_,_,e,_⟩:=x;exact Heap.lt_size e
 | dT kvs=>obtain ⟨_,_,_,_,o,_,_,e,_⟩:=x;exact Heap.lt_size e
 | set S n=>obtain ⟨o,_,_,_,e,_⟩:=x;exact Heap.lt_size e
 | ins C dx fs=>obtain ⟨_,_,_,e,_⟩:=x;exact Heap.lt_size e
 | own y=>obtain ⟨_,e⟩:=x;exact Heap.lt_size e
 | xd fs=>obtain ⟨_,⟨_,_,_,e,_⟩,_⟩:=x;exact Heap.lt_size e
 | rng lo hi=>obtain ⟨_,_,_,e⟩:=x;exact Heap.lt_size e
 | frz ob u=>obtain ⟨e,_⟩:=x;exact Heap.lt_size e
 | tbl ps=>exact Heap.lt_size (show h.get? a=some _ from x)
 | met f y=>exact Heap.lt_size (show h.get? a=some _ from x)
 | ext φ=>obtain ⟨_,⟨_,e⟩,_⟩:=x;exact Heap.lt_size e
theorem Paired.mapP {α β:Type} {F G:α→β→Prop}:∀{l₁:List α} {l₂:List β},Paired F l₁ l₂→(∀a b,F a b→G a b)→Paired G l₁ l₂
 | _,_,.nil,_=>.nil
 | _,_,.cons r t,f=>.cons (f _ _ r) (Paired.mapP t f)
theorem ObjOk.stay (x:ObjOk P w H h a o) (k:∀b u,(b=a∨H b=some (.own a))→h.get? b=some u→h'.get? b=some u)
  (ho:∀b,H b=some (.own a)→H' b=some (.own a)) (ht:∀b xs,H b=some (.tup xs)→H' b=some (.tup xs)):ObjOk P w H' h' a o:=by
 induction o with
 | lst xs=>obtain ⟨z,its,n,r,e⟩:=x;exact ⟨z,its,n,r,k _ _ (.inl rfl) e⟩
 | tup xs=>obtain ⟨z,its,r,ob,e,c⟩:=x;exact ⟨z,its,r,ob,k _ _ (.inl rfl) e,c⟩
 | dK kvs=>obtain ⟨z,y,vs,r,ob,es,ep,e,c⟩:=x;exact ⟨z,y,vs,r,ob,es,ep,k _ _ (.inl rfl) e,c⟩
 | dT kvs =>
  obtain ⟨z,y,xs,r,ob,es,ep,e,c⟩:=x
  exact ⟨z,y,xs,Paired.mapP r fun p q z=>⟨z.1,ht _ _ z.2.1,z.2.2⟩,ob,es,ep,k _ _ (.inl rfl) e,c⟩
 | set S n=>obtain ⟨ob,es,ep,t,e,c⟩:=x;exact ⟨ob,es,ep,t,k _ _ (.inl rfl) e,c⟩
 | ins C dx fs =>
  obtain ⟨d,z,ne,e,mA,⟨od,es,ep,e2,c⟩,r⟩:=x
  exact ⟨ho _ d,z,ne,k _ _ (.inl rfl) e,mA,⟨od,es,ep,k _ _ (.inr d) e2,c⟩,r⟩
 | own y=>obtain ⟨ob,e⟩:=x;exact ⟨ob,k _ _ (.inl rfl) e⟩
 | xd fs=>obtain ⟨mA,⟨od,es,ep,e,c⟩,r⟩:=x;exact ⟨mA,⟨od,es,ep,k _ _ (.inl rfl) e,c⟩,r⟩
 | rng lo hi=>obtain ⟨t,u,v,e⟩:=x;exact ⟨t,u,v,k _ _ (.inl rfl) e⟩
 | frz ob u ih=>obtain ⟨e,q⟩:=x;exact ⟨k _ _ (.inl rfl) e,ih q⟩
 | tbl ps =>
  have e:h.get? a=some { cls:=.none,data:=.fields ps }:=x
  show h'.get? a=some { cls:=.none,data:=.fields ps }
  exact k a _ (.inl rfl) e
 | met f y =>
  have e:h.get? a=some (PySem.W.methodObj (.ref f) (.ref y)):=x
  show h'.get? a=some (PySem.W.methodObj (.ref f) (.ref y))
  exact k a _ (.inl rfl) e
 | ext φ=>obtain ⟨p,⟨o,e⟩,st⟩:=x;exact ⟨st _ _ p fun o q=>k _ _ (.inl rfl) q,⟨o,k _ _ (.inl rfl) e⟩,st⟩
theorem HOk.lt (x:HOk P w H h) (e:H a=some o):a<h.objs.size:=(x a o e).lt
theorem HOk.fresh (x:HOk P w H h) (e:h.objs.size≤a):H a=none:=by
 cases q:H a with
 | none=>rfl
 | some u=>exact absurd (Nat.lt_of_lt_of_le (x.lt q) e) (Nat.lt_irrefl _)
theorem HOk.kept (x:HOk P w H h) (k:∀b u,h.get? b=some u→h'.get? b=some u):HOk P w H h':=fun a o e =>
 (x a o e).stay (fun b u _ q=>k b u q) (fun _ q=>q) fun _ _ q=>q
theorem HOk.laid (x:HOk P w H h) (k:∀b u,h.get? b=some u→h'.get? b=some u) (hp:h.objs.size≤a) (new:ObjOk P w (upd H a o) h' a o):HOk P w (upd H a o) h':=fun b u e=>by
 have hn:=x.fresh hp
 by_cases hb:b=a
 ·subst hb;rw [zx] at e;cases e;exact new
 ·rw [zu hb] at e
  exact (x b u e).stay (fun c v _ q=>k c v q) (fun c q=>by rw [zu (zae q hn)];exact q) fun c xs q=>by rw [zu (zae q hn)];exact q
end
def Rd (H:Hp) (a:Addr) (u:HO):Prop:=H a=some u∨∃o,H a=some (.frz o u)
theorem Rd.ok {P:Program} {w:World} {H:Hp} {h:Heap} {a:Addr} {u:HO} (r:Rd H a u) (x:HOk P w H h):ObjOk P w H h a u:=by
 rcases r with r|⟨o,r⟩
 ·exact x a u r
 ·obtain ⟨_,q⟩:=x a _ r
  exact q
def Mut:Option HO→Prop
 | some (.lst _)=>True
 | some (.dK _)=>True
 | some (.dT _)=>True
 | some (.set _ _)=>True
 | some (.ins _ _ _)=>True
 | some (.ext _)=>True
 | _=>False
section
variable {P:Program} {w:World} {H:Hp} {h h':Heap} {x e:Addr} {o':HO}
theorem HOk.write (ok:HOk P w H h) (mu:Mut (H x)) (he:e=x∨H e=some (.own x)) (k:∀b u,b≠e→h.get? b=some u→h'.get? b=some u) (heo:∃u,h'.get? e=some u)
  (new:ObjOk P w (upd H x o') h' x o'):HOk P w (upd H x o') h':=fun b u q=>by
 have nown:∀c y,H c=some (.own y)→c≠x:=fun c y r z=>by subst z;rw [r] at mu;exact mu
 have ntup:∀c xs,H c=some (.tup xs)→c≠x:=fun c xs r z=>by subst z;rw [r] at mu;exact mu
 by_cases hb:b=x
 ·subst hb;rw [zx] at q;cases q;exact new
 ·rw [zu hb] at q
  by_cases hbe:b=e
  ·have q':H b=some (.own x):=by
    rcases he with z|z
    ·exact absurd (hbe.trans z) hb
    ·rw [hbe];exact z
   rw [q] at q';cases q'
   obtain ⟨v,hv⟩:=heo
   exact ⟨v,by rw [hbe];exact hv⟩
  ·refine (ok b u q).stay (fun c v hc r=>k c v ?_ r) (fun c r=>by rw [zu (nown c b r)];exact r) fun c xs r=>by rw [zu (ntup c xs r)];exact r
   rcases hc with rfl|hc
   ·exact hbe
   ·rintro rfl
    rcases he with z|z
    ·exact nown c b hc z
    ·rw [hc] at z;cases z;exact hb rfl
end
structure Un (fs ex:List Addr) (H H':Hp) (h h':Heap):Prop where
 keep:∀b o,h.get? b=some o→H b=none→b∉fs→b∉ex→h'.get? b=some o
 slot:∀b o,h.get? b=some o→H b=none→b∈fs→b∉ex→∃sl,h'.get? b=some { o with slots:=sl }
 free:∀b o,h.get? b=some o→H b=none→b∉ex→H' b=none
 there:∀b o,h.get? b=some o→b∉ex→∃o',h'.get? b=some o'
 tups:∀b xs,H b=some (.tup xs)→H' b=some (.tup xs)
 frzs:∀b o u,H b=some (.frz o u)→H' b=some (.frz o u)
 tbls:∀b ps,H b=some (.tbl ps)→∃more,H' b=some (.tbl (ps++more))
section
variable {fs fs' ex ex':List Addr} {H H1 H2:Hp} {h h1 h2 h':Heap} {a x e:Addr} {o:HO}
theorem Un.any (u:Un fs ex H H1 h h1) {b:Addr} {ob:Obj} (q:h.get? b=some ob) (n:H b=none) (hx:b∉ex):∃sl,h1.get? b=some { ob with slots:=sl }:=by
 by_cases hb:b∈fs
 ·exact u.slot b ob q n hb hx
 ·exact ⟨ob.slots,u.keep b ob q n hb hx⟩
theorem Un.kept (k:∀b u,h.get? b=some u→h'.get? b=some u):Un fs ex H H h h' :=
 ⟨fun b ob q _ _ _=>k b ob q,fun b ob q _ _ _=>⟨ob.slots,k b ob q⟩,fun _ _ _ n _=>n,fun b ob q _=>⟨ob,k b ob q⟩,fun _ _ q=>q,fun _ _ _ q=>q,fun _ ps q=>⟨#[],by rw [q];simp⟩⟩
theorem Un.refl:Un fs ex H H h h:=Un.kept fun _ _ q=>q
theorem Un.laid (k:∀b u,h.get? b=some u→h'.get? b=some u) (hp:h.objs.size≤a) (hn:H a=none):Un fs ex H (upd H a o) h h' where
 keep:=fun b u q _ _ _=>k b u q
 slot:=fun b u q _ _ _=>⟨u.slots,k b u q⟩
 free:=fun b u q n _=>by rw [zu (Nat.ne_of_lt (Nat.lt_of_lt_of_le (Heap.lt_size q) hp))];exact n
 there:=fun b u q _=>⟨u,k b u q⟩
 tups:=fun b xs q=>by rw [zu (zae q hn)];exact q
 frzs:=fun b u xs q=>by rw [zu (zae q hn)];exact q
 tbls:=fun b ps q=>⟨#[],by rw [zu (zae q hn),q];simp⟩
theorem Un.write (mu:Mut (H x)) (he:e=x∨H e=some (.own x)) (k:∀b u,b≠e→h.get? b=some u→h'.get? b=some u) (heo:∃u,h'.get? e=some u):Un fs ex H (upd H x o) h h':=by
 have hx:∀b,H b=none→b≠x:=fun b n z=>by subst z;rw [n] at mu;exact mu
 have hb:∀b,H b=none→b≠e:=fun b n z=>by
  subst z
  rcases he with r|r
  ·exact hx b n r
  ·rw [n] at r;cases r
 have hm:∀b u,H b=some u→¬Mut (some u)→b≠x:=fun b u q nm z=>by subst z;rw [q] at mu;exact nm mu
 refine ⟨fun b u q n _ _=>k b u (hb b n) q,fun b u q n _ _=>⟨u.slots,k b u (hb b n) q⟩,fun b u q n _=>by rw [zu (hx b n)];exact n,fun b u q _=>?_,
  fun b xs q=>by rw [zu (hm b _ q fun z=>z)];exact q,fun b u xs q=>by rw [zu (hm b _ q fun z=>z)];exact q,fun b ps q=>⟨#[],by rw [zu (hm b _ q fun z=>z),q];simp⟩⟩
 by_cases hbe:b=e
 ·subst hbe;exact heo
 ·exact ⟨u,k b u hbe q⟩
end
def trk (h:Heap) (H:Hp):List Addr:=(List.range h.objs.size).filter fun a=>(H a).isSome
def hidT (h:Heap) (H:Hp):Heap:=PySem.W.hideAll h (trk h H)
theorem zh2 (h:Heap) (H:Hp):(hidT h H).objs.size=h.objs.size:=PySem.W.hideAll_size _ _
theorem zjO {h:Heap} {H:Hp} {b:Addr} {o:Obj} (e:h.get? b=some o) (n:H b=none):(hidT h H).get? b=some o :=
 PySem.W.hideAll_get _ e fun hm=>by
  have q:(H b).isSome=true:=(List.mem_filter.mp hm).2
  rw [n] at q;simp at q
theorem zls {h:Heap} {H:Hp} {b:Addr} {o:Obj} (e:(hidT h H).get? b=some o):h.get? b=some o∧H b=none:=by
 have e':h.get? b=some o:=PySem.W.of_hideAll (trk h H) e
 refine ⟨e',?_⟩
 cases q:H b with
 | none=>rfl
 | some x =>
  have hm:b∈trk h H:=List.mem_filter.mpr ⟨List.mem_range.mpr (Heap.lt_size e'),by simp [q]⟩
  have z:(hidT h H).get? b=none:=PySem.W.hideAll_none (trk h H) hm
  rw [z] at e;cases e
def allNews (g h:Heap) (L:Addr):List (Addr×Obj):=(List.range h.objs.size).filterMap fun a=>if a=L∨(g.get? a).isSome=true then none else (h.get? a).map fun o=>(a,o)
def rest (g h:Heap) (L d:Addr):List (Addr×Obj):=(allNews g h L).filter fun p=>decide (p.1≠d)
end L2
namespace L2
open PySem PySem.Spec PyProof.Rows
structure Mod (K:PySem.W.Frag) (mg:Str→Option Value) (base:Heap):Prop where
 kin:K.In base
 glob:base.Ns mainGlobals mg
 blt:∃mb,base.Ns builtinsNs mb∧∀x:Str,x ≠ "__name__" → mb x=bootBuiltins x
 nolimit:base.NoLimit
structure Cx where
 prog:Program
 w:World
 K:PySem.W.Frag
 mg:Str→Option Value
 base:Heap
 A:Around
 N:List Str
 s₀:Shared
 H₀:Hp
 env:Env
 outer:List Env
 stack:List Env
 ex:List Addr
 fn:Str→Bool
 calm:Bool
 pn:List (Addr×Obj)
 xe:Value→Shared→Prop
def frs (l:List Env):List Addr:=l.filterMap (·.frame)
abbrev Cx.fs (X:Cx):List Addr:=frs X.outer
def Vis (sc:Scope) (x:Str):Prop:=sc.names.lookup x=some .local∨sc.names.lookup x=some .cell∨sc.names.lookup x=some .free
def Loc (sc:Scope) (x:Str):Prop:=sc.names.lookup x=some .local∨sc.names.lookup x=some .cell
def Look (env:Env) (h:Heap) (m:Str→Option Value) (x:Str) (u:Value):Prop :=
 (env.kindOf x=some .local∧m x=some u)∨((env.kindOf x=some .cell∨env.kindOf x=some .free)∧∃c,env.cells.lookup x=some c∧h.IsCell c (some u))
structure Cx.Ok (X:Cx):Prop where
 mod:Mod X.K X.mg X.base
 kind:X.env.scope.kind=.function
 glob:X.env.globals=mainGlobals
 blt:X.env.builtins=builtinsNs
 above:X.s₀.heap.objs.size≤X.env.locals
 inj:∀x y c,X.env.cells.lookup x=some c→X.env.cells.lookup y=some c→x=y
 has:∀x,(X.env.kindOf x=some .cell∨X.env.kindOf x=some .free)→∃c,X.env.cells.lookup x=some c
 cab:∀x c,X.fn x=true→X.env.cells.lookup x=some c→X.s₀.heap.objs.size≤c
 hd:X.calm=true→X.A.handled=none
 frames:X.A.frames=some X.stack
 stk:X.stack=X.outer∨(X.stack=X.env::X.outer∧X.env.frame=some X.env.locals)
 exf:∀b∈X.ex,b≠X.env.locals∧∀x c,X.env.cells.lookup x=some c→c≠b
 bs:∀b o,X.base.get? b=some o→X.s₀.heap.get? b=some o∧X.H₀ b=none
 bsz:X.base.objs.size≤X.s₀.heap.objs.size
 noex:∀b o,X.base.get? b=some o→b∉X.ex
 exfs:∀b∈X.ex,b∉X.fs
 funs:X.s₀.heap.FunFrames X.base X.outer
 frf:∀b∈X.fs,X.H₀ b=none
structure Inv (X:Cx) (pins:List (Addr×Obj)) (σ:List (Option V)) (H:Hp) (s:Shared):Prop where
 ok:X.Ok
 os:s.os=X.s₀.os
 bare:AllBare s.gens
 base:Un X.fs X.ex X.H₀ H X.s₀.heap s.heap
 loc:∃m,s.heap.Ns X.env.locals m∧∀(i:Nat) (x:Str) (v:V),X.N[i]?=some x→σ[i]?=some (some v)→Vis X.env.scope x→∃u,RelV v u∧Look X.env s.heap m x u
 cell:∀x c,X.env.cells.lookup x=some c→∃v,s.heap.IsCell c v
 free:H X.env.locals=none
 freeC:∀x c,X.env.cells.lookup x=some c→H c=none
 pin:∀p∈X.pn++pins,s.heap.get? p.1=some p.2∧H p.1=none∧p.1≠X.env.locals∧p.1∉X.fs∧∀v,p.2.data ≠ .cell v
 hok:HOk X.prog X.w H s.heap
 len:σ.length=X.N.length
section
variable {X:Cx} {pins:List (Addr×Obj)} {σ:List (Option V)} {H H':Hp} {s:Shared} {h':Heap}
theorem Cx.Ok.nofr (ok:X.Ok) {b:Addr} {o:Obj} (e:X.base.get? b=some o):b∉X.fs:=fun hb=>by
 have:=(ok.funs.mem hb).1
 rw [e] at this;cases this
theorem Inv.bs (I:Inv X pins σ H s):∀b o,X.base.get? b=some o→s.heap.get? b=some o∧H b=none:=fun b o e =>
 ⟨I.base.keep b o (I.ok.bs b o e).1 (I.ok.bs b o e).2 (I.ok.nofr e) (I.ok.noex b o e),I.base.free b o (I.ok.bs b o e).1 (I.ok.bs b o e).2 (I.ok.noex b o e)⟩
theorem Inv.bk (I:Inv X pins σ H s):∀b o,X.base.get? b=some o→s.heap.get? b=some o:=fun b o e=>(I.bs b o e).1
theorem Inv.mod (I:Inv X pins σ H s):Mod X.K X.mg X.base:=I.ok.mod
theorem Inv.kIn (I:Inv X pins σ H s):X.K.In s.heap:=I.ok.mod.kin.keeps I.bk
theorem Inv.fr (I:Inv X pins σ H s):∃m,Fr X.base X.env.locals s.heap m :=
 let ⟨m,hn,_⟩:=I.loc
 ⟨m,hn,I.bk,Nat.le_trans I.ok.bsz I.ok.above⟩
theorem Inv.lt (I:Inv X pins σ H s):X.env.locals<s.heap.objs.size:=let ⟨_,hn,_⟩:=I.loc;hn.lt
theorem Inv.sz (I:Inv X pins σ H s):X.s₀.heap.objs.size≤s.heap.objs.size:=Nat.le_trans I.ok.above (Nat.le_of_lt I.lt)
theorem Inv.nofs (I:Inv X pins σ H s) {a:Addr} (h:s.heap.objs.size≤a):a∉X.fs:=fun hb=>by
 obtain ⟨_,o,ho,_⟩:=I.ok.funs.mem hb
 exact absurd (Nat.lt_of_lt_of_le (Heap.lt_size ho) (Nat.le_trans I.sz h)) (Nat.lt_irrefl _)
theorem Inv.cne (I:Inv X pins σ H s):∀x c,X.env.cells.lookup x=some c→c≠X.env.locals:=fun x c e z=>by
 obtain ⟨v,o,ho,hd⟩:=I.cell x c e
 obtain ⟨m,⟨o',es,ep,ho',hd',_⟩,_⟩:=I.loc
 rw [z,ho'] at ho;cases ho;rw [hd'] at hd;cases hd
theorem Inv.funs (I:Inv X pins σ H s):s.heap.FunFrames X.base X.outer:=by
 have all:∀(l:List Env),(∀b∈frs l,b∈X.fs)→X.s₀.heap.FunFrames X.base l→s.heap.FunFrames X.base l:=by
  intro l
  induction l with
  | nil=>intro _ _;trivial
  | cons env r ih =>
   intro hs hl
   obtain ⟨hk,⟨L,o,hf,hn,ho,hd⟩,hr⟩:=hl
   have hL:L∈X.fs:=hs L (by unfold frs;rw [List.filterMap_cons,hf];exact List.mem_cons_self)
   obtain ⟨sl,e⟩:=I.base.slot L o ho (I.ok.frf L hL) hL fun z=>I.ok.exfs L z hL
   exact ⟨hk,⟨L,_,hf,hn,e,hd⟩,ih (fun b hb=>hs b (by unfold frs;rw [List.filterMap_cons,hf];exact List.mem_cons_of_mem _ hb)) hr⟩
 exact all X.outer (fun _ hb=>hb) I.ok.funs
theorem Inv.stack (I:Inv X pins σ H s):s.heap.FunFrames X.base X.stack:=by
 rcases I.ok.stk with e|⟨e,hf⟩
 ·rw [e];exact I.funs
 ·rw [e]
  obtain ⟨m,hn,_⟩:=I.loc
  refine .cons (by rw [I.ok.kind];decide) hf hn ?_ I.funs
  exact Heap.get?_none_of_le (Nat.le_trans I.ok.bsz I.ok.above)
theorem Inv.stkSub (I:Inv X pins σ H s):∀b∈frs X.stack,b∈X.env.locals::X.fs:=fun b hb=>by
 rcases I.ok.stk with e|⟨e,hf⟩
 ·rw [e] at hb;exact List.mem_cons_of_mem _ hb
 ·rw [e] at hb
  unfold frs at hb
  rw [List.filterMap_cons,hf] at hb
  exact hb
theorem Inv.stkFree (I:Inv X pins σ H s):∀b∈frs X.stack,H b=none:=fun b hb=>by
 rcases List.mem_cons.mp (I.stkSub b hb) with e|hb
 ·rw [e];exact I.free
 ·obtain ⟨_,o,ho,_⟩:=I.ok.funs.mem hb
  exact I.base.free b o ho (I.ok.frf b hb) fun z=>I.ok.exfs b z hb
theorem Inv.step {g':Array GenState} {t':Nat} {d':Drawn} {ch:List Addr} (I:Inv X pins σ H s)
  (hch:∀b∈ch,(b∈X.ex∨X.s₀.heap.objs.size≤b)∧b≠X.env.locals∧(∀x c,X.env.cells.lookup x=some c→c≠b)∧∀p∈X.pn++pins,p.1≠b)
  (keep:∀b o,b≠X.env.locals→b∉X.fs→b∉ch→s.heap.get? b=some o→H b=none→h'.get? b=some o)
  (slot:∀b o,b≠X.env.locals→b∈X.fs→b∉ch→s.heap.get? b=some o→H b=none→∃sl,h'.get? b=some { o with slots:=sl }) (free:∀b o,b∉ch→s.heap.get? b=some o→H b=none→H' b=none)
  (there:∀b o,b∉ch→s.heap.get? b=some o→∃o',h'.get? b=some o')
  (tups:∀b xs,H b=some (.tup xs)→H' b=some (.tup xs)) (frzs:∀b o u,H b=some (.frz o u)→H' b=some (.frz o u)) (tbls:∀b ps,H b=some (.tbl ps)→∃more,H' b=some (.tbl (ps++more)))
  (ns:∀m,s.heap.Ns X.env.locals m→h'.Ns X.env.locals m) (hok:HOk X.prog X.w H' h') (hg:AllBare g') :
  Inv X pins σ H' { s with heap:=h',gens:=g',drawn:=d',toks:=t' }:=by
 have neL:∀b o,X.s₀.heap.get? b=some o→b≠X.env.locals:=fun b o e=>Nat.ne_of_lt (Nat.lt_of_lt_of_le (Heap.lt_size e) I.ok.above)
 have neC:∀b o,X.s₀.heap.get? b=some o→b∉X.ex→b∉ch:=fun b o e hx hb=>by
  rcases (hch b hb).1 with z|z
  ·exact hx z
  ·exact absurd (Nat.lt_of_lt_of_le (Heap.lt_size e) z) (Nat.lt_irrefl _)
 have cellK:∀x c,X.env.cells.lookup x=some c→∀v,s.heap.IsCell c v→h'.IsCell c v:=fun x c e v ⟨o,ho,hd⟩=>by
  have nch:c∉ch:=fun z=>(hch c z).2.2.1 x c e rfl
  by_cases hc:c∈X.fs
  ·obtain ⟨sl,q⟩:=slot c o (I.cne x c e) hc nch ho (I.freeC x c e)
   exact ⟨_,q,hd⟩
  ·exact ⟨o,keep c o (I.cne x c e) hc nch ho (I.freeC x c e),hd⟩
 refine ⟨I.ok,I.os,hg,⟨fun b o e n hb hx=>?_,fun b o e n hb hx=>?_,fun b o e n hx=>?_,fun b o e hx=>?_,fun b xs e=>tups b xs (I.base.tups b xs e),fun b o xs e=>frzs b o xs (I.base.frzs b o xs e),fun b ps e=>?_⟩,?_,fun x c e=>?_,?_,fun x c e=>?_,fun p hp=>?_,hok,I.len⟩
 ·exact keep b o (neL b o e) hb (neC b o e hx) (I.base.keep b o e n hb hx) (I.base.free b o e n hx)
 ·obtain ⟨sl,e1⟩:=I.base.slot b o e n hb hx
  obtain ⟨sl',e2⟩:=slot b _ (neL b o e) hb (neC b o e hx) e1 (I.base.free b o e n hx)
  exact ⟨sl',e2⟩
 ·obtain ⟨o',e1⟩:=I.base.there b o e hx
  exact free b o' (neC b o e hx) e1 (I.base.free b o e n hx)
 ·obtain ⟨o',e1⟩:=I.base.there b o e hx
  exact there b o' (neC b o e hx) e1
 ·obtain ⟨m1,e1⟩:=I.base.tbls b ps e
  obtain ⟨m2,e2⟩:=tbls b _ e1
  exact ⟨m1++m2,by rw [e2,Array.append_assoc]⟩
 ·obtain ⟨m,hn,hl⟩:=I.loc
  refine ⟨m,ns m hn,fun i x v e1 e2 e3=>?_⟩
  obtain ⟨u,r,l⟩:=hl i x v e1 e2 e3
  refine ⟨u,r,?_⟩
  rcases l with l|⟨k,c,e,z⟩
  ·exact .inl l
  ·exact .inr ⟨k,c,e,cellK x c e _ z⟩
 ·obtain ⟨v,z⟩:=I.cell x c e
  exact ⟨v,cellK x c e v z⟩
 ·obtain ⟨m,⟨o,_,_,ho,_⟩,_⟩:=I.loc
  exact free _ o (fun z=>(hch _ z).2.1 rfl) ho I.free
 ·obtain ⟨v,o,ho,hd⟩:=I.cell x c e
  exact free c o (fun z=>(hch c z).2.2.1 x c e rfl) ho (I.freeC x c e)
 ·obtain ⟨e,n,ne,nf,d⟩:=I.pin p hp
  have nch:p.1∉ch:=fun z=>(hch p.1 z).2.2.2 p hp rfl
  exact ⟨keep p.1 p.2 ne nf nch e n,free p.1 p.2 nch e n,ne,nf,d⟩
theorem Inv.un {t':Nat} (I:Inv X pins σ H s) (u:Un X.fs [] H H' s.heap h') (hok:HOk X.prog X.w H' h'):Inv X pins σ H' { s with heap:=h',toks:=t' }:=by
 obtain ⟨m,⟨o,es,ep,ho,r⟩,_⟩:=id I.loc
 obtain ⟨sl,hL⟩:=u.any ho I.free (by simp)
 exact I.step (g':=s.gens) (d':=s.drawn) (ch:=[]) (fun _ z=>nomatch z) (fun b o _ hb _ e n=>u.keep b o e n hb (by simp)) (fun b o _ hb _ e n=>u.slot b o e n hb (by simp)) (fun b o _ e n=>u.free b o e n (by simp)) (fun b o _ e=>u.there b o e (by simp)) u.tups u.frzs u.tbls (fun m' hm=>by
  obtain ⟨o',es',ep',ho',r'⟩:=hm
  rw [ho] at ho';cases ho'
  exact ⟨_,es',ep',hL,r'⟩) hok I.bare
theorem Inv.call {g':Array GenState} {t':Nat} {d':Drawn} {ch:List Addr} (I:Inv X pins σ H s) (u:Un (frs X.stack) ch H H' s.heap h') (hok:HOk X.prog X.w H' h') (hg:AllBare g')
  (hch:∀b∈ch,(b∈X.ex∨X.s₀.heap.objs.size≤b)∧b≠X.env.locals∧(∀x c,X.env.cells.lookup x=some c→c≠b)∧∀p∈X.pn++pins,p.1≠b) :
  Inv X pins σ H' { s with heap:=h',gens:=g',drawn:=d',toks:=t' }:=by
 obtain ⟨m,⟨o,es,ep,ho,r⟩,_⟩:=id I.loc
 obtain ⟨sl,hL⟩:=u.any ho I.free fun z=>(hch _ z).2.1 rfl
 exact I.step (ch:=ch) hch (fun b o hL hb hc e n=>u.keep b o e n (fun z=>(List.mem_cons.mp (I.stkSub b z)).elim hL hb) hc) (fun b o _ _ hc e n=>u.any e n hc) (fun b o hc e n=>u.free b o e n hc) (fun b o hc e=>u.there b o e hc) u.tups u.frzs u.tbls (fun m' hm=>by
  obtain ⟨o',es',ep',ho',r'⟩:=hm
  rw [ho] at ho';cases ho'
  exact ⟨_,es',ep',hL,r'⟩) hok hg
theorem Inv.turned {t':Nat} {it:Addr} (I:Inv X pins σ H s) (k:∀b o,b≠it→s.heap.get? b=some o→h'.get? b=some o) (hn:H it=none) (hL:it≠X.env.locals)
  (h1:it∈X.ex∨X.s₀.heap.objs.size≤it) (h2:∀x c,X.env.cells.lookup x=some c→c≠it) (h3:∀p∈X.pn++pins,p.1≠it):Inv X pins σ H { s with heap:=h',toks:=t' }:=by
 have nit:∀b u,H b=some u→b≠it:=fun b u e z=>by rw [z,hn] at e;cases e
 refine I.step (g':=s.gens) (d':=s.drawn) (ch:=[it]) (fun b hb=>?_) (fun b o _ _ hc e _=>k b o (fun z=>hc (by simp [z])) e) (fun b o _ _ hc e _=>⟨o.slots,k b o (fun z=>hc (by simp [z])) e⟩) (fun _ _ _ _ n=>n)
  (fun b o hc e=>⟨o,k b o (fun z=>hc (by simp [z])) e⟩) (fun _ _ e=>e) (fun _ _ _ e=>e) (fun b ps e=>⟨#[],by rw [e];simp⟩) (fun m hm=>?_) (fun b u e=>?_) I.bare
 ·have e:b=it:=by simpa using hb
  subst e
  exact ⟨h1,hL,h2,h3⟩
 ·obtain ⟨o,es,ep,ho,r⟩:=hm
  exact ⟨o,es,ep,k _ o (Ne.symm hL) ho,r⟩
 ·refine (I.hok b u e).stay (fun c v hc q=>k c v ?_ q) (fun _ q=>q) fun _ _ q=>q
  rcases hc with z|z
  ·rw [z];exact nit b u e
  ·exact nit c _ z
theorem Inv.tok (I:Inv X pins σ H s) (t:Nat):Inv X pins σ H { s with toks:=t }:=I.un (h':=s.heap) (t':=t) Un.refl I.hok
theorem Inv.kept {t':Nat} (I:Inv X pins σ H s) (k:∀b u,s.heap.get? b=some u→h'.get? b=some u):Inv X pins σ H { s with heap:=h',toks:=t' }:=I.un (Un.kept k) (I.hok.kept k)
theorem Inv.laid {a:Addr} {o:HO} {t':Nat} (I:Inv X pins σ H s) (k:∀b u,s.heap.get? b=some u→h'.get? b=some u) (hp:s.heap.objs.size≤a) (new:ObjOk X.prog X.w (upd H a o) h' a o) :
  Inv X pins σ (upd H a o) { s with heap:=h',toks:=t' }:=I.un (Un.laid k hp (I.hok.fresh hp)) (I.hok.laid k hp new)
theorem Inv.write {x e:Addr} {o:HO} {t':Nat} (I:Inv X pins σ H s) (mu:Mut (H x)) (he:e=x∨H e=some (.own x)) (k:∀b u,b≠e→s.heap.get? b=some u→h'.get? b=some u) (heo:∃u,h'.get? e=some u)
  (new:ObjOk X.prog X.w (upd H x o) h' x o):Inv X pins σ (upd H x o) { s with heap:=h',toks:=t' }:=I.un (Un.write mu he k heo) (I.hok.write mu he k heo new)
theorem Inv.weak {σ':List (Option V)} (I:Inv X pins σ H s) (hl:σ'.length=σ.length) (w:∀(i:Nat) v,σ'[i]?=some (some v)→σ[i]?=some (some v)):Inv X pins σ' H s :=
 ⟨I.ok,I.os,I.bare,I.base,let ⟨m,hn,hl'⟩:=I.loc;⟨m,hn,fun i x v e1 e2 e3=>hl' i x v e1 (w i v e2) e3⟩,I.cell,I.free,I.freeC,I.pin,I.hok,hl.trans I.len⟩
theorem Inv.pins_of {pins':List (Addr×Obj)} (I:Inv X pins σ H s) (h:∀p∈pins',s.heap.get? p.1=some p.2∧H p.1=none∧p.1≠X.env.locals∧p.1∉X.fs∧∀v,p.2.data ≠ .cell v):Inv X pins' σ H s :=
 ⟨I.ok,I.os,I.bare,I.base,I.loc,I.cell,I.free,I.freeC,fun p hp=>(List.mem_append.mp hp).elim (fun z=>I.pin p (List.mem_append_left _ z)) (h p),I.hok,I.len⟩
theorem ze6 {N:List Str} (hN:N.Nodup) {i j:Nat} {x:Str} (a:N[i]?=some x) (b:N[j]?=some x):i=j:=by
 obtain ⟨h1,e1⟩:=List.getElem?_eq_some_iff.mp a
 obtain ⟨h2,e2⟩:=List.getElem?_eq_some_iff.mp b
 exact (List.getElem_inj hN).mp (e1.trans e2.symm)
theorem zh3 {M:Model} {A:Around} {E:Value→Shared→Prop} {i:Nat} {x:Str} {v:V} {u:Value} {Q:Unit→Shared→Prop} (I:Inv X pins σ H s) (hN:X.N.Nodup) (hi:X.N[i]?=some x) (hx:Loc X.env.scope x) (r:RelV v u)
  (h:∀s',Inv X pins (σ.set i (some v)) H s'→(∃a,Heap.SameBut a s.heap s'.heap∧(a=X.env.locals∨X.env.cells.lookup x=some a))→Q () s') (hf:X.fn x=true∨X.env.scope.names.lookup x=some .local:=by first|exact .inl rfl|exact .inr rfl|assumption):wpAny M A (storeName X.env x u) Q E s:=by
 obtain ⟨m,hn,hl⟩:=id I.loc
 have hcls:(X.env.scope.kind == .class||(X.env.scope.kind == .module&&X.env.locals != X.env.globals))=false:=by rw [I.ok.kind];rfl
 have hiσ:i<σ.length:=by rw [I.len];exact (List.getElem?_eq_some_iff.mp hi).1
 have cne:=I.cne
 have tracked:∀{a:Addr} {h':Heap},(∃o,s.heap.get? a=some o∧H a=none)→Heap.SameBut a s.heap h'→HOk X.prog X.w H h':=fun {a h'} ha hs b ob e=>by
  obtain ⟨_,_,hfree⟩:=ha
  refine (I.hok b ob e).stay (fun c w' hc q=>(hs.2 c ?_).trans q) (fun _ q=>q) fun _ _ q=>q
  rintro rfl
  rcases hc with rfl|hc
  ·rw [hfree] at e;cases e
  ·rw [hfree] at hc;cases hc
 rcases hx with hk|hk
 ·refine wpAny_storeName_local hk hn (fun h' hn' hs=>?_) hcls
  obtain ⟨oL,_,_,hoL,_⟩:=id hn
  refine h _ ⟨I.ok,I.os,I.bare,⟨fun b o e n hb hx=>?_,fun b o e n hb hx=>?_,I.base.free,fun b o e hx=>?_,I.base.tups,I.base.frzs,I.base.tbls⟩,⟨_,hn',fun j y v' e1 e2 e3=>?_⟩,fun y c e=>?_,I.free,I.freeC,fun p hp=>?_,tracked ⟨oL,hoL,I.free⟩ hs,by simpa using I.len⟩ ⟨_,hs,.inl rfl⟩
  ·exact (hs.2 b (Nat.ne_of_lt (Nat.lt_of_lt_of_le (Heap.lt_size e) I.ok.above))).trans (I.base.keep b o e n hb hx)
  ·obtain ⟨sl,e1⟩:=I.base.slot b o e n hb hx
   exact ⟨sl,(hs.2 b (Nat.ne_of_lt (Nat.lt_of_lt_of_le (Heap.lt_size e) I.ok.above))).trans e1⟩
  ·obtain ⟨o',e1⟩:=I.base.there b o e hx
   exact ⟨o',(hs.2 b (Nat.ne_of_lt (Nat.lt_of_lt_of_le (Heap.lt_size e) I.ok.above))).trans e1⟩
  ·by_cases hj:j=i
   ·subst hj
    rw [hi] at e1;cases e1
    rw [List.getElem?_set_self hiσ] at e2
    cases e2
    exact ⟨u,r,.inl ⟨hk,by simp⟩⟩
   ·rw [List.getElem?_set_ne (Ne.symm hj)] at e2
    obtain ⟨u',r',q⟩:=hl j y v' e1 e2 e3
    refine ⟨u',r',?_⟩
    rcases q with ⟨k,e⟩|⟨k,c,e,z⟩
    ·refine .inl ⟨k,?_⟩
     have:y≠x:=fun e=>hj (ze6 hN e1 (e▸hi))
     simp [this,e]
    ·exact .inr ⟨k,c,e,z.sameBut hs (cne y c e)⟩
  ·obtain ⟨w',z⟩:=I.cell y c e
   exact ⟨w',z.sameBut hs (cne y c e)⟩
  ·obtain ⟨e,n,ne,nf,d⟩:=I.pin p hp
   exact ⟨(hs.2 p.1 ne).trans e,n,ne,nf,d⟩
 ·have hfn:X.fn x=true:=by
   rcases hf with z|z
   ·exact z
   ·rw [z] at hk;cases hk
  obtain ⟨c,hc⟩:=I.ok.has x (.inl hk)
  obtain ⟨w',z⟩:=I.cell x c hc
  refine wpAny_storeName_cell I.ok.kind hk hc z (fun h' hc' hs=>?_)
  obtain ⟨oc,hoc,hocd⟩:=id z
  refine h { s with heap:=h' } ⟨I.ok,I.os,I.bare,⟨fun b o e n hb hx=>?_,fun b o e n hb hx=>?_,I.base.free,fun b o e hx=>?_,I.base.tups,I.base.frzs,I.base.tbls⟩,⟨m,hn.sameBut hs (Ne.symm (cne x c hc)),fun j y v' e1 e2 e3=>?_⟩,fun y c' e=>?_,I.free,I.freeC,fun p hp=>?_,tracked ⟨oc,hoc,I.freeC x c hc⟩ hs,by simpa using I.len⟩ ⟨c,hs,.inr hc⟩
  ·exact (hs.2 b (Nat.ne_of_lt (Nat.lt_of_lt_of_le (Heap.lt_size e) (I.ok.cab x c hfn hc)))).trans (I.base.keep b o e n hb hx)
  ·obtain ⟨sl,e1⟩:=I.base.slot b o e n hb hx
   exact ⟨sl,(hs.2 b (Nat.ne_of_lt (Nat.lt_of_lt_of_le (Heap.lt_size e) (I.ok.cab x c hfn hc)))).trans e1⟩
  ·obtain ⟨o',e1⟩:=I.base.there b o e hx
   exact ⟨o',(hs.2 b (Nat.ne_of_lt (Nat.lt_of_lt_of_le (Heap.lt_size e) (I.ok.cab x c hfn hc)))).trans e1⟩
  ·by_cases hj:j=i
   ·subst hj
    rw [hi] at e1;cases e1
    rw [List.getElem?_set_self hiσ] at e2
    cases e2
    exact ⟨u,r,.inr ⟨.inl hk,c,hc,hc'⟩⟩
   ·rw [List.getElem?_set_ne (Ne.symm hj)] at e2
    obtain ⟨u',r',q⟩:=hl j y v' e1 e2 e3
    refine ⟨u',r',?_⟩
    rcases q with q|⟨k,c',e,z'⟩
    ·exact .inl q
    ·refine .inr ⟨k,c',e,z'.sameBut hs ?_⟩
     rintro rfl
     exact hj (ze6 hN e1 (I.ok.inj _ _ _ e hc▸hi))
  ·by_cases hcc:c'=c
   ·subst hcc;exact ⟨_,hc'⟩
   ·obtain ⟨w2,z2⟩:=I.cell y c' e
    exact ⟨w2,z2.sameBut hs hcc⟩
  ·obtain ⟨e,n,ne,nf,d⟩:=I.pin p hp
   refine ⟨(hs.2 p.1 ?_).trans e,n,ne,nf,d⟩
   intro q
   rw [q,hoc] at e
   have q':oc=p.2:=Option.some.inj e
   exact d w' (by rw [←q'];exact hocd)
theorem zdi {M:Model} {A:Around} {E:Value→Shared→Prop} {i:Nat} {x:Str} {v:V} {u:Value} {Q:Unit→Shared→Prop} (I:Inv X pins σ H s) (hN:X.N.Nodup) (hi:X.N[i]?=some x) (hx:Loc X.env.scope x) (r:RelV v u)
  (h:∀s',Inv X pins (σ.set i (some v)) H s'→Q () s') (hf:X.fn x=true∨X.env.scope.names.lookup x=some .local:=by first|exact .inl rfl|exact .inr rfl|assumption):wpAny M A (storeName X.env x u) Q E s :=
 zh3 I hN hi hx r (fun s' I' _=>h s' I') hf
theorem Inv.call' {s':Shared} {ch:List Addr} (I:Inv X pins σ H s) (ho:s'.os=s.os) (u:Un (frs X.stack) ch H H' s.heap s'.heap) (hok:HOk X.prog X.w H' s'.heap) (hg:AllBare s'.gens)
  (hch:∀b∈ch,(b∈X.ex∨X.s₀.heap.objs.size≤b)∧b≠X.env.locals∧(∀x c,X.env.cells.lookup x=some c→c≠b)∧∀p∈X.pn++pins,p.1≠b):Inv X pins σ H' s':=by
 obtain ⟨h',g',d',t',o'⟩:=s'
 have e:o'=s.os:=ho
 subst e
 exact I.call (g':=g') (t':=t') (d':=d') u hok hg hch
end
abbrev XK:=Value→Option Addr→Hp→Prop
abbrev St:=List (Option V)
abbrev VK:=V→Hp→Prop
abbrev TE:=St→Hp→VK→Prop
abbrev TT:=St→Hp→(Bool→Hp→Prop)→Prop
abbrev TA:=St→Hp→(List V→Hp→Prop)→Prop
structure Ends where
 nx:St→Hp→Prop
 rt:VK
 bk:St→Hp→Prop:=fun _ _=>False
 ct:St→Hp→Prop:=fun _ _=>False
abbrev TS:=Ends→St→Hp→Prop
def EP (X:Cx) (pins:List (Addr×Obj)) (σ:St) (Q:VK) (u:Value) (s':Shared):Prop:=∃v H',Inv X pins σ H' s'∧RelV v u∧Q v H'
def TP (X:Cx) (pins:List (Addr×Obj)) (σ:St) (Q:Bool→Hp→Prop) (b:Bool) (s':Shared):Prop:=∃H',Inv X pins σ H' s'∧Q b H'
def AP (X:Cx) (pins:List (Addr×Obj)) (σ:St) (Q:List V→Hp→Prop) (us:List Value) (s':Shared):Prop:=∃vs H',Inv X pins σ H' s'∧Vals vs us∧Q vs H'
def SP (X:Cx) (pins:List (Addr×Obj)) (D:Ends) (f:Flow) (s':Shared):Prop :=
 match f with
 | .next=>∃σ' H',Inv X pins σ' H' s'∧D.nx σ' H'
 | .brk=>∃σ' H',Inv X pins σ' H' s'∧D.bk σ' H'
 | .cont=>∃σ' H',Inv X pins σ' H' s'∧D.ct σ' H'
 | .ret u=>∃v σ' H',Inv X pins σ' H' s'∧RelV v u∧D.rt v H'
def PE (X:Cx) (e:Expr) (t:TE):Prop :=
 ∀(pins:List (Addr×Obj)) (s:Shared) (σ:St) (H:Hp) (Q:VK),Inv X pins σ H s→t σ H Q→wpAny (model X.prog X.w) X.A (eval e X.env) (EP X pins σ Q) X.xe s
def PT (X:Cx) (e:Expr) (t:TT):Prop :=
 ∀(pins:List (Addr×Obj)) (s:Shared) (σ:St) (H:Hp) (Q:Bool→Hp→Prop),Inv X pins σ H s→t σ H Q→wpAny (model X.prog X.w) X.A (isTrue e X.env (eval e X.env)) (TP X pins σ Q) X.xe s
def PW (X:Cx) (e:Expr) (t:TT):Prop :=
 ∀(whole:Sem Value) (pins:List (Addr×Obj)) (s:Shared) (σ:St) (H:Hp) (Q:Bool→Hp→Prop),Inv X pins σ H s→t σ H Q→wpAny (model X.prog X.w) X.A (isTrue e X.env whole) (TP X pins σ Q) X.xe s
theorem PW.pt {X:Cx} {e:Expr} {t:TT} (h:PW X e t):PT X e t:=h _
def PA (X:Cx) (es:List Expr) (t:TA):Prop :=
 ∀(pos:Pos) (pins:List (Addr×Obj)) (s:Shared) (σ:St) (H:Hp) (Q:List V→Hp→Prop),Inv X pins σ H s→t σ H Q→wpAny (model X.prog X.w) X.A (spliced (backTo pos (starEach es X.env))) (AP X pins σ Q) X.xe s
def PS (X:Cx) (st:Stmt) (t:TS):Prop :=
 ∀(pins:List (Addr×Obj)) (s:Shared) (σ:St) (H:Hp) (D:Ends),Inv X pins σ H s→t D σ H→wpAny (model X.prog X.w) X.A (exec st X.env) (SP X pins D) X.xe s
def PSs (X:Cx) (st:List Stmt) (t:TS):Prop :=
 ∀(pins:List (Addr×Obj)) (s:Shared) (σ:St) (H:Hp) (D:Ends),Inv X pins σ H s→t D σ H→wpAny (model X.prog X.w) X.A (execs st X.env) (SP X pins D) X.xe s
theorem thn {α:Type} {t:Sem α} {Q Q':α→Shared→Prop} {M:Model} {A:Around} {E:Value→Shared→Prop} {s:Shared} (h:wpAny M A t Q E s) (hQ:∀a s,Q a s→Q' a s):wpAny M A t Q' E s:=wpAny_mono h hQ fun _ _ x=>x
end L2
namespace L2
open PySem PySem.Spec PyProof.Rows
section
variable {X:Cx}
def tVar (i:Nat):TE:=fun σ H Q=>∃v,σ[i]?=some (some v)∧Q v H
def tC (v:V):TE:=fun _ H Q=>Q v H
theorem zkX {i:Nat} {x:Str} {pos:Pos} (hN:X.N[i]?=some x) (hv:Vis X.env.scope x) (hd:(x==("__debug__" : Str))=false:=by decide) (hcd:(x==("__classdict__" : Str))=false:=by decide):PE X (.Name x pos) (tVar i):=by
 intro pins s σ H Q I h
 obtain ⟨v,e,h⟩:=h
 obtain ⟨m,hn,hl⟩:=I.loc
 obtain ⟨u,r,l⟩:=hl i x v hN e hv
 have fin:EP X pins σ Q u s:=⟨v,H,I,r,h⟩
 rcases l with ⟨hk,hm⟩|⟨hk,c,hc,hcell⟩
 ·exact wpAny_Name (wpAny_loadName_local I.ok.kind hk hn hm fin) hd
 ·rcases hk with hk|hk
  ·exact wpAny_Name (wpAny_loadName_cell I.ok.kind hk hc hcell fin) hd
  ·exact wpAny_Name (wpAny_loadName_free I.ok.kind hk hc hcell fin hcd) hd
theorem zm2 {i j pos}:PE X (.Constant (.int i) j pos) (tC (.int i)):=fun _ _ _ H _ I h=>wpAny_Constant_int ⟨.int i,H,I.tok _,⟨_,rfl⟩,h⟩
theorem zoE {b j pos}:PE X (.Constant (.bool b) j pos) (tC (.bl b)):=fun _ _ _ H _ I h=>Constant_bool ⟨.bl b,H,I,rfl,h⟩
theorem zm3 {j pos}:PE X (.Constant .none j pos) (tC .non):=fun _ _ _ H _ I h=>Constant_none ⟨.non,H,I,rfl,h⟩
theorem zm4 {x j pos}:PE X (.Constant (.str x) j pos) (tC (.str x)):=fun _ _ _ H _ I h=>Calls.Constant_str ⟨.str x,H,I.tok _,⟨_,rfl⟩,h⟩
def Gl (X:Cx) (x:Str):Prop:=X.env.kindOf x=some .globalImplicit
theorem zel {E:Value→Shared→Prop} {pins:List (Addr×Obj)} {s:Shared} {σ:St} {H:Hp} {x:Str} {u:Value} {pos:Pos} {Q:Value→Shared→Prop} (I:Inv X pins σ H s) (hg:Gl X x) (hm:X.mg x=some u) (h:Q u s)
  (hd:(x==("__debug__" : Str))=false:=by decide):wpAny (model X.prog X.w) X.A (eval (.Name x pos) X.env) Q E s :=
 Calls.Name_function_global I.ok.kind hg (Calls.loadGlobal_global (by rw [I.ok.glob];exact I.mod.glob.keeps I.bk) hm h) hd
theorem zcV {E:Value→Shared→Prop} {pins:List (Addr×Obj)} {s:Shared} {σ:St} {H:Hp} {x:Str} {u:Value} {pos:Pos} {Q:Value→Shared→Prop} (I:Inv X pins σ H s) (hg:Gl X x) (hm:X.mg x=none) (hv:bootBuiltins x=some u) (h:Q u s)
  (hn:x ≠ "__name__" := by decide) (hd:(x==("__debug__" : Str))=false:=by decide):wpAny (model X.prog X.w) X.A (eval (.Name x pos) X.env) Q E s:=by
 obtain ⟨mb,h1,h2⟩:=I.mod.blt
 exact Calls.Name_function_global I.ok.kind hg (Calls.loadGlobal_builtin (by rw [I.ok.glob];exact I.mod.glob.keeps I.bk) hm (by rw [I.ok.blt];exact h1.keeps I.bk) ((h2 x hn).trans hv) h) hd
theorem zgo {x:Str} {v:V} {u:Value} {pos:Pos} (hg:Gl X x) (hm:X.mg x=some u) (r:RelV v u) (hd:(x==("__debug__" : Str))=false:=by decide):PE X (.Name x pos) (tC v) :=
 fun _ _ _ H _ I h=>zel I hg hm ⟨v,H,I,r,h⟩ hd
theorem zlt {x:Str} {v:V} {u:Value} {pos:Pos} (hg:Gl X x) (hm:X.mg x=none) (hv:bootBuiltins x=some u) (r:RelV v u) (hn:x ≠ "__name__" := by decide) (hd:(x==("__debug__" : Str))=false:=by decide):PE X (.Name x pos) (tC v) :=
 fun _ _ _ H _ I h=>zcV I hg hm hv ⟨v,H,I,r,h⟩ hn hd
variable {a b:Expr} {ta tb:TE} {pos:Pos}
def tB (t:TE):TT:=fun σ H Q=>t σ H fun x H1=>∃c,x=.bl c∧Q c H1
theorem zm5 {e:Expr} {t:TE} (h:PE X e t) (he:∀whole,isTrue e X.env whole=(do let v ←whole;standAt e.pos;holding [v] (truthy v)):=by intro _;rfl):PT X e (tB t):=by
 intro pins s σ H Q I hw
 refine isTrue_plain (thn (h pins s σ H _ I hw) fun v s1 ⟨x,H1,I1,r1,q1⟩=>?_) (he _)
 obtain ⟨d,rfl,q⟩:=q1
 cases r1
 exact wpAny_truthy_bool ⟨H1,I1,q⟩
variable {tA tB':TT} {rest:List Expr}
def tAnd (t u:TT):TT:=fun σ H Q=>t σ H fun c H1=>if c=true then u σ H1 Q else Q false H1
def tOr (t u:TT):TT:=fun σ H Q=>t σ H fun c H1=>if c=true then Q true H1 else u σ H1 Q
def tNot (t:TT):TT:=fun σ H Q=>t σ H fun c H1=>Q (!c) H1
theorem zlu (ha:PT X a tA):PW X (.BoolOp .And [a] pos) tA:=by
 intro wh pins s σ H Q I h
 refine isTrue_and (thn (ha pins s σ H Q I h) fun c s1 e=>?_)
 cases c with
 | true=>exact isTrue_and_nil e
 | false=>exact e
theorem zm6 (ha:PT X a tA):PW X (.BoolOp .Or [a] pos) tA:=by
 intro wh pins s σ H Q I h
 refine isTrue_or (thn (ha pins s σ H Q I h) fun c s1 e=>?_)
 cases c with
 | false=>exact isTrue_or_nil e
 | true=>exact e
theorem zm7 (ha:PT X a tA) (hb:PW X (.BoolOp .And (b::rest) pos) tB'):PW X (.BoolOp .And (a::b::rest) pos) (tAnd tA tB'):=by
 intro wh pins s σ H Q I h
 refine isTrue_and (thn (ha pins s σ H _ I h) fun c s1 ⟨H1,I1,q1⟩=>?_)
 cases c with
 | true=>exact hb wh pins s1 σ H1 Q I1 q1
 | false=>exact ⟨H1,I1,q1⟩
theorem zoF (ha:PT X a tA) (hb:PW X (.BoolOp .Or (b::rest) pos) tB'):PW X (.BoolOp .Or (a::b::rest) pos) (tOr tA tB'):=by
 intro wh pins s σ H Q I h
 refine isTrue_or (thn (ha pins s σ H _ I h) fun c s1 ⟨H1,I1,q1⟩=>?_)
 cases c with
 | true=>exact ⟨H1,I1,q1⟩
 | false=>exact hb wh pins s1 σ H1 Q I1 q1
theorem zm8 (ha:PT X a tA):PT X (.UnaryOp .Not a pos) (tNot tA):=by
 intro pins s σ H Q I h
 exact isTrue_not (ha pins s σ H (fun c H1=>Q (!c) H1) I h)
def tAndV (ta tb:TE):TE:=fun σ H Q=>ta σ H fun x H1=>∃c,x=.bl c∧if c=true then tb σ H1 Q else Q (.bl false) H1
def tOrV (ta tb:TE):TE:=fun σ H Q=>ta σ H fun x H1=>∃c,x=.bl c∧if c=true then Q (.bl true) H1 else tb σ H1 Q
def tNotV (ta:TE):TE:=fun σ H Q=>ta σ H fun x H1=>∃c,x=.bl c∧Q (.bl (!c)) H1
theorem zm9 {op} {t:TE} (h:PE X a t):PE X (.BoolOp op [a] pos) t:=fun pins s σ H Q I hw=>BoolOp_one (h pins s σ H Q I hw)
theorem zna (ha:PE X a ta) (hb:PE X (.BoolOp .And (b::rest) pos) tb):PE X (.BoolOp .And (a::b::rest) pos) (tAndV ta tb):=by
 intro pins s σ H Q I h
 refine BoolOp_and (thn (ha pins s σ H _ I h) fun v s1 ⟨x,H1,I1,r1,q1⟩=>?_)
 obtain ⟨c,rfl,q1⟩:=q1
 cases r1
 refine wpAny_truthy_bool ?_
 cases c with
 | true=>exact hb pins s1 σ H1 Q I1 q1
 | false=>exact ⟨.bl false,H1,I1,rfl,q1⟩
theorem zoG (ha:PE X a ta) (hb:PE X (.BoolOp .Or (b::rest) pos) tb):PE X (.BoolOp .Or (a::b::rest) pos) (tOrV ta tb):=by
 intro pins s σ H Q I h
 refine BoolOp_or (thn (ha pins s σ H _ I h) fun v s1 ⟨x,H1,I1,r1,q1⟩=>?_)
 obtain ⟨c,rfl,q1⟩:=q1
 cases r1
 refine wpAny_truthy_bool ?_
 cases c with
 | false=>exact hb pins s1 σ H1 Q I1 q1
 | true=>exact ⟨.bl true,H1,I1,rfl,q1⟩
theorem znb (ha:PE X a ta):PE X (.UnaryOp .Not a pos) (tNotV ta):=by
 intro pins s σ H Q I h
 refine UnaryOp_ (thn (ha pins s σ H _ I h) fun v s1 ⟨x,H1,I1,r1,q1⟩=>?_)
 obtain ⟨c,rfl,q1⟩:=q1
 cases r1
 exact not_of (wpAny_truthy_bool ⟨.bl (!c),H1,I1,rfl,q1⟩)
def tIf (t:TT) (ta tb:TE):TE:=fun σ H Q=>t σ H fun c H1=>if c=true then ta σ H1 Q else tb σ H1 Q
theorem zjP {c:Expr} (hc:PT X c tA) (ha:PE X a ta) (hb:PE X b tb):PE X (.IfExp c a b pos) (tIf tA ta tb):=by
 intro pins s σ H Q I h
 refine wpAny_IfExp (thn (hc pins s σ H _ I h) fun d s1 ⟨H1,I1,q1⟩=>?_)
 cases d with
 | true=>exact ha pins s1 σ H1 Q I1 q1
 | false=>exact hb pins s1 σ H1 Q I1 q1
end
end L2
namespace L2
open PySem PySem.Spec PyProof.Rows
def SqL (K:PySem.W.Frag) (H:Hp) (a:Addr) (xs:List V):Prop :=
 Rd H a (.lst xs) ∨
  ∃(o:Obj) (its:Array Value) (n:Nat),K.lookup a=some o∧o.cls=.type "list" ∧ o.dict=none∧o.data=.seq its n∧its.size≤sizeLine∧Vals xs its.toList
def SqT (K:PySem.W.Frag) (H:Hp) (a:Addr) (xs:List V):Prop :=
 Rd H a (.tup xs) ∨
  ∃(o:Obj) (its:Array Value) (n:Nat),K.lookup a=some o∧o.cls=.type "tuple" ∧ o.data=.seq its n∧its.size≤sizeLine∧Vals xs its.toList
def absV:Value→Option V
 | .none=>some .non
 | .bool b=>some (.bl b)
 | .int i _=>some (.int i)
 | .str x _=>some (.str x)
 | .bytes b _=>some (.byt b)
 | .float b _=>some (.flt b)
 | .ref a=>some (.ref a)
 | .type n=>some (.ty n)
 | _=>none
theorem RelV.abs {x:V} {u:Value} (r:RelV x u):absV u=some x:=by
 cases x with
 | non=>cases r;rfl
 | bl _=>cases r;rfl
 | int _=>obtain ⟨t,rfl⟩:=r;rfl
 | str _=>obtain ⟨t,rfl⟩:=r;rfl
 | byt _=>obtain ⟨t,rfl⟩:=r;rfl
 | flt _=>obtain ⟨t,rfl⟩:=r;rfl
 | ref _=>cases r;rfl
 | ty _=>cases r;rfl
theorem RelV.inj {x y:V} {u:Value} (r:RelV x u) (q:RelV y u):x=y:=Option.some.inj (r.abs.symm.trans q.abs)
theorem Vals.inj:∀{xs ys:List V} {us:List Value},Vals xs us→Vals ys us→xs=ys
 | _,_,_,.nil,.nil=>rfl
 | _,_,_,.cons r t,.cons r' t'=>by rw [r.inj r',Vals.inj t t']
section
variable {X:Cx} {pins:List (Addr×Obj)} {σ:St} {H:Hp} {s:Shared} {a:Addr} {xs ys:List V}
theorem SqL.of {K:PySem.W.Frag} (h:H a=some (.lst xs)):SqL K H a xs:=.inl (.inl h)
theorem SqT.of {K:PySem.W.Frag} (h:H a=some (.tup xs)):SqT K H a xs:=.inl (.inl h)
theorem Inv.list (I:Inv X pins σ H s) (h:SqL X.K H a xs):∃its:List Value,Vals xs its∧PlainL s.heap a its.toArray∧xs.length≤sizeLine:=by
 rcases h with h|⟨o,its,n,hk,hc,hd,hs,hz,r⟩
 ·obtain ⟨z,its,n,r,e⟩:=h.ok I.hok
  exact ⟨its,r,⟨_,n,e,rfl,rfl,rfl⟩,z⟩
 ·refine ⟨its.toList,r,⟨o,n,I.kIn a o hk,hc,hd,by simpa using hs⟩,?_⟩
  have e:=r.length
  simp only [Array.length_toList] at e
  omega
theorem Inv.tuple (I:Inv X pins σ H s) (h:SqT X.K H a xs):∃its:List Value,Vals xs its∧IsTup s.heap a its.toArray∧xs.length≤sizeLine:=by
 rcases h with h|⟨o,its,n,hk,hc,hs,hz,r⟩
 ·obtain ⟨z,its,r,p⟩:=h.ok I.hok
  exact ⟨its,r,p,z⟩
 ·refine ⟨its.toList,r,⟨o,I.kIn a o hk,hc,n,by simpa using hs⟩,?_⟩
  have e:=r.length
  simp only [Array.length_toList] at e
  omega
theorem Inv.list_inj (I:Inv X pins σ H s) (h:SqL X.K H a xs) (h':SqL X.K H a ys):xs=ys:=by
 obtain ⟨its,r,⟨o,n,e,_,_,d⟩,_⟩:=I.list h
 obtain ⟨its',r',⟨o',n',e',_,_,d'⟩,_⟩:=I.list h'
 rw [e] at e';cases e'
 rw [d] at d'
 injection d' with d1 _
 have:its=its':=by simpa using congrArg Array.toList d1
 subst this
 exact r.inj r'
theorem Inv.tuple_inj (I:Inv X pins σ H s) (h:SqT X.K H a xs) (h':SqT X.K H a ys):xs=ys:=by
 obtain ⟨its,r,⟨o,e,_,n,d⟩,_⟩:=I.tuple h
 obtain ⟨its',r',⟨o',e',_,n',d'⟩,_⟩:=I.tuple h'
 rw [e] at e';cases e'
 rw [d] at d'
 injection d' with d1 _
 have:its=its':=by simpa using congrArg Array.toList d1
 subst this
 exact r.inj r'
end
abbrev Cx.wish (X:Cx) (E:Value→Shared→Prop):Cx:={ X with xe:=E }
abbrev Cx.nox (X:Cx):Cx:=X.wish fun _ _=>False
theorem Cx.Ok.wish {X:Cx} (ok:X.Ok) (E:Value→Shared→Prop):(X.wish E).Ok :=
 ⟨ok.mod,ok.kind,ok.glob,ok.blt,ok.above,ok.inj,ok.has,ok.cab,ok.hd,ok.frames,ok.stk,ok.exf,ok.bs,ok.bsz,ok.noex,ok.exfs,ok.funs,ok.frf⟩
theorem Cx.Ok.unwish {X:Cx} {E:Value→Shared→Prop} (ok:(X.wish E).Ok):X.Ok :=
 ⟨ok.mod,ok.kind,ok.glob,ok.blt,ok.above,ok.inj,ok.has,ok.cab,ok.hd,ok.frames,ok.stk,ok.exf,ok.bs,ok.bsz,ok.noex,ok.exfs,ok.funs,ok.frf⟩
section
variable {X:Cx} {pins:List (Addr×Obj)} {σ:St} {H:Hp} {s:Shared} {E:Value→Shared→Prop}
theorem Inv.wish (I:Inv X pins σ H s) (E:Value→Shared→Prop):Inv (X.wish E) pins σ H s:=⟨I.ok.wish E,I.os,I.bare,I.base,I.loc,I.cell,I.free,I.freeC,I.pin,I.hok,I.len⟩
theorem Inv.unwish (I:Inv (X.wish E) pins σ H s):Inv X pins σ H s:=⟨I.ok.unwish,I.os,I.bare,I.base,I.loc,I.cell,I.free,I.freeC,I.pin,I.hok,I.len⟩
theorem SP.unwish {D:Ends} {f:Flow} {s':Shared} (h:SP (X.wish E) pins D f s'):SP X pins D f s':=by
 cases f with
 | next=>obtain ⟨σ',H',I,q⟩:=h;exact ⟨σ',H',I.unwish,q⟩
 | brk=>obtain ⟨σ',H',I,q⟩:=h;exact ⟨σ',H',I.unwish,q⟩
 | cont=>obtain ⟨σ',H',I,q⟩:=h;exact ⟨σ',H',I.unwish,q⟩
 | ret u=>obtain ⟨v,σ',H',I,r,q⟩:=h;exact ⟨v,σ',H',I.unwish,r,q⟩
theorem PE.nox {e:Expr} {t:TE} (h:PE X.nox e t):PE X e t:=fun pins s σ H Q I hw =>
 wpAny_mono (h pins s σ H Q (I.wish _) hw) (fun _ _ ⟨v,H',I',r,q⟩=>⟨v,H',I'.unwish,r,q⟩) fun _ _ z=>False.elim z
theorem PT.nox {e:Expr} {t:TT} (h:PT X.nox e t):PT X e t:=fun pins s σ H Q I hw =>
 wpAny_mono (h pins s σ H Q (I.wish _) hw) (fun _ _ ⟨H',I',q⟩=>⟨H',I'.unwish,q⟩) fun _ _ z=>False.elim z
theorem PSs.nox {st:List Stmt} {t:TS} (h:PSs X.nox st t):PSs X st t:=fun pins s σ H D I hw =>
 wpAny_mono (h pins s σ H D (I.wish _) hw) (fun _ _ q=>q.unwish) fun _ _ z=>False.elim z
end
section
variable {X:Cx} {st:Stmt} {rest:List Stmt} {t u:TS} {e:Expr} {te:TE} {pos:Pos}
def tNext:TS:=fun D σ H=>D.nx σ H
def tSeq (t u:TS):TS:=fun D σ H=>t { D with nx:=u D } σ H
theorem zlv:PSs X [] tNext:=fun _ _ σ H _ I h=>wpAny_execs_nil ⟨σ,H,I,h⟩
theorem zjQ (h1:PS X st t) (h2:PSs X rest u):PSs X (st::rest) (tSeq t u):=by
 intro pins s σ H D I h
 refine wpAny_execs_cons (thn (h1 pins s σ H { D with nx:=u D } I h) fun f s1 q=>?_)
 cases f with
 | next =>
  obtain ⟨σ',H',I',q⟩:=q
  exact h2 pins s1 σ' H' D I' q
 | ret v=>exact q
 | brk=>exact q
 | cont=>exact q
theorem zgp (h1:PS X st t):PSs X [st] t:=by
 intro pins s σ H D I h
 refine wpAny_execs_cons (thn (h1 pins s σ H D I h) fun f s1 q=>?_)
 cases f with
 | next=>exact wpAny_execs_nil q
 | ret v=>exact q
 | brk=>exact q
 | cont=>exact q
theorem Inv.quiet {pins:List (Addr×Obj)} {σ:St} {H:Hp} {s:Shared} (I:Inv X pins σ H s):interactive X.env=false:=by simp [interactive,I.ok.kind]
def tDrop (te:TE):TS:=fun D σ H=>te σ H fun _ H1=>D.nx σ H1
theorem zlw (he:PE X e te) (hs:swapsWith e none pos.line X.env=pure false:=by rfl):PS X (.Expr e pos) (tDrop te):=by
 intro pins s σ H D I h
 exact wpAny_Expr_any (thn (he pins s σ H _ I h) fun v s1 ⟨x,H1,I1,r1,q1⟩=>⟨σ,H1,I1,q1⟩) I.quiet hs
def tRet (te:TE):TS:=fun D σ H=>te σ H D.rt
theorem znc (he:PE X e te):PS X (.Return (some e) pos) (tRet te):=by
 intro pins s σ H D I h
 exact wpAny_Return_some (thn (he pins s σ H _ I h) fun v s1 ⟨x,H1,I1,r1,q1⟩=>⟨x,σ,H1,I1,r1,q1⟩)
def tIfS (c:TT) (t u:TS):TS:=fun D σ H=>c σ H fun b H1=>if b=true then t D σ H1 else u D σ H1
theorem zoH {c:Expr} {a b:List Stmt} {tc:TT} (hc:PT X c tc) (ha:PSs X a t) (hb:PSs X b u):PS X (.If c a b pos) (tIfS tc t u):=by
 intro pins s σ H D I h
 refine wpAny_If (thn (hc pins s σ H _ I h) fun d s1 ⟨H1,I1,q1⟩=>?_)
 cases d with
 | true=>exact ha pins s1 σ H1 D I1 q1
 | false=>exact hb pins s1 σ H1 D I1 q1
def tNever:TS:=fun _ _ _=>False
theorem zh4 {sts:List Stmt}:PSs X sts tNever:=fun _ _ _ _ _ _ h=>h.elim
end
abbrev TG:=V→St→Hp→(St→Hp→Prop)→Prop
abbrev TGs:=List V→St→Hp→(St→Hp→Prop)→Prop
def PG (X:Cx) (target:Expr) (t:TG):Prop :=
 ∀(pins:List (Addr×Obj)) (s:Shared) (σ:St) (H:Hp) (v:V) (u:Value) (Q:St→Hp→Prop),Inv X pins σ H s→RelV v u→t v σ H Q →
  wpAny (model X.prog X.w) X.A (assign target X.env u) (fun _ s'=>∃σ' H',Inv X pins σ' H' s'∧Q σ' H') X.xe s
def PGs (X:Cx) (ts:List Expr) (t:TGs):Prop :=
 ∀(pins:List (Addr×Obj)) (s:Shared) (σ:St) (H:Hp) (vs:List V) (us:List Value) (Q:St→Hp→Prop),Inv X pins σ H s→Vals vs us→t vs σ H Q →
  wpAny (model X.prog X.w) X.A (assignInOrder ((assignEach ts X.env).map (·.2)) us) (fun _ s'=>∃σ' H',Inv X pins σ' H' s'∧Q σ' H') X.xe s
abbrev TIp:=V→V→Hp→VK→Prop
def PIp (X:Cx) (op:Operator) (t:TIp):Prop :=
 ∀(pins:List (Addr×Obj)) (s:Shared) (σ:St) (H:Hp) (x y:V) (v u:Value) (Q:VK),Inv X pins σ H s→RelV x v→RelV y u→t x y H Q →
  wpAny (model X.prog X.w) X.A (inplaceOp op v u) (EP X pins σ Q) X.xe s
section
variable {X:Cx} {pos:Pos}
def gName (i:Nat):TG:=fun v σ H Q=>Q (σ.set i (some v)) H
theorem zc3 {i:Nat} {x:Str} (hN:X.N.Nodup) (hi:X.N[i]?=some x) (hx:Loc X.env.scope x) (hf:X.fn x=true∨X.env.scope.names.lookup x=some .local:=by first|exact .inl rfl|exact .inr rfl|assumption):PG X (.Name x pos) (gName i):=by
 intro pins s σ H v u Q I r h
 exact wpAny_assign_Name (zdi I hN hi hx r (fun s' I'=>⟨_,H,I',h⟩) hf)
def gNil:TGs:=fun vs σ H Q=>vs=[]∧Q σ H
def gCons (t:TG) (u:TGs):TGs:=fun vs σ H Q=>∃v r,vs=v::r∧t v σ H fun σ' H'=>u r σ' H' Q
theorem zh5:PGs X [] gNil:=by
 intro pins s σ H vs us Q I r h
 obtain ⟨e,h⟩:=h
 subst e
 cases r
 exact assignInOrder_nil ⟨σ,H,I,h⟩
theorem zef {e:Expr} {es:List Expr} {t:TG} {u:TGs} (h1:PG X e t) (h2:PGs X es u)
  (hs:(assignEach (e::es) X.env).map (·.2)=assign e X.env::(assignEach es X.env).map (·.2):=by rfl):PGs X (e::es) (gCons t u):=by
 intro pins s σ H vs us Q I r h
 obtain ⟨v,vr,e1,h⟩:=h
 subst e1
 cases r with
 | cons r rr =>
  rw [hs]
  refine assignInOrder_cons (thn (h1 pins s σ H _ _ _ I r h) fun _ s1 ⟨σ1,H1,I1,q1⟩=>?_)
  exact h2 pins s1 σ1 H1 _ _ Q I1 rr q1
def gTup (K:PySem.W.Frag) (n:Nat) (t:TGs):TG:=fun v σ H Q=>∃a xs,v=.ref a∧SqT K H a xs∧xs.length=n∧t xs σ H Q
theorem znd {es:List Expr} {k:Nat} {t:TGs} {n:Nat} (hc:X.calm=true) (h:PGs X es t)
  (hn:(assignEach es X.env).length=n:=by rfl) (hst:(assignEach es X.env).findIdx? (·.1)=none:=by rfl):PG X (.Tuple es k pos) (gTup X.K n t):=by
 intro pins s σ H v u Q I r hw
 obtain ⟨a,xs,e1,hq,hl,hw⟩:=hw
 subst e1
 cases r
 obtain ⟨its,rv,ht,hz⟩:=I.tuple hq
 refine assign_Tuple_tuple (I.ok.hd hc) ht (by simp [hn,←hl,rv.length]) hst fun h' hx=>?_
 have I1:Inv X pins σ H { s with heap:=h' }:=I.kept (t':=s.toks) fun b o e=>hx b o (Nat.ne_of_lt (Heap.lt_size e)) e
 exact h pins _ σ H xs _ Q I1 (by simpa using rv) hw
def tAsg (te:TE) (g:TG):TS:=fun D σ H=>te σ H fun x H1=>g x σ H1 D.nx
theorem zkY {tg e:Expr} {te:TE} {g:TG} (he:PE X e te) (hg:PG X tg g) (hs:swapsWithSole [tg] e pos.line X.env=pure false:=by rfl) (hw:swappedStores [tg] e X.env=pure none:=by rfl)
  (h1:(assignEach [tg] X.env).map (·.2)=[assign tg X.env]:=by rfl):PS X (.Assign [tg] e pos) (tAsg te g):=by
 intro pins s σ H D I h
 refine wpAny_Assign_stores (thn (he pins s σ H _ I h) fun v s1 ⟨x,H1,I1,r1,q1⟩=>?_) hs hw
 rw [h1]
 exact thn (hg pins s1 σ H1 x v _ I1 r1 q1) fun _ s2 q=>q
theorem zne {i:Nat} {x:Str} {e:Expr} {te:TE} {pos':Pos} (hN:X.N.Nodup) (hi:X.N[i]?=some x) (hx:Loc X.env.scope x) (he:PE X e te) (hs:swapsWith e (some (.Name x pos')) pos.line X.env=pure false:=by rfl) (hf:X.fn x=true∨X.env.scope.names.lookup x=some .local:=by first|exact .inl rfl|exact .inr rfl|assumption) :
  PS X (.Assign [.Name x pos'] e pos) (tAsg te (gName i)):=by
 intro pins s σ H D I h
 refine wpAny_Assign_Name (thn (he pins s σ H _ I h) fun v s1 ⟨y,H1,I1,r1,q1⟩=>?_) hs
 exact zdi I1 hN hi hx r1 (fun s2 I2=>⟨_,H1,I2,q1⟩) hf
def tAug (i:Nat) (te:TE) (ti:TIp):TS:=fun D σ H=>∃x,σ[i]?=some (some x)∧te σ H fun y H1=>ti x y H1 fun z H2=>D.nx (σ.set i (some z)) H2
theorem znf {i:Nat} {x:Str} {e:Expr} {te:TE} {op:Operator} {ti:TIp} {pos':Pos} (hN:X.N.Nodup) (hi:X.N[i]?=some x) (hx:Loc X.env.scope x) (he:PE X e te) (ho:PIp X op ti) (hf:X.fn x=true∨X.env.scope.names.lookup x=some .local:=by first|exact .inl rfl|exact .inr rfl|assumption) :
  PS X (.AugAssign (.Name x pos') op e pos) (tAug i te ti):=by
 intro pins s σ H D I h
 obtain ⟨v,e1,h⟩:=h
 obtain ⟨m,hn,hl⟩:=I.loc
 have vis:Vis X.env.scope x:=by rcases hx with k|k;exact .inl k;exact .inr (.inl k)
 obtain ⟨u,r,l⟩:=hl i x v hi e1 vis
 refine wpAny_AugAssign_Name ?_
 have go:wpAny (model X.prog X.w) X.A (eval e X.env) (fun w s₂=>wpAny (model X.prog X.w) X.A (inplaceOp op u w) (fun r s₃=>wpAny (model X.prog X.w) X.A (storeName X.env x r) (fun _=>SP X pins D .next) X.xe s₃) X.xe s₂) X.xe s:=by
  refine thn (he pins s σ H _ I h) fun w s1 ⟨y,H1,I1,r1,q1⟩=>?_
  refine thn (ho pins s1 σ H1 v y u w _ I1 r r1 q1) fun z s2 ⟨zv,H2,I2,r2,q2⟩=>?_
  exact zdi I2 hN hi hx r2 (fun s3 I3=>⟨_,H2,I3,q2⟩) hf
 rcases l with ⟨hk,hm⟩|⟨hk,c,hc,hcell⟩
 ·exact wpAny_loadName_local I.ok.kind hk hn hm go
 ·rcases hk with hk|hk
  ·exact wpAny_loadName_cell I.ok.kind hk hc hcell go
  ·rcases hx with k|k
   ·have:X.env.scope.names.lookup x=some .free:=hk
    rw [k] at this;cases this
   ·have:X.env.scope.names.lookup x=some .free:=hk
    rw [k] at this;cases this
def ipI (f:Int→Int→Int):TIp:=fun x y H Q=>∃i j,x=.int i∧y=.int j∧Q (.int (f i j)) H
theorem zng:PIp X .Add (ipI fun i j=>i+j):=by
 intro pins s σ H x y v u Q I r1 r2 h
 obtain ⟨i,j,e1,e2,q⟩:=h
 subst e1;subst e2
 obtain ⟨t,rfl⟩:=r1
 obtain ⟨t',rfl⟩:=r2
 exact iadd_int ⟨.int _,H,I.tok _,⟨_,rfl⟩,q⟩
end
section
variable {X:Cx} {pos:Pos}
def tWhile (c:TT) (tb:TS):TS:=fun D σ H=>∃W:Nat→St→Hp→Prop,(∃m,W m σ H)∧∀m σ H,W m σ H →
 c σ H fun b H1=>if b=true then ∃N:St→Hp→Prop,(∀σ' H',N σ' H'→∃m',m'<m∧W m' σ' H')∧tb { D with nx:=N,ct:=N,bk:=D.nx } σ H1 else D.nx σ H1
theorem zjR {c:Expr} {body:List Stmt} {tc:TT} {tb:TS} (hp:PassesOwn (model X.prog X.w) X.A X.env X.xe) (hc:PT X c tc) (hb:PSs X body tb):PS X (.While c body [] pos) (tWhile tc tb):=by
 intro pins s σ H D I h
 obtain ⟨W,⟨m0,w0⟩,turn⟩:=h
 refine wpAny_While (codeAny_whileLoop (fun n s'=>∃σ' H',Inv X pins σ' H' s'∧W n σ' H') ?_ m0 ⟨σ,H,I,w0⟩)
 rintro n s1 ⟨σ1,H1,I1,w1⟩
 refine wpAny_passesOwn hp (thn (hc pins s1 σ1 H1 _ I1 (turn n σ1 H1 w1)) fun b s2 ⟨H2,I2,q2⟩=>?_)
 cases b with
 | true =>
  obtain ⟨N,hN,q2⟩:=q2
  rw [if_pos rfl]
  refine wpAny_passesOwn hp (thn (hb pins s2 σ1 H2 _ I2 q2) fun f s3 q3=>?_)
  cases f with
  | next =>
   obtain ⟨σ3,H3,I3,n3⟩:=q3
   obtain ⟨m',hm,w3⟩:=hN σ3 H3 n3
   exact ⟨m',hm,σ3,H3,I3,w3⟩
  | cont =>
   obtain ⟨σ3,H3,I3,n3⟩:=q3
   obtain ⟨m',hm,w3⟩:=hN σ3 H3 n3
   exact ⟨m',hm,σ3,H3,I3,w3⟩
  | brk=>exact q3
  | ret v=>exact q3
 | false =>
  rw [if_neg Bool.false_ne_true]
  exact wpAny_execs_nil ⟨σ1,H2,I2,q2⟩
end
structure It where
 go:Nat→Hp→Prop
 yld:Nat→Hp→V→Hp→Prop
 stop:Nat→Hp→Prop
def FpOk (X:Cx) (pins:List (Addr×Obj)) (H:Hp) (b:Addr):Prop :=
 H b=none∧b≠X.env.locals∧b∉X.fs∧(b∈X.ex∨X.s₀.heap.objs.size≤b)∧(∀x c,X.env.cells.lookup x=some c→c≠b)∧∀p∈X.pn++pins,p.1≠b
theorem Inv.fpOk {X:Cx} {pins:List (Addr×Obj)} {σ:St} {H H':Hp} {s:Shared} {b:Addr} (I:Inv X pins σ H s) (hb:s.heap.objs.size≤b) (hn:H' b=none):FpOk X pins H' b:=by
 refine ⟨hn,Nat.ne_of_gt (Nat.lt_of_lt_of_le I.lt hb),I.nofs hb,.inr (Nat.le_trans I.sz hb),fun x c e z=>?_,fun p hp z=>?_⟩
 ·obtain ⟨v,q⟩:=I.cell x c e
  exact absurd (Nat.lt_of_lt_of_le q.lt (by rw [z];exact hb)) (Nat.lt_irrefl _)
 ·exact absurd (Nat.lt_of_lt_of_le (Heap.lt_size (I.pin p hp).1) (by rw [z];exact hb)) (Nat.lt_irrefl _)
structure Turn (P:Program) (w:World) (K:PySem.W.Frag) (tg:Expr) (J:It) (fp:List Addr) (it:Addr) (tn:Nat→Heap→Prop):Prop where
 mem:it∈fp
 obj:∀i h,tn i h→∀b∈fp,∃o,h.get? b=some o∧∀v,o.data ≠ .cell v
 keep:∀i h h',tn i h→(∀b∈fp,∀o,h.get? b=some o→h'.get? b=some o)→tn i h'
 item:∀(X:Cx),X.prog=P→X.w=w→X.K=K→X.calm=true→∀(i:Nat) (pins:List (Addr×Obj)) (s:Shared) (σ:St) (H:Hp) (E:Value→Shared→Prop),Inv X pins σ H s→(∀b∈fp,FpOk X pins H b)→tn i s.heap→J.go i H →
  wpAny (model P w) X.A (pyNext (.ref it)) (fun r s1=>∃u,r=some u ∧
   wpAny (model P w) X.A (letOwnedTupleGo tg (.ref it) u) (fun _ s2=>∃x H',Inv X pins σ H' s2∧RelV x u∧J.yld i H x H'∧tn (i+1) s2.heap∧∀b∈fp,H' b=none) E s1) E s
 done:∀(X:Cx),X.prog=P→X.w=w→X.K=K→X.calm=true→∀(i:Nat) (pins:List (Addr×Obj)) (s:Shared) (σ:St) (H:Hp) (E:Value→Shared→Prop),Inv X pins σ H s→(∀b∈fp,FpOk X pins H b)→tn i s.heap→J.stop i H →
  wpAny (model P w) X.A (pyNext (.ref it)) (fun r s1=>r=none∧Inv X pins σ H s1) E s
 self:∀(A:Around) (i:Nat) (s:Shared) (Q:Value→Shared→Prop) (E:Value→Shared→Prop),tn i s.heap→Q (.ref it) s→wpAny (model P w) A (pyIter (.ref it)) Q E s
abbrev TI:=St→Hp→(It→Hp→Prop)→Prop
def PIE (X:Cx) (pins:List (Addr×Obj)) (σ:St) (tg:Expr) (R:It→Hp→Prop) (itv:Value) (s2:Shared):Prop :=
 ∃(it:Addr) (fp:List Addr) (tn:Nat→Heap→Prop) (J:It) (H':Hp),itv=.ref it∧Inv X pins σ H' s2∧Turn X.prog X.w X.K tg J fp it tn∧tn 0 s2.heap∧(∀b∈fp,FpOk X pins H' b)∧R J H'
def PI (X:Cx) (tg iter:Expr) (wi:TI):Prop :=
 ∀(pins:List (Addr×Obj)) (s:Shared) (σ:St) (H:Hp) (R:It→Hp→Prop),Inv X pins σ H s→wi σ H R →
  wpAny (model X.prog X.w) X.A (eval iter X.env) (fun v s1=>wpAny (model X.prog X.w) X.A (pyIter v) (PIE X pins σ tg R) X.xe s1) X.xe s
theorem zjS {M:Model} {A:Around} {E:Value→Shared→Prop} {s:Shared} {tg:Expr} {it:Addr} {u:Value} {o:Obj} {n:String} {vs:Array Value} {Q:Unit→Shared→Prop} (ho:s.heap.get? it=some o) (hc:o.cls=.type n) (hd:o.data=.fields vs)
  (hn:["enumerate", "zip", "dict_itemiterator", "dict_reverseitemiterator", "odict_iterator", "itertools.zip_longest", "itertools.pairwise"].contains n=false) (hQ:Q () s):wpAny M A (letOwnedTupleGo tg (.ref it) u) Q E s:=by
 unfold letOwnedTupleGo
 cases tg<;>first
  | exact wpAny_pure hQ
  | (cases u<;>first
    | exact wpAny_pure hQ
    | (refine wpAny_bind (wpAny_load ho ?_)
       rw [hc,hd]
       show wpAny M A (if (["enumerate", "zip", "dict_itemiterator", "dict_reverseitemiterator", "odict_iterator", "itertools.zip_longest", "itertools.pairwise"].contains n&&vs[0]?==some (rawInt _))=true then _ else _) Q E s
       rw [if_neg (by intro h;rw [hn,Bool.false_and] at h;cases h)]
       exact wpAny_pure hQ))
def Itl (K:PySem.W.Frag) (a:Addr):It :=
 ⟨fun i H=>∃xs x,SqL K H a xs∧xs[i]?=some x,fun i H x H'=>H'=H∧∀xs,SqL K H a xs→xs[i]?=some x,fun i H=>∃xs,SqL K H a xs∧xs.length≤i⟩
def Itt (K:PySem.W.Frag) (a:Addr):It :=
 ⟨fun i H=>∃xs x,SqT K H a xs∧xs[i]?=some x,fun i H x H'=>H'=H∧∀xs,SqT K H a xs→xs[i]?=some x,fun i H=>∃xs,SqT K H a xs∧xs.length≤i⟩
def Itr (lo:Int) (n:Nat):It:=⟨fun i _=>i<n,fun i H x H'=>H'=H∧x=.int (lo+i),fun i _=>n≤i⟩
theorem zh6 {P:Program} {w:World} {K:PySem.W.Frag} {tg:Expr} (a it:Addr):Turn P w K tg (Itl K a) [it] it (fun i h=>h.IsListIter it a i) where
 mem:=by simp
 obj:=fun i h st b hb=>by
  have e:b=it:=by simpa using hb
  subst e
  obtain ⟨o,e,c,d⟩:=st
  exact ⟨o,e,fun v z=>by rw [d] at z;cases z⟩
 keep:=fun i h h' st k=>st.at fun o e=>k it (by simp) o e
 item:=by
  intro X hP hw hK hc i pins s σ H E I hf st hg
  subst hP hw hK
  obtain ⟨xs,x,hq,hx⟩:=hg
  obtain ⟨its,rv,p,hz⟩:=I.list hq
  obtain ⟨u,hu,ru⟩:=rv.get hx
  obtain ⟨f0,f1,f2,f3,f4,f5⟩:=hf it (by simp)
  refine wpAny_pyNext_list_item st p.isList (x:=u) (by simpa using hu) fun h' st' sb=>?_
  have I1:Inv X pins σ H { s with heap:=h' }:=I.turned (t':=s.toks) (fun b o hb e=>(sb.2 b hb).trans e) f0 f1 f3 f4 f5
  obtain ⟨o,e,c,d⟩:=id st'
  exact ⟨u,rfl,zjS (s:={ s with heap:=h' }) e c d (by decide) ⟨x,H,I1,ru,⟨rfl,fun ys hy=>by rw [I.list_inj hy hq];exact hx⟩,st',fun b hb=>(hf b hb).1⟩⟩
 done:=by
  intro X hP hw hK hc i pins s σ H E I hf st hg
  subst hP hw hK
  obtain ⟨xs,hq,hx⟩:=hg
  obtain ⟨its,rv,p,hz⟩:=I.list hq
  obtain ⟨f0,f1,f2,f3,f4,f5⟩:=hf it (by simp)
  have hl:=rv.length
  exact wpAny_pyNext_list_end (I.ok.hd hc) st p.isList (by simp;omega) fun h' eb=>⟨rfl,I.turned (t':=s.toks) (fun b o hb e=>eb b o hb e) f0 f1 f3 f4 f5⟩
 self:=fun _ _ _ _ _ st h=>wpAny_pyIter_listiter st h
theorem zhA {P:Program} {w:World} {K:PySem.W.Frag} {tg:Expr} (a it:Addr):Turn P w K tg (Itt K a) [it] it (fun i h=>h.IsTupleIter it a i) where
 mem:=by simp
 obj:=fun i h st b hb=>by
  have e:b=it:=by simpa using hb
  subst e
  obtain ⟨o,e,c,d⟩:=st
  exact ⟨o,e,fun v z=>by rw [d] at z;cases z⟩
 keep:=fun i h h' st k=>st.at fun o e=>k it (by simp) o e
 item:=by
  intro X hP hw hK hc i pins s σ H E I hf st hg
  subst hP hw hK
  obtain ⟨xs,x,hq,hx⟩:=hg
  obtain ⟨its,rv,p,hz⟩:=I.tuple hq
  obtain ⟨u,hu,ru⟩:=rv.get hx
  obtain ⟨f0,f1,f2,f3,f4,f5⟩:=hf it (by simp)
  refine wpAny_pyNext_tuple_item st (show s.heap.IsTuple a its.toArray from p) (x:=u) (by simpa using hu) fun h' st' sb=>?_
  have I1:Inv X pins σ H { s with heap:=h' }:=I.turned (t':=s.toks) (fun b o hb e=>(sb.2 b hb).trans e) f0 f1 f3 f4 f5
  obtain ⟨o,e,c,d⟩:=id st'
  exact ⟨u,rfl,zjS (s:={ s with heap:=h' }) e c d (by decide) ⟨x,H,I1,ru,⟨rfl,fun ys hy=>by rw [I.tuple_inj hy hq];exact hx⟩,st',fun b hb=>(hf b hb).1⟩⟩
 done:=by
  intro X hP hw hK hc i pins s σ H E I hf st hg
  subst hP hw hK
  obtain ⟨xs,hq,hx⟩:=hg
  obtain ⟨its,rv,p,hz⟩:=I.tuple hq
  obtain ⟨f0,f1,f2,f3,f4,f5⟩:=hf it (by simp)
  have hl:=rv.length
  exact wpAny_pyNext_tuple_end (I.ok.hd hc) st (show s.heap.IsTuple a its.toArray from p) (by simp;omega) fun h' eb=>⟨rfl,I.turned (t':=s.toks) (fun b o hb e=>eb b o hb e) f0 f1 f3 f4 f5⟩
 self:=fun _ _ _ _ _ st h=>wpAny_pyIter_tupleiter st h
theorem zhB {P:Program} {w:World} {K:PySem.W.Frag} {tg:Expr} (it:Addr) (lo:Int) (n:Nat):Turn P w K tg (Itr lo n) [it] it (fun i h=>IsRangeIter h it (lo+(i:Nat)*1) ((n:Int)-(i:Nat)) 1) where
 mem:=by simp
 obj:=fun i h st b hb=>by
  have e:b=it:=by simpa using hb
  subst e
  exact ⟨_,st,fun v z=>by
   have z':Data.fields _=Data.cell v:=z
   cases z'⟩
 keep:=fun i h h' st k=>k it (by simp) _ st
 item:=by
  intro X hP hw hK hc i pins s σ H E I hf st hg
  subst hP hw hK
  obtain ⟨f0,f1,f2,f3,f4,f5⟩:=hf it (by simp)
  have W:=Walks.range (prog:=X.prog) (w:=X.w) (I.ok.hd hc) it lo 1 n
  refine W.item i s _ _ hg st fun v h' tk hv st' kk=>?_
  obtain ⟨t,rfl⟩:=hv
  have I1:Inv X pins σ H { s with heap:=h',toks:=tk }:=I.turned (fun b o hb e=>kk b o (by simpa using hb) e) f0 f1 f3 f4 f5
  refine ⟨_,rfl,zjS (s:={ s with heap:=h',toks:=tk }) (n := "range_iterator") st' rfl rfl (by decide) ⟨.int (lo+i),H,I1,⟨t,?_⟩,⟨rfl,rfl⟩,st',fun b hb=>(hf b hb).1⟩⟩
  rw [Int.mul_one]
 done:=by
  intro X hP hw hK hc i pins s σ H E I hf st hg
  subst hP hw hK
  obtain ⟨f0,f1,f2,f3,f4,f5⟩:=hf it (by simp)
  exact wpAny_pyNext_range_end (I.ok.hd hc) st (by have:n≤i:=hg;omega) fun h' eb=>⟨rfl,I.turned (t':=s.toks) (fun b o hb e=>eb b o hb e) f0 f1 f3 f4 f5⟩
 self:=fun _ _ _ _ _ st h=>wpAny_pyIter_rangeiter st h
end L2
namespace L2
open PySem PySem.Spec PyProof.Rows
section
variable {X:Cx} {tg:Expr}
theorem zjT {pins:List (Addr×Obj)} {σ:St} {H:Hp} {s:Shared} {R:It→Hp→Prop} {E:Value→Shared→Prop} {lo hi:Int} {t u v:Tok} {tk:Nat} (I:Inv X pins σ H s) (h1 : -(2 ^ 62)≤lo) (h2:lo<2 ^ 62) (h3 : -(2 ^ 62)≤hi) (h4:hi<2 ^ 62)
  (q:R (Itr lo (hi-lo).toNat) H):wpAny (model X.prog X.w) X.A (pyIter (.ref s.heap.objs.size)) (PIE X pins σ tg R) E { s with heap:=s.heap.push { cls:=.type "range", data:=.fields #[.int lo t,.int hi u,.int 1 v] },toks:=tk }:=by
 refine wpAny_pyIter_range (IsRange.new ..) (small_one h1 h2 h3 h4) ?_
 have I1:Inv X pins σ H { s with heap:=s.heap.push { cls:=.type "range", data:=.fields #[.int lo t,.int hi u,.int 1 v] },toks:=tk }:=I.kept fun b o e=>Heap.get?_push_of_some _ e
 refine ⟨(s.heap.push { cls:=.type "range", data:=.fields #[.int lo t,.int hi u,.int 1 v] }).objs.size,[(s.heap.push { cls:=.type "range", data:=.fields #[.int lo t,.int hi u,.int 1 v] }).objs.size],_,_,H,rfl,
  I1.kept (t':=tk) fun b o e=>Heap.get?_push_of_some _ e,zhB _ lo (hi-lo).toNat,?_,fun b hb=>?_,q⟩
 ·have e1:lo+((0:Nat):Int)*1=lo:=by simp
  have e2:(((hi-lo).toNat:Nat):Int)-((0:Nat):Int)=Builtin.Range.rangeSize lo hi 1:=by rw [rangeSize_one];split<;>omega
  show IsRangeIter _ _ (lo+((0:Nat):Int)*1) ((((hi-lo).toNat:Nat):Int)-((0:Nat):Int)) 1
  rw [e1,e2]
  exact Heap.get?_push_size _ rfl
 ·have e:b=(s.heap.push { cls:=.type "range", data:=.fields #[.int lo t,.int hi u,.int 1 v] }).objs.size:=by simpa using hb
  subst e
  exact I1.fpOk (Nat.le_refl _) (I1.hok.fresh (Nat.le_refl _))
def iRng1 (ta:TA):TI:=fun σ H R=>ta σ H fun vs H1=>∃j:Int,vs=[.int j] ∧ -(2 ^ 62)≤j∧j<2 ^ 62∧R (Itr 0 j.toNat) H1
def iRng2 (ta:TA):TI:=fun σ H R=>ta σ H fun vs H1=>∃i j:Int,vs=[.int i,.int j]∧(-(2 ^ 62)≤i∧i<2 ^ 62 ∧ -(2 ^ 62)≤j∧j<2 ^ 62)∧R (Itr i (j-i).toNat) H1
theorem zh7 {a:Expr} {ta:TA} {p pos:Pos} (hg:Gl X "range") (hm:X.mg "range" = none) (ha:PA X [a] ta) (hs:starEach [a] X.env=[(false,eval a X.env)]:=by rfl):PI X tg (.Call (.Name "range" p) [a] [] pos) (iRng1 ta):=by
 intro pins s σ H R I h
 refine Call_ (zcV I hg hm boot_range (PyProof.Rows.callWith_type1 (thn (ha pos pins s σ H _ I h) fun us s1 ⟨vs,H1,I1,r1,q1⟩=>?_) hs rfl))
 obtain ⟨j,e,q1,q2,q⟩:=q1
 subst e
 cases r1 with
 | cons r rr =>
  cases rr
  obtain ⟨t,rfl⟩:=r
  exact call_range_1 (zjT I1 (by omega) (by omega) q1 q2 (by simpa using q))
def tFor (wi:TI) (g:TG) (tb:TS):TS:=fun D σ H=>wi σ H fun J H1=>∃W:Nat→Nat→St→Hp→Prop,(∃m,W 0 m σ H1)∧∀i m σ H,W i m σ H →
 (J.stop i H∧D.nx σ H)∨(J.go i H∧∃N:St→Hp→Prop,(∀σ' H',N σ' H'→∃m',m'<m∧W (i+1) m' σ' H')∧∀x H',J.yld i H x H'→g x σ H' fun σ2 H2=>tb { D with nx:=N,ct:=N,bk:=D.nx } σ2 H2)
def pinsAt (fp:List Addr) (h:Heap):List (Addr×Obj):=fp.filterMap fun b=>(h.get? b).map fun o=>(b,o)
theorem zcQ {fp:List Addr} {h:Heap} {b:Addr} {o:Obj} (hb:b∈fp) (e:h.get? b=some o):(b,o)∈pinsAt fp h:=List.mem_filterMap.mpr ⟨b,hb,by rw [e];rfl⟩
theorem zh8 {fp:List Addr} {h:Heap} {p:Addr×Obj} (hp:p∈pinsAt fp h):p.1∈fp∧h.get? p.1=some p.2:=by
 obtain ⟨b,hb,e⟩:=List.mem_filterMap.mp hp
 cases q:h.get? b with
 | none=>rw [q] at e;cases e
 | some o =>
  rw [q] at e
  have e':(b,o)=p:=Option.some.inj e
  subst e'
  exact ⟨hb,q⟩
theorem Inv.pinned {pins:List (Addr×Obj)} {σ:St} {H:Hp} {s:Shared} {fp:List Addr} (I:Inv X pins σ H s) (hf:∀b∈fp,FpOk X pins H b) (ho:∀b∈fp,∃o,s.heap.get? b=some o∧∀v,o.data ≠ .cell v):Inv X (pins++pinsAt fp s.heap) σ H s :=
 I.pins_of fun p hp=>(List.mem_append.mp hp).elim (fun z=>I.pin p (List.mem_append_right _ z)) fun z=>by
  obtain ⟨hb,e⟩:=zh8 z
  obtain ⟨f0,f1,f2,_⟩:=hf p.1 hb
  obtain ⟨o,e',d⟩:=ho p.1 hb
  rw [e] at e';cases e'
  exact ⟨e,f0,f1,f2,d⟩
theorem Inv.unpinned {pins pl:List (Addr×Obj)} {σ:St} {H:Hp} {s:Shared} (I:Inv X (pins++pl) σ H s):Inv X pins σ H s:=I.pins_of fun p hp=>I.pin p (List.mem_append_right _ (List.mem_append_left _ hp))
theorem zh9 {iter:Expr} {body:List Stmt} {wi:TI} {g:TG} {tb:TS} {pos:Pos} (hp:PassesOwn (model X.prog X.w) X.A X.env X.xe) (hc:X.calm=true) (hi:PI X tg iter wi) (hg:PG X tg g) (hb:PSs X body tb)
  (hs:∀x,foldedSetIterable iter X.env x=pure x:=by intro _;rfl):PS X (.For tg iter body [] pos) (tFor wi g tb):=by
 intro pins s σ H D I h
 refine wpAny_For (thn (hi pins s σ H _ I h) fun v s1 h1=>thn h1 fun itv s2 h2=>?_) hs
 obtain ⟨it,fp,tn,J,H2,e,I2,T,st2,f2,W,⟨m0,w0⟩,turn⟩:=h2
 subst e
 have stat:∀{H':Hp},(∀b∈fp,H' b=none)→∀b∈fp,FpOk X pins H' b:=fun hn b hb=>⟨hn b hb,(f2 b hb).2⟩
 refine codeAny_forLoop_any (fun n s'=>∃i σ' H',Inv X pins σ' H' s'∧tn i s'.heap∧(∀b∈fp,H' b=none)∧W i n σ' H') ?_ m0 ⟨0,σ,H2,I2,st2,fun b hb=>(f2 b hb).1,w0⟩
 rintro n s3 ⟨i,σ3,H3,I3,st3,fr3,w3⟩
 rcases turn i n σ3 H3 w3 with ⟨stop,qn⟩|⟨go,N,hN,step⟩
 ·refine wpAny_passesOwn hp (thn (T.done X rfl rfl rfl hc i pins s3 σ3 H3 X.xe I3 (stat fr3) st3 stop) fun r s4 ⟨hr,I4⟩=>?_)
  subst hr
  exact wpAny_execs_nil ⟨σ3,H3,I4,qn⟩
 ·refine wpAny_passesOwn hp (thn (T.item X rfl rfl rfl hc i pins s3 σ3 H3 X.xe I3 (stat fr3) st3 go) fun r s4 ⟨u,hr,h4⟩=>?_)
  subst hr
  refine wpAny_passesOwn hp (thn h4 fun _ s5 ⟨x,H5,I5,r5,y5,st5,fr5⟩=>?_)
  have I5':=I5.pinned (stat fr5) (T.obj _ _ st5)
  refine wpAny_passesOwn hp (thn (hg _ s5 σ3 H5 x u _ I5' r5 (step x H5 y5)) fun _ s6 ⟨σ6,H6,I6,q6⟩=>?_)
  refine wpAny_passesOwn hp (thn (hb _ s6 σ6 H6 _ I6 q6) fun f s7 q7=>?_)
  have again:∀{σ7:St} {H7:Hp},Inv X (pins++pinsAt fp s5.heap) σ7 H7 s7→N σ7 H7→∃m,m<n∧∃i σ' H',Inv X pins σ' H' s7∧tn i s7.heap∧(∀b∈fp,H' b=none)∧W i m σ' H':=fun {σ7 H7} I7 n7=>by
   obtain ⟨m',hm,w7⟩:=hN σ7 H7 n7
   refine ⟨m',hm,i+1,σ7,H7,I7.unpinned,T.keep _ _ _ st5 fun b hb o e=>(I7.pin (b,o) (List.mem_append_right _ (List.mem_append_right _ (zcQ hb e)))).1,fun b hb=>?_,w7⟩
   obtain ⟨o,e,d⟩:=T.obj _ _ st5 b hb
   exact (I7.pin (b,o) (List.mem_append_right _ (List.mem_append_right _ (zcQ hb e)))).2.1
  cases f with
  | next=>obtain ⟨σ7,H7,I7,n7⟩:=q7;exact again I7 n7
  | cont=>obtain ⟨σ7,H7,I7,n7⟩:=q7;exact again I7 n7
  | brk=>obtain ⟨σ7,H7,I7,q7⟩:=q7;exact ⟨σ7,H7,I7.unpinned,q7⟩
  | ret v=>obtain ⟨x7,σ7,H7,I7,r7,q7⟩:=q7;exact ⟨x7,σ7,H7,I7.unpinned,r7,q7⟩
end
end L2
namespace L2
open PySem PySem.Spec PyProof.Rows
abbrev R2:=V→V→Hp→VK→Prop
def OpR (X:Cx) (f:Value→Value→Sem Value) (r:R2):Prop :=
 ∀(pins:List (Addr×Obj)) (s:Shared) (σ:St) (H:Hp) (x y:V) (v u:Value) (Q:VK),Inv X pins σ H s→RelV x v→RelV y u→r x y H Q →
  wpAny (model X.prog X.w) X.A (f v u) (EP X pins σ Q) X.xe s
def UnR (X:Cx) (f:Value→Sem Value) (r:V→Hp→VK→Prop):Prop :=
 ∀(pins:List (Addr×Obj)) (s:Shared) (σ:St) (H:Hp) (x:V) (v:Value) (Q:VK),Inv X pins σ H s→RelV x v→r x H Q →
  wpAny (model X.prog X.w) X.A (f v) (EP X pins σ Q) X.xe s
def CallR (X:Cx) (f:Value) (r:List V→Hp→VK→Prop):Prop :=
 ∀(pins:List (Addr×Obj)) (s:Shared) (σ:St) (H:Hp) (xs:List V) (us:List Value) (Q:VK),Inv X pins σ H s→Vals xs us→r xs H Q →
  wpAny (model X.prog X.w) X.A (call f us) (EP X pins σ Q) X.xe s
def tOp (r:R2) (ta tb:TE):TE:=fun σ H Q=>ta σ H fun x H1=>tb σ H1 fun y H2=>r x y H2 Q
def tUn (r:V→Hp→VK→Prop) (ta:TE):TE:=fun σ H Q=>ta σ H fun x H1=>r x H1 Q
def rI (C:Int→Int→Prop) (g:Int→Int→V):R2:=fun x y H Q=>∃i j,x=.int i∧y=.int j∧C i j∧Q (g i j) H
def rI0 (g:Int→Int→V):R2:=fun x y H Q=>∃i j,x=.int i∧y=.int j∧Q (g i j) H
def rU (g:Int→V):V→Hp→VK→Prop:=fun x H Q=>∃i,x=.int i∧Q (g i) H
section
variable {X:Cx} {a b c:Expr} {ta tb tc:TE} {pos:Pos}
theorem binT (ha:PE X a ta) (hb:PE X b tb) {pins:List (Addr×Obj)} {s:Shared} {σ:St} {H:Hp} {R:V→V→Hp→Prop} (I:Inv X pins σ H s)
  (h:ta σ H fun x H1=>tb σ H1 fun y H2=>R x y H2) {Q:Value→Shared→Prop} {f:Value→Value→Sem Value}
  (hf:∀v u s2 x y H2,Inv X pins σ H2 s2→RelV x v→RelV y u→R x y H2→wpAny (model X.prog X.w) X.A (f v u) Q X.xe s2) :
  wpAny (model X.prog X.w) X.A (eval a X.env) (fun v s₁=>wpAny (model X.prog X.w) X.A (eval b X.env) (fun u s₂=>wpAny (model X.prog X.w) X.A (f v u) Q X.xe s₂) X.xe s₁) X.xe s:=by
 refine thn (ha pins s σ H _ I h) fun v s1 ⟨x,H1,I1,r1,q1⟩=>?_
 refine thn (hb pins s1 σ H1 _ I1 q1) fun u s2 ⟨y,H2,I2,r2,q2⟩=>?_
 exact hf v u s2 x y H2 I2 r1 r2 q2
theorem zoI {op:Operator} {r:R2} (ho:OpR X (binaryOp op) r) (ha:PE X a ta) (hb:PE X b tb):PE X (.BinOp a op b pos) (tOp r ta tb):=by
 intro pins s σ H Q I h
 exact wpAny_BinOp (binT ha hb I h fun v u s2 x y H2 I2 rx ry q=>ho pins s2 σ H2 x y v u Q I2 rx ry q)
theorem zoJ {op:UnaryOp} {r:V→Hp→VK→Prop} (ho:UnR X (unaryOp op) r) (ha:PE X a ta):PE X (.UnaryOp op a pos) (tUn r ta):=by
 intro pins s σ H Q I h
 exact UnaryOp_ (thn (ha pins s σ H _ I h) fun v s1 ⟨x,H1,I1,r1,q1⟩=>ho pins s1 σ H1 x v Q I1 r1 q1)
theorem opI {f:Value→Value→Sem Value} {C:Int→Int→Prop} {g:Int→Int→Int}
  (rule:∀(i j:Int) (t u:Tok) (s:Shared) (Q:Value→Shared→Prop) (E:Value→Shared→Prop),C i j→Q (.int (g i j) s.toks) { s with toks:=s.toks+1 }→wpAny (model X.prog X.w) X.A (f (.int i t) (.int j u)) Q E s) :
  OpR X f (rI C fun i j=>.int (g i j)):=by
 intro pins s σ H x y v u Q I rx ry h
 obtain ⟨i,j,rfl,rfl,hc,q⟩:=h
 obtain ⟨t,rfl⟩:=rx
 obtain ⟨t',rfl⟩:=ry
 exact rule i j t t' s _ _ hc ⟨.int (g i j),H,I.tok _,⟨_,rfl⟩,q⟩
theorem zpB {f:Value→Value→Sem Value} {g:Int→Int→Int}
  (rule:∀(i j:Int) (t u:Tok) (s:Shared) (Q:Value→Shared→Prop) (E:Value→Shared→Prop),Q (.int (g i j) s.toks) { s with toks:=s.toks+1 }→wpAny (model X.prog X.w) X.A (f (.int i t) (.int j u)) Q E s) :
  OpR X f (rI0 fun i j=>.int (g i j)):=by
 intro pins s σ H x y v u Q I rx ry h
 obtain ⟨i,j,rfl,rfl,q⟩:=h
 obtain ⟨t,rfl⟩:=rx
 obtain ⟨t',rfl⟩:=ry
 exact rule i j t t' s _ _ ⟨.int (g i j),H,I.tok _,⟨_,rfl⟩,q⟩
theorem zoK {f:Value→Value→Sem Value} {g:Int→Int→Bool}
  (rule:∀(i j:Int) (t u:Tok) (s:Shared) (Q:Value→Shared→Prop) (E:Value→Shared→Prop),Q (.bool (g i j)) s→wpAny (model X.prog X.w) X.A (f (.int i t) (.int j u)) Q E s) :
  OpR X f (rI0 fun i j=>.bl (g i j)):=by
 intro pins s σ H x y v u Q I rx ry h
 obtain ⟨i,j,rfl,rfl,q⟩:=h
 obtain ⟨t,rfl⟩:=rx
 obtain ⟨t',rfl⟩:=ry
 exact rule i j t t' s _ _ ⟨.bl (g i j),H,I,rfl,q⟩
def CPow (i j:Int):Prop:=0≤j∧j≤1000000∧i.natAbs<2 ^ 64
def CMul (i j:Int):Prop:=(-(2 ^ 64)<i∧i<2 ^ 64)∨(-(2 ^ 64)<j∧j<2 ^ 64)
theorem CMul.ok {i j:Int} (h:CMul i j):IntMulOk i j:=by
 rcases h with ⟨h1,h2⟩|⟨h1,h2⟩
 ·exact .of_left (intBits_le_64 h1 h2)
 ·exact .of_right (intBits_le_64 h1 h2)
theorem znh:OpR X (binaryOp .Add) (rI0 fun i j=>.int (i+j)):=zpB fun _ _ _ _ _ _ _ q=>add_int q
theorem zni:OpR X (binaryOp .Sub) (rI0 fun i j=>.int (i-j)):=zpB fun _ _ _ _ _ _ _ q=>sub_int q
theorem znj:OpR X (binaryOp .Mult) (rI CMul fun i j=>.int (i*j)):=opI fun _ _ _ _ _ _ _ hc q=>mul_int q hc.ok
theorem zlx:OpR X (binaryOp .Mod) (rI (fun _ j=>j≠0) fun i j=>.int (i.fmod j)):=opI fun _ _ _ _ _ _ _ hc q=>mod_int' hc q
theorem znk:OpR X (binaryOp .Pow) (rI CPow fun i j=>.int (i ^ j.toNat)):=opI fun _ _ _ _ _ _ _ hc q=>pow_int_small hc.1 hc.2.1 hc.2.2 q
theorem unI {f:Value→Sem Value} {g:Int→Int}
  (rule:∀(i:Int) (t:Tok) (s:Shared) (Q:Value→Shared→Prop) (E:Value→Shared→Prop),Q (.int (g i) s.toks) { s with toks:=s.toks+1 }→wpAny (model X.prog X.w) X.A (f (.int i t)) Q E s) :
  UnR X f (rU fun i=>.int (g i)):=by
 intro pins s σ H x v Q I rx h
 obtain ⟨i,rfl,q⟩:=h
 obtain ⟨t,rfl⟩:=rx
 exact rule i t s _ _ ⟨.int (g i),H,I.tok _,⟨_,rfl⟩,q⟩
theorem znl:UnR X (unaryOp .USub) (rU fun i=>.int (-i)):=unI fun _ _ _ _ _ q=>neg_int q
end
section
variable {X:Cx} {a b c:Expr} {ta tb tc:TE} {pos:Pos}
theorem znm {pins:List (Addr×Obj)} {σ:St} {H:Hp} {s:Shared} {Q:VK} {k k':Bool} (I:Inv X pins σ H s) (q:Q (.bl k) H) (e:k=k'):EP X pins σ Q (.bool k') s:=by
 subst e
 exact ⟨.bl k,H,I,rfl,q⟩
theorem zoL:OpR X (compareOp .Lt) (rI0 fun i j=>.bl (decide (i<j))):=zoK fun _ _ _ _ _ _ _ q=>lt_int q
theorem zoM:OpR X (compareOp .LtE) (rI0 fun i j=>.bl (decide (i≤j))):=zoK fun _ _ _ _ _ _ _ q=>le_int q
theorem zoN:OpR X (compareOp .Gt) (rI0 fun i j=>.bl (decide (j<i))):=zoK fun _ _ _ _ _ _ _ q=>gt_int q
theorem znn:OpR X (compareOp .Is) (fun x y H Q=>y=.non∧Q (.bl (decide (x=.non))) H):=by
 intro pins s σ H x y v u Q I rx ry h
 obtain ⟨rfl,q⟩:=h
 cases ry
 refine is_none_gen (znm I q ?_)
 cases x<;>first
  | (cases rx;rfl)
  | (obtain ⟨t,rfl⟩:=rx;rfl)
theorem OpR.or {f:Value→Value→Sem Value} {r r':R2} (h:OpR X f r) (h':OpR X f r'):OpR X f (fun x y H Q=>r x y H Q∨r' x y H Q):=by
 intro pins s σ H x y v u Q I rx ry q
 rcases q with q|q
 ·exact h pins s σ H x y v u Q I rx ry q
 ·exact h' pins s σ H x y v u Q I rx ry q
theorem nomark (b:Expr) {op:CmpOp} (h:op ≠ .In:=by decide) (h2:op ≠ .NotIn:=by decide):behindInMarks op b=false:=by
 have e1:(op==CmpOp.In)=false:=by cases op<;>first|rfl|exact absurd rfl h
 have e2:(op==CmpOp.NotIn)=false:=by cases op<;>first|rfl|exact absurd rfl h2
 cases b<;>simp [behindInMarks,e1,e2]
theorem zly {op:CmpOp} {r:R2} (ho:OpR X (compareOp op) r) (ha:PE X a ta) (hb:PE X b tb) (hm:behindInMarks op b=false):PE X (.Compare a [op] [b] pos) (tOp r ta tb):=by
 intro pins s σ H Q I h
 exact wpAny_Compare1 (binT ha hb I h fun v u s2 x y H2 I2 rx ry q=>ho pins s2 σ H2 x y v u Q I2 rx ry q) hm
def tTest (t:TE):TT:=fun σ H Q=>t σ H fun x H'=>∃k,x=.bl k∧Q k H'
theorem zia {op:CmpOp} {r:R2} (ho:OpR X (compareOp op) r) (ha:PE X a ta) (hb:PE X b tb) (hm:behindInMarks op b=false):PT X (.Compare a [op] [b] pos) (tTest (tOp r ta tb)):=by
 intro pins s σ H Q I h
 refine wpAny_isTrue_Compare1 (thn (ha pins s σ H _ I h) fun v s1 ⟨x,H1,I1,r1,q1⟩=>thn (hb pins s1 σ H1 _ I1 q1) fun u s2 ⟨y,H2,I2,r2,q2⟩ =>
  thn (ho pins s2 σ H2 x y v u _ I2 r1 r2 q2) fun c s3 ⟨z,H3,I3,r3,k,e,q3⟩=>?_) hm
 subst e
 cases r3
 exact wpAny_truthy_bool ⟨H3,I3,q3⟩
def tChain (r r':R2) (ta tb tc:TE):TE:=fun σ H Q=>ta σ H fun x H1=>tb σ H1 fun y H2=>r x y H2 fun z H3=>∃k,z=.bl k ∧
 (if k=true then tc σ H3 fun w' H4=>r' y w' H4 Q else Q (.bl false) H3)
theorem zjU {op op':CmpOp} {r r':R2} (ho:OpR X (compareOp op) r) (ho':OpR X (compareOp op') r') (ha:PE X a ta) (hb:PE X b tb) (hc:PE X c tc)
  (hm:lastMarks [op,op'] [b,c]=false:=by with_unfolding_all rfl):PE X (.Compare a [op,op'] [b,c] pos) (tChain r r' ta tb tc):=by
 intro pins s σ H Q I h
 refine Compare_chain (thn (ha pins s σ H _ I h) fun v s1 ⟨x,H1,I1,r1,q1⟩=>chain_link (thn (hb pins s1 σ H1 _ I1 q1) fun u s2 ⟨y,H2,I2,r2,q2⟩ =>
  thn (ho pins s2 σ H2 x y v u _ I2 r1 r2 q2) fun d s3 ⟨z,H3,I3,r3,k,e,q3⟩=>?_)) hm
 subst e
 cases r3
 refine wpAny_truthy_bool ?_
 cases k with
 | false=>exact ite_ff ⟨.bl false,H3,I3,rfl,q3⟩
 | true=>exact ite_tt (chain_last (thn (hc pins s3 σ H3 _ I3 q3) fun w' s4 ⟨z',H4,I4,r4,q4⟩=>ho' pins s4 σ H4 y z' u w' Q I4 r2 r4 q4))
theorem zgQ:(sizeLine:Nat)<2 ^ 63:=by rw [sizeLine_eq];decide
theorem zhC:OpR X (binaryOp .Add) (fun x y H Q=>∃i j,x=.str i∧y=.str j∧i.length+j.length≤sizeLine∧Q (.str (i++j)) H):=by
 intro pins s σ H x y v u Q I rx ry h
 obtain ⟨i,j,rfl,rfl,hz,q⟩:=h
 obtain ⟨t,rfl⟩:=rx
 obtain ⟨t',rfl⟩:=ry
 exact add_str (fun t' tk=>⟨.str (i++j),H,I.tok _,⟨_,rfl⟩,q⟩) hz
theorem zgq {x:V} {us:List Value} (r:Vals [x] us):∃u,us=[u]∧RelV x u:=by
 cases r with
 | cons r1 r2=>cases r2;exact ⟨_,rfl,r1⟩
theorem zib {x y:V} {us:List Value} (r:Vals [x,y] us):∃u w',us=[u,w']∧RelV x u∧RelV y w':=by
 cases r with
 | cons r1 r2 =>
  cases r2 with
  | cons r3 r4=>cases r4;exact ⟨_,_,rfl,r1,r3⟩
theorem zjV:CallR X (.builtin "abs") (fun xs H Q=>∃i,xs=[.int i]∧Q (.int (if i<0 then -i else i)) H):=by
 intro pins s σ H xs us Q I r h
 obtain ⟨i,rfl,q⟩:=h
 obtain ⟨u,rfl,t,rfl⟩:=zgq r
 exact call_abs_int fun u tk=>⟨.int (if i<0 then -i else i),H,I.tok _,⟨_,rfl⟩,q⟩
theorem zic (hc:X.calm=true):CallR X (.builtin "min") (fun xs H Q=>∃i j,xs=[.int i,.int j]∧Q (.int (if j<i then j else i)) H):=by
 intro pins s σ H xs us Q I r h
 obtain ⟨i,j,rfl,q⟩:=h
 obtain ⟨u,w',rfl,⟨t,rfl⟩,⟨t',rfl⟩⟩:=zib r
 refine min_two_ints (I.ok.hd hc) fun h' tk k=>⟨_,H,I.kept k,?_,q⟩
 by_cases hj:j<i
 ·rw [if_pos hj,if_pos hj];exact ⟨_,rfl⟩
 ·rw [if_neg hj,if_neg hj];exact ⟨_,rfl⟩
theorem zid:CallR X (.type "int") (fun xs H Q=>(∃i,xs=[.int i]∧Q (.int i) H)∨∃k,xs=[.bl k]∧Q (.int (if k then 1 else 0)) H):=by
 intro pins s σ H xs us Q I r h
 rcases h with ⟨i,rfl,q⟩|⟨k,rfl,q⟩
 ·obtain ⟨u,rfl,t,rfl⟩:=zgq r
  exact call_int_int ⟨.int i,H,I,⟨_,rfl⟩,q⟩
 ·obtain ⟨u,rfl,r1⟩:=zgq r
  cases r1
  exact call_int_bool ⟨.int (if k then 1 else 0),H,I.tok _,⟨_,rfl⟩,q⟩
def LenV (K:PySem.W.Frag) (x:V) (H:Hp) (n:Nat):Prop :=
 match x with
 | .str y=>y.length≤sizeLine∧n=y.length
 | .byt y=>y.size≤sizeLine∧n=y.size
 | .ref p=>(∃xs,SqL K H p xs∧n=xs.length)∨∃xs,SqT K H p xs∧n=xs.length
 | _=>False
theorem zjW:CallR X (.builtin "len") (fun xs H Q=>∃x n,xs=[x]∧LenV X.K x H n∧Q (.int n) H):=by
 intro pins s σ H xs us Q I r h
 obtain ⟨x,n,rfl,e,q⟩:=h
 obtain ⟨u,rfl,rx⟩:=zgq r
 have hl:=zgQ
 have hs:sizeLine=16777216:=sizeLine_eq
 cases x with
 | str y =>
  obtain ⟨t,rfl⟩:=rx
  obtain ⟨hy,e'⟩:y.length≤sizeLine∧n=y.length:=e
  subst e'
  exact len_str (by omega) ⟨.int _,H,I.tok _,⟨_,rfl⟩,q⟩
 | byt y =>
  obtain ⟨t,rfl⟩:=rx
  obtain ⟨hy,e'⟩:y.size≤sizeLine∧n=y.size:=e
  subst e'
  exact PySem.W.len_bytes (by omega) ⟨.int _,H,I.tok _,⟨_,rfl⟩,q⟩
 | ref p =>
  cases rx
  have e':(∃xs,SqL X.K H p xs∧n=xs.length)∨∃xs,SqT X.K H p xs∧n=xs.length:=e
  rcases e' with ⟨xs,hx,e'⟩|⟨xs,hx,e'⟩
  ·subst e'
   obtain ⟨its,r',pl,hz⟩:=I.list hx
   have hlen:=r'.length
   exact Calls.call_len_list pl.isList (by simp only [List.size_toArray];omega) ⟨.int xs.length,H,I.tok _,⟨_,by simp only [List.size_toArray];rw [hlen]⟩,q⟩
  ·subst e'
   obtain ⟨its,r',pl,hz⟩:=I.tuple hx
   have hlen:=r'.length
   exact len_tuple pl (by simp only [List.size_toArray];omega) ⟨.int xs.length,H,I.tok _,⟨_,by simp only [List.size_toArray];rw [hlen]⟩,q⟩
 | _=>exact (show False from e).elim
end
end L2
namespace L2
open PySem PySem.Spec PyProof.Rows
structure ObjM (h:Heap) (x dx C:Addr) (mA:Str→Option Value):Prop where
 obj:h.get? x=some (PySem.W.instObj C dx)
 ns:h.Ns1 dx mA
 ne:dx≠x
theorem zfy {h:Heap} {dx:Addr} {mA:Str→Option Value} (n:h.Ns1 dx mA):∃od,h.get? dx=some od∧∀name,PySem.W.lookIn name od=some (mA name):=by
 obtain ⟨o,es,ep,ho,hd,hk,_,hm⟩:=n
 refine ⟨o,ho,fun name=>?_⟩
 have e:=hm name
 unfold nsFind findBy at e
 rw [←Array.find?_toList] at e
 unfold PySem.W.lookIn
 rw [hd]
 dsimp only
 split
 ·rename_i y q
  rw [q] at e
  exact congrArg some e
 ·rename_i q
  rw [q] at e
  have a:es.toList.any (·.refKey)=false:=by
   rw [List.any_eq_false]
   intro y hy
   obtain ⟨z,t,hkey⟩:=hk y (Array.mem_toList_iff.mp hy)
   simp [DictEntry.refKey,hkey]
  have a':¬es.toList.any (·.refKey)=true:=by rw [a];exact Bool.false_ne_true
  rw [if_neg a']
  exact congrArg some e
theorem ObjM.look {h:Heap} {x dx C:Addr} {mA:Str→Option Value} (I:ObjM h x dx C mA):∃od,PySem.W.InstAt h x (PySem.W.instObj C dx) C (some od)∧∀name,PySem.W.lookIn name od=some (mA name) :=
 let ⟨od,ho,hl⟩:=zfy I.ns
 ⟨od,⟨I.obj,rfl,rfl,ho⟩,hl⟩
section
variable {prog:Program} {w:World} {A:Around} {E:Value→Shared→Prop} {s:Shared} {K:PySem.W.Frag} {x dx C f:Addr} {mA:Str→Option Value} {name:Str} {v:Value}
theorem zlz {expr:Bool} {Q:Value→Shared→Prop} (X:K.In s.heap) (I:ObjM s.heap x dx C mA) (hg:PySem.W.plainGet K C name=true) (hh:PySem.W.hasDictIn K C=true)
  (ha:PySem.W.findIn K (.ref C) name=some none) (hv:mA name=some v) (hv':PySem.W.handedIn v=true) (h:Q v { s with toks:=s.toks+1 }) :
  wpAny (model prog w) A (getAttr (.ref x) name expr) Q E s:=by
 obtain ⟨od,J,hl⟩:=I.look
 exact PySem.W.get_value X J (PySem.W.plainGet_of hg).1 (PySem.W.findObj_own hh ha rfl (by rw [hl,hv])) hv' h
theorem zjX {pl:Sem Bool} {Q:Value×List Value→Shared→Prop} (X:K.In s.heap) (I:ObjM s.heap x dx C mA) (hg:PySem.W.plainGet K C name=true)
  (hf:PySem.W.findIn K (.ref C) name=some (some (.ref f))) (ht:PySem.W.isFn K (.ref f)=true) (hv:mA name=none) (h:Q (.ref f,[.ref x]) s) :
  wpAny (model prog w) A (getMethod (.ref x) name pl) Q E s:=by
 obtain ⟨od,J,hl⟩:=I.look
 exact PySem.W.method_fn X J (PySem.W.plainGet_of hg).1 (PySem.W.plainGet_of hg).2 hf (beq_iff_eq.mp ht) (by show (PySem.W.lookIn name od).map (·.isSome)=some false;rw [hl,hv];rfl) h
theorem zlA {ns:List Str} {Q:Unit→Shared→Prop} (X:K.In s.heap) (I:ObjM s.heap x dx C mA)
  (hs:PySem.W.findIn K (.ref C) "__setattr__" = some (some (.builtin "object.__setattr__"))) (hp:PySem.W.plainOver K C=true) (ht:PySem.W.takerIn K C name=some none) (hh:PySem.W.hasDictIn K C=true)
  (hw:PySem.Within mA ns) (hsz:ns.length≤sizeLine)
  (h:∀h',ObjM h' x dx C (fun y=>if y=name then some v else mA y)→Heap.SameBut dx s.heap h'→Q () { s with heap:=h',toks:=s.toks+2 }) :
  wpAny (model prog w) A (setAttr (.ref x) name v) Q E s:=by
 obtain ⟨od,J,hl⟩:=I.look
 refine PySem.W.set_plain X J hs (PySem.W.osa_open (s:={ s with toks:=s.toks+1 }) (r:=none) X J hp ht fun b=>?_)
 obtain ⟨cd,hc,hd'⟩:=PySem.W.any_some hh
 have hx:s.heap.get? x=some ⟨.ref C,some dx,.plain,#[]⟩:=I.obj
 refine wpAny_bind (wpAny_pure (wpAny_bind (wpAny_bind (wpAny_loadPart hx (wpAny_bind (PySem.W.Looks.here (s:={ s with toks:=s.toks+1 }) (PySem.W.looks_clsIn X hc) ?_))))))
 rw [hd']
 refine wpAny_pure (a:=some dx) (wpAny_bind (wpAny_pure (wpAny_bind ?_)))
 refine wpAny_nsSet1 (s:={ s with toks:=s.toks+1 }) I.ns fun h' hn2 hs2=>?_
 obtain ⟨oD,esD,epD,hoD,hdD,hcD⟩:=hn2.count (PySem.Within.cons name v hw)
 refine wpAny_bind (wpAny_lookBehind hoD (by rw [hdD];exact pastItsLine_dict (Nat.le_trans hcD (by rw [List.length_cons];omega))) ?_)
 exact wpAny_pure (h _ ⟨(hs2.2 _ (Ne.symm I.ne)).trans I.obj,hn2,I.ne⟩ hs2)
theorem zjY {R:Result→Shared→Prop} {vs:List Value} {kw:List (Str×Value)} (X:K.In s.heap) (hm:PySem.W.makesIn K C=true)
  (hi:PySem.W.findIn K (.ref C) "__init__" = some (some (.ref f))) (hf:PySem.W.typeIn K (.ref f)=some (.type "function"))
  (h:codeAny (model prog w) (A.under (.builtin "type.__call__" ⟨.ref C::vs,kw⟩)) (.call (.ref f) ⟨.ref (s.heap.objs.size+1)::vs,kw⟩) (PySem.W.InitBack (s.heap.objs.size+1) R)
   { s with heap:=(s.heap.push PySem.W.emptyDict).push (PySem.W.instObj C s.heap.objs.size) }) :
  codeAny (model prog w) A (.call (.ref C) ⟨vs,kw⟩) R s:=by
 obtain ⟨hh,g,d,t,os⟩:=s
 exact PySem.W.make_core (PySem.W.makes_of X hm) (PySem.W.looks_findIn X hi) (fun self=>PySem.W.bind_fn X self hf) (.inl rfl) h
end
def putF (f:Str) (v:V):List (Str×V)→List (Str×V)
 | []=>[(f,v)]
 | (g,x)::r=>if g=f then (g,v)::r else (g,x)::putF f v r
theorem zem (f g:Str) (v:V):∀fs:List (Str×V),(putF f v fs).lookup g=if g=f then some v else fs.lookup g
 | []=>by
  show List.lookup g [(f,v)]=_
  by_cases h:g=f
  ·have hb:(g==f)=true:=beq_iff_eq.mpr h
   simp only [List.lookup,hb,if_pos h]
  ·have hb:(g==f)=false:=beq_eq_false_iff_ne.mpr h
   simp only [List.lookup,hb,if_neg h]
 | (k,x)::r=>by
  have ih:=zem f g v r
  rw [show putF f v ((k,x)::r)=(if k=f then (k,v)::r else (k,x)::putF f v r) from rfl]
  by_cases hk:k=f
  ·rw [if_pos hk]
   by_cases h:g=k
   ·have hb:(g==k)=true:=beq_iff_eq.mpr h
    simp only [List.lookup,hb,if_pos (h.trans hk)]
   ·have hb:(g==k)=false:=beq_eq_false_iff_ne.mpr h
    simp only [List.lookup,hb,if_neg (fun e:g=f=>h (e.trans hk.symm))]
  ·rw [if_neg hk]
   by_cases h:g=k
   ·have hb:(g==k)=true:=beq_iff_eq.mpr h
    simp only [List.lookup,hb,if_neg (fun e:g=f=>hk (h.symm.trans e))]
   ·have hb:(g==k)=false:=beq_eq_false_iff_ne.mpr h
    simp only [List.lookup,hb]
    exact ih
theorem zen (f:Str) (v:V):∀fs:List (Str×V),f∈(putF f v fs).map (·.1)∧∀g,g∈fs.map (·.1)→g∈(putF f v fs).map (·.1)
 | []=>⟨by simp [putF],fun g h=>by simp at h⟩
 | (k,x)::r=>by
  obtain ⟨i1,i2⟩:=zen f v r
  rw [show putF f v ((k,x)::r)=(if k=f then (k,v)::r else (k,x)::putF f v r) from rfl]
  by_cases hk:k=f
  ·rw [if_pos hk]
   subst hk
   exact ⟨by simp,fun g h=>by simpa using h⟩
  ·rw [if_neg hk]
   refine ⟨?_,fun g h=>?_⟩
   ·rw [List.map_cons]
    exact List.mem_cons_of_mem _ i1
   ·rw [List.map_cons] at h ⊢
    rcases List.mem_cons.mp h with e|e
    ·exact List.mem_cons.mpr (.inl e)
    ·exact List.mem_cons_of_mem _ (i2 g e)
theorem zeo (f:Str) (v:V):∀fs:List (Str×V),(putF f v fs).length≤fs.length+1
 | []=>by simp [putF]
 | (k,x)::r=>by
  have ih:=zeo f v r
  rw [show putF f v ((k,x)::r)=(if k=f then (k,v)::r else (k,x)::putF f v r) from rfl]
  by_cases hk:k=f
  ·rw [if_pos hk,List.length_cons,List.length_cons];omega
  ·rw [if_neg hk,List.length_cons,List.length_cons];omega
theorem RelO.some_of {v:V} {o:Option Value} (r:RelO (some v) o):∃u,o=some u∧RelV v u:=by
 cases o with
 | none=>exact (show False from r).elim
 | some u=>exact ⟨u,rfl,r⟩
theorem RelO.none_of {o:Option Value} (r:RelO none o):o=none:=by
 cases o with
 | none=>rfl
 | some u=>exact (show False from r).elim
theorem zfz {v:V} {u:Value} (r:RelV v u):PySem.W.handedIn u=true:=by
 cases v with
 | non=>cases (show u=Value.none from r);rfl
 | bl b=>cases (show u=Value.bool b from r);rfl
 | int i=>obtain ⟨t,e⟩:=(show ∃t,u=Value.int i t from r);cases e;rfl
 | str x=>obtain ⟨t,e⟩:=(show ∃t,u=Value.str x t from r);cases e;rfl
 | byt b=>obtain ⟨t,e⟩:=(show ∃t,u=Value.bytes b t from r);cases e;rfl
 | flt b=>obtain ⟨t,e⟩:=(show ∃t,u=Value.float b t from r);cases e;rfl
 | ref a=>cases (show u=Value.ref a from r);rfl
 | ty n=>cases (show u=Value.type n from r);rfl
section
variable {P:Program} {w:World} {H H':Hp} {h h':Heap} {a C dx:Addr} {fs fs':List (Str×V)}
theorem ze7 (hok:HOk P w H h) (e:H a=some (.ins C dx fs)):∃mA,ObjM h a dx C mA∧(∀f,RelO (fs.lookup f) (mA f))∧PySem.Within mA (fs.map (·.1))∧fs.length≤1000∧H dx=some (.own a):=by
 obtain ⟨d,z,ne,ob,mA,n,r,q⟩:=(show ObjOk P w H h a (.ins C dx fs) from hok a _ e)
 exact ⟨mA,⟨ob,n,ne⟩,r,q,z,d⟩
end
structure Cls (K:PySem.W.Frag) (C:Addr):Prop where
 pg:PySem.W.plainGet K C Str.empty=true
 hd:PySem.W.hasDictIn K C=true
 po:PySem.W.plainOver K C=true
 sa:PySem.W.findIn K (.ref C) "__setattr__" = some (some (.builtin "object.__setattr__"))
theorem Cls.get {K:PySem.W.Frag} {C:Addr} (c:Cls K C) (f:Str):PySem.W.plainGet K C f=true:=c.pg
def NoAttr (K:PySem.W.Frag) (C:Addr) (f:Str):Prop:=PySem.W.findIn K (.ref C) f=some none
theorem NoAttr.taker {K:PySem.W.Frag} {C:Addr} {f:Str} (n:NoAttr K C f):PySem.W.takerIn K C f=some none:=by
 unfold PySem.W.takerIn
 rw [show PySem.W.findIn K (.ref C) f=some none from n]
 rfl
structure Con (K:PySem.W.Frag) (C:Addr) (f:Str) (v:V) (u:Value):Prop where
 at_:PySem.W.findIn K (.ref C) f=some (some u)
 rel:RelV v u
 get:PySem.W.specialIn K u "__get__" = some none
 cp:PySem.W.copiedNames.contains f=false
structure Meth (K:PySem.W.Frag) (C:Addr) (m:Str) (f:Addr):Prop where
 at_:PySem.W.findIn K (.ref C) m=some (some (.ref f))
 fn:PySem.W.isFn K (.ref f)=true
 kp:PySem.W.keepIn K (.ref f)=true
section
variable {X:Cx} {pins:List (Addr×Obj)} {σ:St} {H:Hp} {s:Shared} {a C dx:Addr} {fs:List (Str×V)} {f:Str} {v:V} {A:Around} {E:Value→Shared→Prop}
theorem zeR {b:Bool} {Q:Value→Shared→Prop} (I:Inv X pins σ H s) (e:H a=some (.ins C dx fs)) (c:Cls X.K C) (n:NoAttr X.K C f) (l:fs.lookup f=some v)
  (h:∀u s',Inv X pins σ H s'→RelV v u→Q u s'):wpAny (model X.prog X.w) A (getAttr (.ref a) f b) Q E s:=by
 obtain ⟨mA,O,r,_,_,_⟩:=ze7 I.hok e
 obtain ⟨u,hu,ru⟩:=RelO.some_of (v:=v) (o:=mA f) (by rw [←l];exact r f)
 exact zlz I.kIn O (c.get f) c.hd n hu (zfz ru) (h u _ (I.tok _) ru)
theorem zdI {m:Str} {g:Addr} {pl:Sem Bool} {Q:Value×List Value→Shared→Prop} (I:Inv X pins σ H s) (e:H a=some (.ins C dx fs)) (c:Cls X.K C) (k:Meth X.K C m g) (l:fs.lookup m=none)
  (h:Q (.ref g,[.ref a]) s):wpAny (model X.prog X.w) A (getMethod (.ref a) m pl) Q E s:=by
 obtain ⟨mA,O,r,_,_,_⟩:=ze7 I.hok e
 have hn:mA m=none:=RelO.none_of (by rw [←l];exact r m)
 exact zjX I.kIn O (c.get m) k.at_ k.fn hn h
theorem zeS {y:V} {u:Value} {Q:Unit→Shared→Prop} (I:Inv X pins σ H s) (e:H a=some (.ins C dx fs)) (c:Cls X.K C) (n:NoAttr X.K C f) (hl:fs.length<1000) (ry:RelV y u)
  (h:∀s',Inv X pins σ (upd H a (.ins C dx (putF f y fs))) s'→Q () s'):wpAny (model X.prog X.w) A (setAttr (.ref a) f u) Q E s:=by
 obtain ⟨mA,O,r,wi,_,ho⟩:=ze7 I.hok e
 have hz:(fs.map (·.1)).length≤sizeLine:=by rw [List.length_map,sizeLine_eq];omega
 refine zlA I.kIn O c.sa c.po n.taker c.hd wi hz fun h' O' sb=>h _ ?_
 have hd:∃o,h'.get? dx=some o:=let ⟨o,_,_,e',_⟩:=O'.ns;⟨o,e'⟩
 refine I.write (x:=a) (e:=dx) (by rw [e];exact True.intro) (.inr ho) (fun b q hb z=>(sb.2 b hb).trans z) hd ?_
 refine ⟨by rw [zu O.ne];exact ho,?_,O.ne,O'.obj,_,O'.ns,fun g=>?_,fun g hg=>?_⟩
 ·have:=zeo f y fs;omega
 ·show RelO ((putF f y fs).lookup g) (if g=f then some u else mA g)
  rw [zem]
  by_cases q:g=f
  ·rw [if_pos q,if_pos q];exact ry
  ·rw [if_neg q,if_neg q];exact r g
 ·by_cases q:g=f
  ·rw [q];exact (zen f y fs).1
  ·refine (zen f y fs).2 g (wi g fun z=>hg ?_)
   show (if g=f then some u else mA g)=none
   rw [if_neg q];exact z
theorem Inv.made (I:Inv X pins σ H s):Inv X pins σ (upd (upd H s.heap.objs.size (.own (s.heap.objs.size+1))) (s.heap.objs.size+1) (.ins C s.heap.objs.size []))
  { s with heap:=(s.heap.push PySem.W.emptyDict).push (PySem.W.instObj C s.heap.objs.size) }:=by
 have e1:(s.heap.push PySem.W.emptyDict).get? s.heap.objs.size=some PySem.W.emptyDict:=Heap.get?_push_size s.heap rfl
 have e2:((s.heap.push PySem.W.emptyDict).push (PySem.W.instObj C s.heap.objs.size)).get? (s.heap.objs.size+1)=some (PySem.W.instObj C s.heap.objs.size):=by
  have:=Heap.get?_push_size (s.heap.push PySem.W.emptyDict) (o:=PySem.W.instObj C s.heap.objs.size) rfl
  rwa [Heap.size_push] at this
 have e3:(s.heap.push PySem.W.emptyDict).Ns s.heap.objs.size (fun _=>none):=⟨PySem.W.emptyDict,#[],_,e1,rfl,(fun e he=>absurd he (by simp)),fun _=>rfl⟩
 have I1:=I.laid (a:=s.heap.objs.size) (o:=.own (s.heap.objs.size+1)) (h':=s.heap.push PySem.W.emptyDict) (t':=s.toks) (fun b u q=>Heap.get?_push_of_some _ q) (Nat.le_refl _) ⟨_,e1⟩
 refine I1.laid (a:=s.heap.objs.size+1) (o:=.ins C s.heap.objs.size []) (t':=s.toks) (fun b u q=>Heap.get?_push_of_some _ q) (Nat.le_of_eq (Heap.size_push _ _)) ?_
 have ne:s.heap.objs.size≠s.heap.objs.size+1:=Nat.ne_of_lt (Nat.lt_succ_self _)
 refine ⟨by rw [zu ne,zx],Nat.zero_le _,ne,e2,fun _=>none,(Heap.Ns1.of_empty e3).at fun o q=>Heap.get?_push_of_some _ q,fun _=>True.intro,fun y hy=>absurd rfl hy⟩
theorem zlB {prog:Program} {w:World} {env:Env} {e:Expr} {f:Str} {pos:Pos} {s:Shared} {Q:Value→Shared→Prop} (hb:attributeBase e f env (eval e env)=eval e env)
  (h:wpAny (model prog w) A (eval e env) (fun o s₁=>wpAny (model prog w) A (getAttr o f true) Q E s₁) E s):wpAny (model prog w) A (eval (.Attribute e f pos) env) Q E s :=
 Attribute_any_ h (by rw [arm_eval_Attribute,hb])
end
def sFld (K:PySem.W.Frag) (ta tv:TE) (f:Str):TS:=fun D σ H=>tv σ H fun y H1=>ta σ H1 fun x H2=>∃a C dx fs,x=.ref a∧H2 a=some (.ins C dx fs)∧Cls K C∧NoAttr K C f∧fs.length<1000 ∧
 D.nx σ (upd H2 a (.ins C dx (putF f y fs)))
def InOp (X:Cx) (op:Operator) (rd:V→V→Hp→VK→Prop):Prop :=
 ∀(pins:List (Addr×Obj)) (s:Shared) (σ:St) (H:Hp) (x y:V) (u v:Value) (Q:VK),Inv X pins σ H s→RelV x u→RelV y v→rd x y H Q→wpAny (model X.prog X.w) X.A (inplaceOp op u v) (EP X pins σ Q) X.xe s
def sFldAug (K:PySem.W.Frag) (ta tv:TE) (rd:V→V→Hp→VK→Prop) (f:Str):TS:=fun D σ H=>ta σ H fun x H1=>∃a C dx fs v,x=.ref a∧H1 a=some (.ins C dx fs)∧Cls K C∧NoAttr K C f∧fs.lookup f=some v ∧
 tv σ H1 fun y H2=>rd v y H2 fun z H3=>∃dx' fs',H3 a=some (.ins C dx' fs')∧fs'.length<1000∧D.nx σ (upd H3 a (.ins C dx' (putF f z fs')))
section
variable {X:Cx} {o e value:Expr} {f:Str} {pos pos' tpos:Pos} {ta tv:TE}
theorem zno (ha:PE X o ta) (hv:PE X value tv) (hs:swapsWith value (some (.Attribute o f pos')) pos.line X.env=pure false):PS X (.Assign [.Attribute o f pos'] value pos) (sFld X.K ta tv f):=by
 intro pins s σ H D I h
 refine plainObj_wpAny_Assign_Attribute (thn (hv pins s σ H _ I h) fun u s1 ⟨y,H1,I1,ry,q⟩=>thn (ha pins s1 σ H1 _ I1 q) fun ov s2 ⟨x,H2,I2,rx,a,C,dx,fs,ex,ea,c,n,l,q2⟩=>?_) hs
 subst ex
 obtain rfl:ov=Value.ref a:=rx
 exact zeS I2 ea c n l ry fun s3 I3=>⟨σ,_,I3,q2⟩
theorem zie {op:Operator} {rd:V→V→Hp→VK→Prop} (ha:PE X o ta) (hv:PE X value tv) (hop:InOp X op rd):PS X (.AugAssign (.Attribute o f tpos) op value pos) (sFldAug X.K ta tv rd f):=by
 intro pins s σ H D I h
 refine wpAny_AugAssign_AttributeAny (thn (ha pins s σ H _ I h) fun ov s1 ⟨x,H1,I1,rx,a,C,dx,fs,v,ex,ea,c,n,l,q⟩=>?_)
 subst ex
 obtain rfl:ov=Value.ref a:=rx
 refine zeR I1 ea c n l fun u s2 I2 ru=>thn (hv pins s2 σ H1 _ I2 q) fun w3 s3 ⟨y,H2,I3,ry,q3⟩=>thn (hop pins s3 σ H2 v y u w3 _ I3 ru ry q3) fun w4 s4 ⟨z,H3,I4,rz,dx',fs',ea',l',q4⟩=>?_
 exact zeS I4 ea' c n l' rz fun s5 I5=>⟨σ,_,I5,q4⟩
def rAdd:V→V→Hp→VK→Prop:=fun x y H Q=>∃i j,x=.int i∧y=.int j∧Q (.int (i+j)) H
theorem znp:InOp X .Add rAdd:=by
 rintro pins s σ H x y u v Q I rx ry ⟨i,j,rfl,rfl,q⟩
 obtain ⟨t,rfl⟩:=(show ∃t,u=Value.int i t from rx)
 obtain ⟨t',rfl⟩:=(show ∃t',v=Value.int j t' from ry)
 exact PyProof.Rows.iadd_int ⟨.int (i+j),H,I.tok _,⟨_,rfl⟩,q⟩
end
section
variable {X:Cx} {pins:List (Addr×Obj)} {σ:St} {H:Hp} {s:Shared} {A:Around} {E:Value→Shared→Prop} {Q:Value→Shared→Prop} {c:Value} {b:Bool}
inductive TyOf (K:PySem.W.Frag) (H:Hp):V→Value→Prop where
 | non:TyOf K H .non (.type "NoneType")
 | bl (x:Bool):TyOf K H (.bl x) (.type "bool")
 | int (i:Int):TyOf K H (.int i) (.type "int")
 | str (x:Str):TyOf K H (.str x) (.type "str")
 | flt (x:UInt64):TyOf K H (.flt x) (.type "float")
 | lst {a:Addr} {xs:List V} (e:H a=some (.lst xs)):TyOf K H (.ref a) (.type "list")
 | frz {a:Addr} {o:Obj} {xs:List V} (e:H a=some (.frz o (.lst xs))):TyOf K H (.ref a) (.type "list")
 | tup {a:Addr} {xs:List V} (e:H a=some (.tup xs)):TyOf K H (.ref a) (.type "tuple")
 | dK {a:Addr} {kvs:List (Key×V)} (e:H a=some (.dK kvs)):TyOf K H (.ref a) (.type "dict")
 | dT {a:Addr} {kvs:List (List Key×V)} (e:H a=some (.dT kvs)):TyOf K H (.ref a) (.type "dict")
 | ins {a C dx:Addr} {fs:List (Str×V)} (e:H a=some (.ins C dx fs)) (cl:Cls K C) (ha:PySem.W.findIn K (.ref C) "__class__" = some (some (.builtin "object.__class__")))
   (hn:PySem.W.specialIn K (.builtin "object.__class__") "__get__" = some (some (.builtin "getset_descriptor.__get__"))) (htk:PySem.W.takesIn K (.builtin "object.__class__")=some true)
   (hm:PySem.W.mroIn K C (.type "object")=some true):TyOf K H (.ref a) (.ref C)
theorem zif {x:V} {u t:Value} (I:Inv X pins σ H s) (rx:RelV x u) (ty:TyOf X.K H x t) (e:PySem.W.kitOne X.K t c=some b) (h:∀tk,Q (.bool b) { s with toks:=tk }) :
  wpAny (model X.prog X.w) A (call (.builtin "isinstance") [u,c]) Q E s:=by
 cases ty with
 | non=>cases (show u=Value.none from rx);exact PySem.W.kia_one PySem.W.kitx_none I.kIn True.intro e (fun z=>nomatch z) h
 | bl y=>cases (show u=Value.bool y from rx);exact PySem.W.kia_one PySem.W.kitx_bool I.kIn True.intro e (fun z=>nomatch z) h
 | int i=>obtain ⟨t,q⟩:=(show ∃t,u=Value.int i t from rx);cases q;exact PySem.W.kia_one PySem.W.kitx_int I.kIn True.intro e (fun z=>nomatch z) h
 | str y=>obtain ⟨t,q⟩:=(show ∃t,u=Value.str y t from rx);cases q;exact PySem.W.kia_one PySem.W.kitx_str I.kIn True.intro e (fun z=>nomatch z) h
 | flt y=>obtain ⟨t,q⟩:=(show ∃t,u=Value.float y t from rx);cases q;exact PySem.W.kia_one PySem.W.kitx_float I.kIn True.intro e (fun z=>nomatch z) h
 | @lst a xs ea =>
  cases (show u=Value.ref a from rx)
  obtain ⟨_,_,n,_,h1⟩:=(show ObjOk X.prog X.w H s.heap a (.lst xs) from I.hok a _ ea)
  exact PySem.W.kia_one PySem.W.kitx_list I.kIn ⟨_,h1,rfl⟩ e (fun z=>nomatch z) h
 | @frz a ob xs ea =>
  cases (show u=Value.ref a from rx)
  obtain ⟨_,_,_,n,_,h1⟩:=(show ObjOk X.prog X.w H s.heap a (.frz ob (.lst xs)) from I.hok a _ ea)
  exact PySem.W.kia_one PySem.W.kitx_list I.kIn ⟨_,h1,rfl⟩ e (fun z=>nomatch z) h
 | @tup a xs ea =>
  cases (show u=Value.ref a from rx)
  obtain ⟨_,_,_,p⟩:=(show ObjOk X.prog X.w H s.heap a (.tup xs) from I.hok a _ ea)
  obtain ⟨o,h1,h2,_⟩:=p
  exact PySem.W.kia_one PySem.W.kitx_tuple I.kIn ⟨o,h1,h2⟩ e (fun z=>nomatch z) h
 | @dK a kvs ea =>
  cases (show u=Value.ref a from rx)
  obtain ⟨_,_,vs,_,p⟩:=(show ObjOk X.prog X.w H s.heap a (.dK kvs) from I.hok a _ ea)
  obtain ⟨o,es,ep,h1,h2,_⟩:=p
  exact PySem.W.kia_one PySem.W.kitx_dict I.kIn ⟨o,h1,h2.1⟩ e (fun z=>nomatch z) h
 | @dT a kvs ea =>
  cases (show u=Value.ref a from rx)
  obtain ⟨_,_,xs,_,o,es,ep,h1,h2,_⟩:=(show ObjOk X.prog X.w H s.heap a (.dT kvs) from I.hok a _ ea)
  exact PySem.W.kia_one PySem.W.kitx_dict I.kIn ⟨o,h1,h2.1⟩ e (fun z=>nomatch z) h
 | @ins a C dx fs ea cl ha hn htk hm =>
  cases (show u=Value.ref a from rx)
  obtain ⟨mA,O,_⟩:=ze7 I.hok ea
  obtain ⟨od,J,_⟩:=O.look
  exact PySem.W.kia_one (PySem.W.kitx_own (cl.get _) cl.hd ha hn htk hm) I.kIn J e (fun z=>nomatch z) h
end
end L2
namespace L2
open PySem PySem.Spec PyProof.Rows
structure Room (k:Nat) (A:Around):Prop where
 hd:A.handled=none
 dp:A.depth+3*k+5<recursionLimit
 un:A.units+16*k+200<cLine
theorem Room.mono {j k:Nat} {A:Around} (r:Room k A) (h:j≤k):Room j A:=⟨r.hd,by have:=r.dp;omega,by have:=r.un;omega⟩
theorem Room.deeper {k:Nat} {A:Around} (r:Room (k+1) A) (env:Env):Room k (A.deeper env) :=
 ⟨r.hd,by have:=r.dp;show A.depth+1+3*k+5<_;omega,by have:=r.un;show A.units+3+16*k+200<_;omega⟩
theorem zhD {A:Around} {C:Addr} {us:List Value} {kw:List (Str×Value)}:(A.under (.builtin "type.__call__" ⟨.ref C::us,kw⟩)).depth=A.depth+1:=by
 first|rfl|simp [Around.under,Code.weight,Code.isCreation,Code.isGuard,Code.isCaller,Code.frames,Code.isFrame,guardIds]
theorem zhE {A:Around} {C:Addr} {us:List Value} {kw:List (Str×Value)}:(A.under (.builtin "type.__call__" ⟨.ref C::us,kw⟩)).units=A.units+1:=by
 first|rfl|simp [Around.under,Code.cUnits,Code.frames,Code.isFrame]
theorem Room.make {k:Nat} {A:Around} (r:Room (k+1) A) (C:Addr) (us:List Value) (kw:List (Str×Value)):Room k (A.under (.builtin "type.__call__" ⟨.ref C::us,kw⟩)) :=
 ⟨r.hd,by have:=r.dp;rw [zhD];omega,by have:=r.un;rw [zhE];omega⟩
theorem Room.depth {k:Nat} {A:Around} (r:Room k A):A.depth<recursionLimit:=by have:=r.dp;omega
def tNil:TA:=fun _ H Q=>Q [] H
def tCons (ta:TE) (tr:TA):TA:=fun σ H Q=>ta σ H fun x H1=>tr σ H1 fun xs H2=>Q (x::xs) H2
section
variable {X:Cx} {e:Expr} {es:List Expr} {te:TE} {t:TA} {pos:Pos}
theorem zig:PA X [] tNil:=fun _ _ _ _ H Q I h=>Calls.spliced_nil ⟨[],H,I,.nil,h⟩
theorem zgr (ha:PE X e te) (hr:PA X es t) (hs:starEach (e::es) X.env=(false,eval e X.env)::starEach es X.env:=by rfl):PA X (e::es) (tCons te t):=by
 intro pos pins s σ H Q I h
 rw [hs]
 show wpAny _ _ (spliced ((false,eval e X.env)::backTo pos (starEach es X.env))) _ _ s
 refine Calls.spliced_cons (thn (ha pins s σ H _ I h) fun u s1 ⟨x,H1,I1,r1,q1⟩=>?_)
 exact thn (hr pos pins s1 σ H1 _ I1 q1) fun us s2 ⟨xs,H2,I2,r2,q2⟩=>⟨x::xs,H2,I2,.cons r1 r2,q2⟩
def tTup (t:TA):TE:=fun σ H Q=>t σ H fun xs H1=>xs.length≤sizeLine∧∀p,H1 p=none→Q (.ref p) (upd H1 p (.tup xs))
def tLst (t:TA):TE:=fun σ H Q=>t σ H fun xs H1=>xs.length≤sizeLine∧∀p,H1 p=none→Q (.ref p) (upd H1 p (.lst xs))
theorem znq {x1} (h:PA X es t):PE X (.Tuple es x1 pos) (tTup t):=by
 intro pins s σ H Q I hq
 refine wpAny_Tuple_spliced (thn (h pos pins s σ H _ I hq) fun us s1 ⟨xs,H1,I1,r,z,q⟩=>⟨by rw [←r.length];exact z,?_⟩)
 have hf:H1 s1.heap.objs.size=none:=I1.hok.fresh (Nat.le_refl _)
 refine ⟨.ref s1.heap.objs.size,upd H1 s1.heap.objs.size (.tup xs),I1.laid (t':=s1.toks) (fun b u e=>Heap.get?_push_of_some _ e) (Nat.le_refl _) ?_,rfl,q _ hf⟩
 exact ⟨z,us,r,⟨_,Heap.get?_push_size _ rfl,rfl,_,rfl⟩⟩
theorem znr (h:PA X es t):PE X (.List es pos) (tLst t):=by
 intro pins s σ H Q I hq
 refine wpAny_List_spliced (thn (h pos pins s σ H _ I hq) fun us s1 ⟨xs,H1,I1,r,z,q⟩=>⟨by rw [←r.length];exact z,?_⟩)
 have hf:H1 s1.heap.objs.size=none:=I1.hok.fresh (Nat.le_refl _)
 refine ⟨.ref s1.heap.objs.size,upd H1 s1.heap.objs.size (.lst xs),I1.laid (t':=s1.toks) (fun b u e=>Heap.get?_push_of_some _ e) (Nat.le_refl _) ?_,rfl,q _ hf⟩
 exact ⟨z,us,0,r,Heap.get?_push_size _ rfl⟩
end
abbrev Sp:=List V→Hp→VK→XK→Prop
abbrev CXT:=List Env→Hp→Shared→XK→Value→Shared→Prop
structure Env0 (P:Program) (w:World) (K:PySem.W.Frag) (mg:Str→Option Value) (base:Heap) (A:Around) (outer:List Env) (s:Shared) (H:Hp):Prop where
 frames:A.frames=some outer
 mod:Mod K mg base
 bs:∀b o,base.get? b=some o→s.heap.get? b=some o∧H b=none
 bsz:base.objs.size≤s.heap.objs.size
 funs:s.heap.FunFrames base outer
 frf:∀b∈frs outer,H b=none
 hok:HOk P w H s.heap
 bare:AllBare s.gens
def CE (outer:List Env) (P:Program) (w:World) (H:Hp) (s:Shared) (Q:VK) (u:Value) (s':Shared):Prop :=
 ∃v H',s'.os=s.os∧AllBare s'.gens∧Un (frs outer) [] H H' s.heap s'.heap∧HOk P w H' s'.heap∧RelV v u∧Q v H'
def CR (CX:CXT) (outer:List Env) (P:Program) (w:World) (H:Hp) (s:Shared) (Q:VK) (E:XK) (r:Result) (s':Shared):Prop :=
 match r with
 | .ok (.ret u)=>CE outer P w H s Q u s'
 | .ok _=>False
 | .error e=>CX outer H s E e s'
structure FnOk (P:Program) (w:World) (K:PySem.W.Frag) (mg:Str→Option Value) (base:Heap) (CX:CXT) (k:Nat) (f:Addr) (fd:FuncData) (ps:List Str) (sp:Sp):Prop where
 len:∀vs H Q E,sp vs H Q E→vs.length=ps.length
 run:∀(A:Around) (outer:List Env) (s:Shared) (H:Hp) (args:Args) (us:List Value) (vs:List V) (Q:VK) (E:XK),Room k A→Env0 P w K mg base A outer s H→BindsTo s fd args (ps.zip us)→Vals vs us→sp vs H Q E →
  codeAny (model P w) A (.call (.ref f) args) (CR CX outer P w H s Q E) s
theorem FnOk.mono {P:Program} {w:World} {K:PySem.W.Frag} {mg:Str→Option Value} {base:Heap} {CX:CXT} {j k:Nat} {f:Addr} {fd:FuncData} {ps:List Str} {sp:Sp} (F:FnOk P w K mg base CX j f fd ps sp) (h:j≤k) :
  FnOk P w K mg base CX k f fd ps sp:=⟨F.len,fun A outer s H args us vs Q E hr=>F.run A outer s H args us vs Q E (hr.mono h)⟩
theorem FnOk.imp {P:Program} {w:World} {K:PySem.W.Frag} {mg:Str→Option Value} {base:Heap} {CX:CXT} {k:Nat} {f:Addr} {fd:FuncData} {ps:List Str} {sp sp':Sp} (F:FnOk P w K mg base CX k f fd ps sp)
  (h:∀vs H Q E,sp' vs H Q E→sp vs H Q E):FnOk P w K mg base CX k f fd ps sp' :=
 ⟨fun vs H Q E q=>F.len vs H Q E (h _ _ _ _ q),fun A outer s H args us vs Q E hr he hb hv hs=>F.run A outer s H args us vs Q E hr he hb hv (h _ _ _ _ hs)⟩
theorem Env0.make {P:Program} {w:World} {K:PySem.W.Frag} {mg:Str→Option Value} {base:Heap} {A:Around} {outer:List Env} {s:Shared} {H:Hp} (e:Env0 P w K mg base A outer s H) (C:Addr) (us:List Value) (kw:List (Str×Value)) :
  Env0 P w K mg base (A.under (.builtin "type.__call__" ⟨.ref C::us,kw⟩)) outer s H:=⟨by first|exact e.frames|(simpa [Around.under,Code.envs,Code.isFrame,pushEnvs] using e.frames),e.mod,e.bs,e.bsz,e.funs,e.frf,e.hok,e.bare⟩
section
variable {X:Cx} {pins:List (Addr×Obj)} {σ:St} {H:Hp} {s s':Shared}
theorem Inv.env0 (I:Inv X pins σ H s):Env0 X.prog X.w X.K X.mg X.base X.A X.stack s H :=
 ⟨I.ok.frames,I.ok.mod,I.bs,Nat.le_trans I.ok.bsz I.sz,I.stack,I.stkFree,I.hok,I.bare⟩
theorem Inv.after {Q:VK} {u:Value} (I:Inv X pins σ H s) (h:CE X.stack X.prog X.w H s Q u s'):EP X pins σ Q u s':=by
 obtain ⟨v,H',os,bare,un,hok,r,q⟩:=h
 obtain ⟨hh,g,d,t,os'⟩:=s'
 obtain rfl:os'=s.os:=os
 exact ⟨v,H',I.call (h':=hh) (g':=g) (d':=d) (t':=t) (ch:=[]) un hok bare (fun b z=>absurd z (by simp)),r,q⟩
end
def tCall (sp:Sp) (dvs:List V) (E:XK) (t:TA):TE:=fun σ H Q=>t σ H fun vs H1=>sp (vs++dvs) H1 Q E
def tMake (C:Addr) (sp:Sp) (dvs:List V) (E:XK) (t:TA):TE:=fun σ H Q=>t σ H fun vs H1=>∀x dx,H1 x=none→H1 dx=none→dx≠x →
 sp (.ref x::(vs++dvs)) (upd (upd H1 dx (.own x)) x (.ins C dx [])) (fun v H2=>v=.non∧Q (.ref x) H2) E
def Binds (K:PySem.W.Frag) (fd:FuncData) (ps:List Str) (ds:List Value):Prop :=
 ∀(s:Shared) (us:List Value),K.In s.heap→(us++ds).length=ps.length→BindsTo s fd ⟨us,[]⟩ (ps.zip (us++ds))
theorem Binds.all {K:PySem.W.Frag} {fd:FuncData} {ps:List Str} (h:∀us:List Value,us.length=ps.length→bindArgs fd ⟨us,[]⟩=pure (ps.zip us)):Binds K fd ps []:=fun s us _ hl=>by
 rw [List.append_nil] at hl ⊢
 exact .of_eq (h us hl)
def Passes (CX:CXT) (X:Cx) (E:XK):Prop:=∀(pins:List (Addr×Obj)) (σ:St) (H:Hp) (s:Shared) (e:Value) (s':Shared),Inv X pins σ H s→CX X.stack H s E e s'→X.xe e s'
section
variable {X:Cx} {CX:CXT} {k:Nat} {f C:Addr} {fd:FuncData} {ps:List Str} {sp:Sp} {dvs:List V} {ds:List Value} {E:XK} {x m:Str} {p pos apos:Pos} {e o:Expr} {es:List Expr} {ta:TE} {t:TA}
theorem zgR {pins:List (Addr×Obj)} {σ:St} {H:Hp} {s:Shared} {Q:VK} {us:List Value} {vs:List V} (F:FnOk X.prog X.w X.K X.mg X.base CX k f fd ps sp) (hr:Room k X.A) (hb:Binds X.K fd ps ds) (hd:Vals dvs ds) (hx:Passes CX X E)
  (I:Inv X pins σ H s) (r:Vals vs us) (h:sp (vs++dvs) H Q E):wpAny (model X.prog X.w) X.A (call (.ref f) us) (EP X pins σ Q) X.xe s:=by
 have r2:Vals (vs++dvs) (us++ds):=r.append hd
 have hl:(us++ds).length=ps.length:=by rw [←r2.length];exact F.len _ _ _ _ h
 refine wpAny_call (codeAny_mono (F.run X.A X.stack s H ⟨us,[]⟩ (us++ds) (vs++dvs) Q E hr I.env0 (hb s us I.kIn hl) r2 h) fun r s' hq=>?_)
 cases r with
 | error e=>exact hx pins σ H s e s' I hq
 | ok fl =>
  cases fl with
  | ret u=>exact I.after hq
  | next=>exact False.elim hq
  | brk=>exact False.elim hq
  | cont=>exact False.elim hq
theorem zlC (F:FnOk X.prog X.w X.K X.mg X.base CX k f fd ps sp) (hr:Room k X.A) (hg:Gl X x) (hm:X.mg x=some (.ref f)) (hk:PySem.W.keepIn X.K (.ref f)=true) (hb:Binds X.K fd ps ds) (hd:Vals dvs ds) (hx:Passes CX X E)
  (ha:PA X (e::es) t) (hdb:(x==("__debug__" : Str))=false:=by decide) (he:starEach (e::es) X.env=(false,eval e X.env)::starEach es X.env:=by rfl) (hpl:(backTo pos (starEach es X.env)).any (·.1)=false:=by rfl) :
  PE X (.Call (.Name x p) (e::es) [] pos) (tCall sp dvs E t):=by
 intro pins s σ H Q I h
 refine wpAny_Call_Name_kw (zel I hg hm ?_ hdb)
 refine PySem.W.callWith_K (h₀:=X.base) I.ok.mod.kin hk (thn (ha pos pins s σ H _ I h) fun us s1 ⟨vs,H1,I1,r,q⟩=>⟨I1.kIn,?_⟩) he hpl
 exact zgR F hr hb hd hx I1 r q
structure Mk (K:PySem.W.Frag) (C f:Addr):Prop where
 makes:PySem.W.makesIn K C=true
 init:PySem.W.findIn K (.ref C) "__init__" = some (some (.ref f))
 fn:PySem.W.isFn K (.ref f)=true
 kp:PySem.W.keepIn K (.ref C)=true
theorem zjZ {pins:List (Addr×Obj)} {σ:St} {H:Hp} {s:Shared} {Q:VK} {us:List Value} {vs:List V} (M:Mk X.K C f) (F:FnOk X.prog X.w X.K X.mg X.base CX k f fd ps sp) (hr:Room (k+1) X.A) (hb:Binds X.K fd ps ds) (hd:Vals dvs ds)
  (hx:Passes CX X E) (I:Inv X pins σ H s) (r:Vals vs us)
  (h:∀x dx,H x=none→H dx=none→dx≠x→sp (.ref x::(vs++dvs)) (upd (upd H dx (.own x)) x (.ins C dx [])) (fun v H2=>v=.non∧Q (.ref x) H2) E) :
  wpAny (model X.prog X.w) X.A (call (.ref C) us) (EP X pins σ Q) X.xe s:=by
 have hq:=h (s.heap.objs.size+1) s.heap.objs.size (I.hok.fresh (Nat.le_succ _)) (I.hok.fresh (Nat.le_refl _)) (Nat.ne_of_lt (Nat.lt_succ_self _))
 have I2:=Inv.made (C:=C) I
 have r2:Vals (V.ref (s.heap.objs.size+1)::(vs++dvs)) (Value.ref (s.heap.objs.size+1)::(us++ds)):=.cons rfl (r.append hd)
 have hl:(Value.ref (s.heap.objs.size+1)::us++ds).length=ps.length:=by
  have e:=r2.length
  rw [F.len _ _ _ _ hq] at e
  exact e.symm
 refine wpAny_call (zjY (f:=f) I.kIn M.makes M.init (beq_iff_eq.mp M.fn) (codeAny_mono (F.run _ X.stack _ _ ⟨Value.ref (s.heap.objs.size+1)::us,[]⟩ (Value.ref (s.heap.objs.size+1)::(us++ds)) _ _ E (hr.make C us [])
  (I2.env0.make C us []) (hb _ (Value.ref (s.heap.objs.size+1)::us) I2.kIn hl) r2 hq) fun r s' hq'=>?_))
 cases r with
 | error e=>exact hx pins σ _ _ e s' I2 hq'
 | ok fl =>
  cases fl with
  | ret u =>
   obtain ⟨v,H',I3,rv,ev,q3⟩:=I2.after hq'
   subst ev
   exact ⟨rv,⟨V.ref (s.heap.objs.size+1),H',I3,rfl,q3⟩⟩
  | next=>exact False.elim hq'
  | brk=>exact False.elim hq'
  | cont=>exact False.elim hq'
theorem zlD (M:Mk X.K C f) (F:FnOk X.prog X.w X.K X.mg X.base CX k f fd ps sp) (hr:Room (k+1) X.A) (hg:Gl X x) (hm:X.mg x=some (.ref C)) (hb:Binds X.K fd ps ds) (hd:Vals dvs ds) (hx:Passes CX X E)
  (ha:PA X (e::es) t) (hdb:(x==("__debug__" : Str))=false:=by decide) (he:starEach (e::es) X.env=(false,eval e X.env)::starEach es X.env:=by rfl) (hpl:(backTo pos (starEach es X.env)).any (·.1)=false:=by rfl) :
  PE X (.Call (.Name x p) (e::es) [] pos) (tMake C sp dvs E t):=by
 intro pins s σ H Q I h
 refine wpAny_Call_Name_kw (zel I hg hm ?_ hdb)
 refine PySem.W.callWith_K (h₀:=X.base) I.ok.mod.kin M.kp (thn (ha pos pins s σ H _ I h) fun us s1 ⟨vs,H1,I1,r,q⟩=>⟨I1.kIn,?_⟩) he hpl
 exact zjZ M F hr hb hd hx I1 r q
end
section
variable {X:Cx} {CX:CXT} {k:Nat} {f C:Addr} {fd:FuncData} {ps ks:List Str} {sp:Sp} {E:XK} {x m:Str} {p pos apos kpos:Pos} {e o:Expr} {es:List Expr} {kws:List Keyword} {te ta:TE} {t tk:TA} {nm:Option Str}
structure KBinds (K:PySem.W.Frag) (fd:FuncData) (ps ks:List Str) (g:List Value→List Value→List Value) (gV:List V→List V→List V):Prop where
 to:∀(s:Shared) (us ws:List Value),K.In s.heap→(g us ws).length=ps.length→BindsTo s fd ⟨us,ks.zip ws⟩ (ps.zip (g us ws))
 rel:∀{vs:List V} {us:List Value} {zs:List V} {ws:List Value},Vals vs us→Vals zs ws→Vals (gV vs zs) (g us ws)
variable {g:List Value→List Value→List Value} {gV:List V→List V→List V}
end
structure FnScope (N P:List Str) (sc:Scope):Prop where
 kind:sc.kind=.function
 co:sc.isCoroutine=false
 gen:sc.isGenerator=false
 nd:N.Nodup
 pre:N.take P.length=P
 par:∀x∈P,sc.names.lookup x=some .local∨sc.names.lookup x=some .cell
 nofree:∀y∈sc.names,y.2 ≠ .free
theorem zfA {kindOf:Str→Option NameKind} {x:Str}:∀{binds:List (Str×Value)} {m:Str→Option Value},(∀v,(x,v)∉binds)→bindL kindOf binds m x=m x
 | [],_,_=>rfl
 | (n,v)::r,m,h=>by
  unfold bindL
  rw [zfA fun w hw=>h w (List.mem_cons_of_mem _ hw)]
  split
  ·have:x≠n:=by rintro rfl;exact h v List.mem_cons_self
   simp [this]
  ·rfl
theorem zfB {kindOf:Str→Option NameKind} {x:Str}:∀{binds:List (Str×Value)} {m:Str→Option Value},(∀v,(x,v)∉binds)→bindC kindOf binds m x=m x
 | [],_,_=>rfl
 | (n,v)::r,m,h=>by
  unfold bindC
  rw [zfB fun w hw=>h w (List.mem_cons_of_mem _ hw)]
  split
  ·rfl
  ·have:x≠n:=by rintro rfl;exact h v List.mem_cons_self
   simp [this]
theorem zfC {kindOf:Str→Option NameKind} {x:Str} {v:Value}:∀{P:List Str} {vs:List Value} {i:Nat} {m:Str→Option Value},P.Nodup→P[i]?=some x→vs[i]?=some v→kindOf x=some .local →
  bindL kindOf (P.zip vs) m x=some v
 | [],_,_,_,_,h,_,_=>by simp at h
 | _::_,[],_,_,_,_,h,_=>by simp at h
 | p::P,w::vs,0,m,nd,h1,h2,hk=>by
  simp at h1 h2;subst h1;subst h2
  show bindL kindOf ((p,w)::P.zip vs) m p=_
  unfold bindL
  rw [zfA fun v hv=>(List.nodup_cons.mp nd).1 (List.of_mem_zip hv).1,if_pos hk]
  simp
 | p::P,w::vs,i+1,m,nd,h1,h2,hk=>by
  show bindL kindOf ((p,w)::P.zip vs) m x=_
  unfold bindL
  exact zfC (i:=i) (List.nodup_cons.mp nd).2 (by simpa using h1) (by simpa using h2) hk
theorem zfD {kindOf:Str→Option NameKind} {x:Str} {v:Value}:∀{P:List Str} {vs:List Value} {i:Nat} {m:Str→Option Value},P.Nodup→P[i]?=some x→vs[i]?=some v→kindOf x≠some .local →
  bindC kindOf (P.zip vs) m x=some v
 | [],_,_,_,_,h,_,_=>by simp at h
 | _::_,[],_,_,_,_,h,_=>by simp at h
 | p::P,w::vs,0,m,nd,h1,h2,hk=>by
  simp at h1 h2;subst h1;subst h2
  show bindC kindOf ((p,w)::P.zip vs) m p=_
  unfold bindC
  rw [zfB fun v hv=>(List.nodup_cons.mp nd).1 (List.of_mem_zip hv).1,if_neg hk]
  simp
 | p::P,w::vs,i+1,m,nd,h1,h2,hk=>by
  show bindC kindOf ((p,w)::P.zip vs) m x=_
  unfold bindC
  exact zfD (i:=i) (List.nodup_cons.mp nd).2 (by simpa using h1) (by simpa using h2) hk
def start (N:List Str) (vs:List V):St:=vs.map some++List.replicate (N.length-vs.length) none
def cxOf (CX:CXT) (P:Program) (w:World) (K:PySem.W.Frag) (mg:Str→Option Value) (base:Heap) (N:List Str) (qual:Str) (scope:Scope) (f:Addr) (cd:Value) (A:Around) (outer:List Env) (s:Shared) (H:Hp) (E:XK):Cx where
 prog:=P
 w:=w
 K:=K
 mg:=mg
 base:=base
 A:=A.deeper (envOfC qual scope s.heap.objs.size f cd)
 N:=N
 s₀:=s
 H₀:=H
 env:=envOfC qual scope s.heap.objs.size f cd
 outer:=outer
 stack:=envOfC qual scope s.heap.objs.size f cd::outer
 ex:=[]
 calm:=true
 fn:=fun _=>true
 pn:=[]
 xe:=fun e s'=>wpAny (model P w) (A.deeper (envOfC qual scope s.heap.objs.size f cd)) (leaving (envOfC qual scope s.heap.objs.size f cd) e) (fun _ s''=>CX outer H s E e s'') (fun e' s''=>CX outer H s E e' s'') s'
theorem zgS {sc:Scope} {n:Nat} {x:Str} (h:sc.names.lookup x=some .cell):∃c,(cellsFrom n sc.names []).lookup x=some c:=by
 have q:=PySem.W.cellsFrom_some sc.names n [] (.inl h)
 exact Option.isSome_iff_exists.mp q
theorem zih {CX:CXT} {P:Program} {w:World} {K:PySem.W.Frag} {mg:Str→Option Value} {base:Heap} {N ps:List Str} {qual:Str} {scope:Scope} {f:Addr} {cd:Value} {A:Around} {outer:List Env} {s s1:Shared} {H:Hp} {E:XK} {us:List Value} {vs:List V}
  (S:FnScope N ps scope) (hd:A.handled=none) (e0:Env0 P w K mg base A outer s H) (hl:vs.length=ps.length) (r:Vals vs us)
  (x:InCallC s s.heap.objs.size (bindL (envOfC qual scope s.heap.objs.size f cd).kindOf (ps.zip us) fun _=>none) (cellsFrom (s.heap.objs.size+1) scope.names []) (bindC (envOfC qual scope s.heap.objs.size f cd).kindOf (ps.zip us) fun _=>none) s1) :
  Inv (cxOf CX P w K mg base N qual scope f cd A outer s H E) [] (start N vs) H s1:=by
 have hpl:ps.length≤N.length:=by have:=congrArg List.length S.pre;rw [List.length_take] at this;omega
 obtain ⟨h1,tk,rfl,hk⟩:=x.done
 have noA:∀b:Addr,b∉(cxOf CX P w K mg base N qual scope f cd A outer s H E).ex:=fun b z=>absurd (show b∈([]:List Addr) from z) (by simp)
 refine ⟨⟨e0.mod,S.kind,rfl,rfl,Nat.le_refl _,fun y z c h1 h2=>?_,fun y hy=>?_,fun y c _ h=>?_,fun _=>hd,Around.frames_deeper e0.frames,.inr ⟨rfl,rfl⟩,fun b z=>absurd z (noA b),e0.bs,e0.bsz,fun b _ _=>noA b,fun b z=>absurd z (noA b),e0.funs,e0.frf⟩,
  rfl,e0.bare,Un.kept hk,⟨_,x.toInCall.ns,fun i y v h1 h2 h3=>?_⟩,fun y c h=>⟨_,x.cell y c h⟩,e0.hok.fresh (Nat.le_refl _),fun y c h=>?_,fun p hp=>absurd (show p∈([]:List (Addr×Obj)) from hp) (by simp),e0.hok.kept hk,?_⟩
 ·exact name_of_addr x.apart (PySem.mem_of_lookup h1) (PySem.mem_of_lookup h2)
 ·have hy:scope.names.lookup y=some .cell∨scope.names.lookup y=some .free:=hy
  rcases hy with hy|hy
  ·exact zgS hy
  ·exact absurd rfl (S.nofree _ (PySem.mem_of_lookup hy))
 ·exact Nat.le_of_lt (x.above y c (PySem.mem_of_lookup h))
 ·have hi:i<vs.length:=by
   unfold start at h2
   by_cases hi:i<vs.length
   ·exact hi
   ·rw [List.getElem?_append_right (by simpa using hi)] at h2
    rw [List.getElem?_replicate] at h2
    split at h2<;>cases h2
  have ha:vs[i]?=some v:=by
   unfold start at h2
   rw [List.getElem?_append_left (by simpa using hi),List.getElem?_map] at h2
   cases e:vs[i]? with
   | none=>rw [e] at h2;cases h2
   | some a=>rw [e] at h2;cases h2;rfl
  obtain ⟨u,hu,rv⟩:=r.get ha
  have hp:ps[i]?=some y:=by
   rw [←S.pre,List.getElem?_take_of_lt (by omega)];exact h1
  have ndP:ps.Nodup:=by rw [←S.pre];exact S.nd.sublist (List.take_sublist _ _)
  refine ⟨u,rv,?_⟩
  rcases S.par y (List.mem_of_getElem? hp) with k|k
  ·exact .inl ⟨k,zfC ndP hp hu k⟩
  ·obtain ⟨c,e⟩:=zgS (n:=s.heap.objs.size+1) k
   refine .inr ⟨.inl k,c,e,?_⟩
   have q:=x.cell y c e
   rw [zfD ndP hp hu (by show scope.names.lookup y≠_;rw [k];decide)] at q
   exact q
 ·exact e0.hok.fresh (Nat.le_of_lt (x.above y c (PySem.mem_of_lookup h)))
 ·unfold start
  show _=N.length
  rw [List.length_append,List.length_map,List.length_replicate]
  omega
theorem zns {CX:CXT} {P:Program} {w:World} {K:PySem.W.Frag} {mg:Str→Option Value} {base:Heap} {k:Nat} {f:Addr} {name qual:Str} {params:Arguments} {body:List Stmt} {scope:Scope} {dV kV doc pm cdv ct oc:Value} {an od:Option Addr}
  {osl:Array (Option Value)} {N ps:List Str} {sp:Sp} (lk:K.lookup f=some ⟨oc,od,.func (PySem.W.fnOf name qual params body scope dV kV doc pm an cdv ct),osl⟩) (hcd:PySem.W.codeIn K cdv qual=true) (S:FnScope N ps scope)
  (len:∀vs H Q E,sp vs H Q E→vs.length=ps.length)
  (hbody:∀(A:Around) (outer:List Env) (s:Shared) (H:Hp) (vs:List V) (Q:VK) (E:XK),Room k (A.deeper (envOfC qual scope s.heap.objs.size f cdv))→sp vs H Q E →
   ∃t,PSs (cxOf CX P w K mg base N qual scope f cdv A outer s H E) body t∧t { nx:=fun _ H'=>Q .non H',rt:=Q } (start N vs) H) :
  FnOk P w K mg base CX (k+1) f (PySem.W.fnOf name qual params body scope dV kV doc pm an cdv ct) ps sp:=by
 refine ⟨len,fun A outer s H args us vs Q E hr e0 hb r hsp=>?_⟩
 have hl:=len _ _ _ _ hsp
 have KX:K.In s.heap:=e0.mod.kin.keeps fun b o e=>(e0.bs b o e).1
 have lim:s.heap.NoLimit:=e0.mod.nolimit.keeps fun b o e=>(e0.bs b o e).1
 have hkind:∀y∈ps.zip us,scope.names.lookup y.1=some .local∨(scope.names.lookup y.1=some .cell∧((cellsFrom (s.heap.objs.size+1) scope.names []).lookup y.1).isSome=true):=fun ⟨n,v⟩ hy=>by
  rcases S.par n (List.of_mem_zip hy).1 with q|q
  ·exact .inl q
  ·exact .inr ⟨q,PySem.W.cellsFrom_some _ _ _ (.inl q)⟩
 refine codeAny_call_function hr.depth (KX _ _ lk) rfl S.co S.gen rfl (PySem.W.codeRec_of KX hcd) (hb _ _ _ _ ?_)
 refine wpAny_newFunctionEnv_cells S.kind hkind fun env he s1 x=>?_
 subst he
 refine ⟨lim.keeps x.toInCall.keep,codeAny_func ?_⟩
 obtain ⟨t,ht,hq⟩:=hbody A outer s H vs Q E (hr.deeper _) hsp
 have I:Inv (cxOf CX P w K mg base N qual scope f cdv A outer s H E) [] (start N vs) H s1:=zih S hr.hd e0 hl r x
 refine wpAny_mono (ht [] s1 (start N vs) H _ I hq) (fun fl s' hs=>?_) fun e s' hs=>hs
 have fin:∀{σ':St} {H':Hp} {v:V} {u:Value},Inv (cxOf CX P w K mg base N qual scope f cdv A outer s H E) [] σ' H' s'→RelV v u→Q v H'→CE outer P w H s Q u s' :=
  fun {σ' H' v u} J rv q=>⟨v,H',J.os,J.bare,J.base,J.hok,rv,q⟩
 cases fl with
 | ret u =>
  obtain ⟨v,σ',H',J,rv,q⟩:=hs
  exact fin J rv q
 | next =>
  obtain ⟨σ',H',J,q⟩:=hs
  exact fin (v:=V.non) (u:=Value.none) J rfl q
 | brk =>
  obtain ⟨_,_,_,q⟩:=hs
  exact False.elim q
 | cont =>
  obtain ⟨_,_,_,q⟩:=hs
  exact False.elim q
end L2
namespace L2
open PySem PySem.Spec PyProof.Rows
section
variable {X:Cx} {x:Str} {p pos:Pos} {e:Expr} {es:List Expr} {t:TA} {id T:String} {r:List V→Hp→VK→Prop}
def tCB (r:List V→Hp→VK→Prop) (t:TA):TE:=fun σ H Q=>t σ H fun vs H1=>r vs H1 Q
theorem zj0 (hc:CallR X (.builtin id) r) (hg:Gl X x) (hm:X.mg x=none) (hv:bootBuiltins x=some (.builtin id)) (ha:PA X (e::es) t) (hn:x ≠ "__name__" := by decide) (hdb:(x==("__debug__" : Str))=false:=by decide)
  (he:starEach (e::es) X.env=(false,eval e X.env)::starEach es X.env:=by rfl) (hpl:(backTo pos (starEach es X.env)).any (·.1)=false:=by rfl):PE X (.Call (.Name x p) (e::es) [] pos) (tCB r t):=by
 intro pins s σ H Q I h
 refine wpAny_Call_Name_kw (zcV I hg hm hv ?_ hn hdb)
 exact PyProof.Rows.callWith_builtin1 (thn (ha pos pins s σ H _ I h) fun us s1 ⟨vs,H1,I1,r1,q1⟩=>hc pins s1 σ H1 vs us Q I1 r1 q1) he hpl
theorem zii (hc:CallR X (.type T) r) (hg:Gl X x) (hm:X.mg x=none) (hv:bootBuiltins x=some (.type T)) (ha:PA X (e::es) t) (hn:x ≠ "__name__" := by decide) (hdb:(x==("__debug__" : Str))=false:=by decide)
  (he:starEach (e::es) X.env=(false,eval e X.env)::starEach es X.env:=by rfl) (hpl:(backTo pos (starEach es X.env)).any (·.1)=false:=by rfl):PE X (.Call (.Name x p) (e::es) [] pos) (tCB r t):=by
 intro pins s σ H Q I h
 refine wpAny_Call_Name_kw (zcV I hg hm hv ?_ hn hdb)
 exact PyProof.Rows.callWith_type1 (thn (ha pos pins s σ H _ I h) fun us s1 ⟨vs,H1,I1,r1,q1⟩=>hc pins s1 σ H1 vs us Q I1 r1 q1) he hpl
end
end L2
namespace HT
open PySem PyProof.Rows
section
open PySem.SeqAt
open PySem.AutoSeq1 (wpAny_loadPart')
open PySem.MeetsSeq PySem.MeetsSeq2 PySem.MeetsSeq3
end
section
variable {prog:Program} {w:World} {A:Around} {E:Value→Shared→Prop} {s:Shared}
theorem cat_tup {t b:Addr} {vs ws:List Value} {Q:Value→Shared→Prop} (ht:IsTup s.heap t vs.toArray) (hb:IsTup s.heap b ws.toArray) (hv:vs≠[])
  (h1:ws=[]→Q (.ref t) s) (h2:ws≠[]→Q (.ref s.heap.objs.size) { s with heap:=s.heap.push { cls:=.type "tuple", data:=.seq (vs++ws).toArray } })
  (hsz:vs.length+ws.length≤sizeLine):wpAny (model prog w) A (binaryOp .Add (.ref t) (.ref b)) Q E s:=by
 obtain ⟨⟨cls,dd,data,sl⟩,ho,hc,n,hd⟩:=id ht
 obtain ⟨⟨cls2,dd2,data2,sl2⟩,ho2,hc2,n2,hd2⟩:=id hb
 simp only at hc hd hc2 hd2
 subst hc hd hc2 hd2
 have e:vs.toArray++ws.toArray=(vs++ws).toArray:=by simp
 by_cases hw:ws=[]
 ·exact concat_meets ⟨_,ho,rfl⟩ ⟨_,ho2,rfl⟩ noFill_tuple_add seq_tuple_add PySem.F.slot_tuple_add PySem.F.entry_tuple_add (PySem.F.args_tuple_add_2 _ _)
   (tuple_addW1 t b vs.toArray ws.toArray n n2 dd dd2 sl sl2 (by simpa using hv) (by simp [hw])) ⟨ho,ho2,h1 hw⟩
 ·refine concat_meets ⟨_,ho,rfl⟩ ⟨_,ho2,rfl⟩ noFill_tuple_add seq_tuple_add PySem.F.slot_tuple_add PySem.F.entry_tuple_add (PySem.F.args_tuple_add_2 _ _)
   (tuple_addW2 t b vs.toArray ws.toArray n n2 dd dd2 sl sl2 (by simpa using hv) (by simpa using hw) (by rw [List.size_toArray,List.size_toArray];exact hsz)) ⟨ho,ho2,?_⟩
  rw [e]
  exact h2 hw
def sIx (n d:Nat):Option Int→Nat
 | none=>d
 | some v=>if v<0 then (v+(n:Int)).toNat else min v.toNat n
theorem znt (n d:Nat) (hd:d≤n) (o:Option Int):sIx n d o≤n:=by
 cases o with
 | none=>exact hd
 | some v =>
  show (if v<0 then (v+(n:Int)).toNat else min v.toNat n)≤n
  by_cases hv:v<0
  ·rw [if_pos hv];omega
  ·rw [if_neg hv];exact Nat.min_le_right _ _
theorem zij (v:Int) (n d:Nat):(if v<0 then max (v+(n:Int)) 0 else min v (n:Int))=((sIx n d (some v):Nat):Int):=by
 show (if v<0 then max (v+(n:Int)) 0 else min v (n:Int))=(((if v<0 then (v+(n:Int)).toNat else min v.toNat n):Nat):Int)
 by_cases hv:v<0
 ·simp only [if_pos hv];omega
 ·simp only [if_neg hv];omega
theorem zhF (lo hi:Option Int) (n:Nat):Builtin.Slice.sliceAdjust lo hi 1 (n:Int)=(((sIx n 0 lo:Nat):Int),((sIx n n hi:Nat):Int)):=by
 have h1:¬((1:Int)<0):=by omega
 unfold Builtin.Slice.sliceAdjust
 simp only [h1,if_false]
 refine Prod.ext ?_ ?_
 ·cases lo with
  | none=>rfl
  | some v=>exact zij v n 0
 ·cases hi with
  | none=>rfl
  | some v=>exact zij v n n
theorem zhG (i j:Nat):Builtin.Slice.slicePlaces (i:Int) (j:Int) 1=j-i:=by
 unfold Builtin.Slice.slicePlaces
 have h1:(1:Int)>0:=by omega
 simp only [h1,if_true,Int.ediv_one]
 split<;>omega
theorem zeT {v:Value} {o:Option Int} {Q:Option Int→Shared→Prop} (p:IsPart v o) (h:Q o s):wpAny (model prog w) A (Builtin.Slice.slicePartIndex v) Q E s:=by
 cases p with
 | none=>exact slicePart_none h
 | int i t=>exact slicePart_int h
theorem zcn {sl:Addr} {vl vu:Value} {lo hi:Option Int} {n:Nat} {Q:Int×Int×Nat→Shared→Prop} (hs:s.heap.IsSliceOf sl vl vu .none) (pl:IsPart vl lo) (pu:IsPart vu hi)
  (h:Q (((sIx n 0 lo:Nat):Int),1,sIx n n hi-sIx n 0 lo) s):wpAny (model prog w) A (Builtin.Slice.sliceApplied (.ref sl) (pure (n:Int))) Q E s:=by
 obtain ⟨os,hos,hcs,hds⟩:=id hs
 unfold Builtin.Slice.sliceApplied Builtin.Slice.sliceFields
 refine wpAny_bind (wpAny_bind (wpAny_field hos hds (x:=vl) rfl (wpAny_bind (wpAny_field hos hds (x:=vu) rfl (wpAny_bind (wpAny_field hos hds (x:=.none) rfl (wpAny_pure ?_)))))))
 refine wpAny_bind (slicePart_none ?_)
 show wpAny _ _ (if ((1:Int)==0)=true then _ else _) _ _ s
 rw [if_neg (by decide)]
 refine wpAny_bind (zeT pl (wpAny_bind (zeT pu (wpAny_bind (wpAny_pure ?_)))))
 show wpAny _ _ (match Builtin.Slice.sliceAdjust lo hi 1 (n:Int) with|(lo,hi)=>pure (lo,(1:Int),Builtin.Slice.slicePlaces lo hi 1)) _ _ s
 rw [zhF lo hi n]
 show wpAny _ _ (pure (((sIx n 0 lo:Nat):Int),(1:Int),Builtin.Slice.slicePlaces ((sIx n 0 lo:Nat):Int) ((sIx n n hi:Nat):Int) 1)) _ _ s
 rw [zhG]
 exact wpAny_pure h
theorem zj1 (xs:Array Value) (i k:Nat):((List.range k).filterMap fun (m:Nat)=>xs[((i:Int)+(m:Int)*1).toNat]?).toArray=((xs.toList.drop i).take k).toArray:=by
 have e:(fun (m:Nat)=>xs[((i:Int)+(m:Int)*1).toNat]?)=fun m=>xs[i+m]?:=by
  funext m
  have:((i:Int)+(m:Int)*1).toNat=i+m:=by omega
  rw [this]
 rw [e]
 have:=pick_run xs i k
 rw [List.filterMap_map] at this
 have e2:((fun x=>xs[x]?)∘fun x=>i+x)=fun m=>xs[i+m]?:=rfl
 rw [e2] at this
 rw [this]
theorem getItem_tuple_cut {t sl:Addr} {items:Array Value} {vl vu:Value} {lo hi:Option Int} {Q:Value→Shared→Prop} (ht:IsTup s.heap t items) (hs:s.heap.IsSliceOf sl vl vu .none) (pl:IsPart vl lo) (pu:IsPart vu hi)
  (hw:¬(sIx items.size 0 lo=0∧sIx items.size items.size hi=items.size))
  (h:Q (.ref s.heap.objs.size) { s with heap:=s.heap.push { cls:=.type "tuple", data:=.seq ((items.toList.drop (sIx items.size 0 lo)).take (sIx items.size items.size hi-sIx items.size 0 lo)).toArray } })
  (hsz:items.size≤sizeLine):wpAny (model prog w) A (getItem (.ref t) (.ref sl)) Q E s:=by
 have htake:sizeOk (.seq ((items.toList.drop (sIx items.size 0 lo)).take (sIx items.size items.size hi-sIx items.size 0 lo)).toArray):=by
  show ((items.toList.drop (sIx items.size 0 lo)).take (sIx items.size items.size hi-sIx items.size 0 lo)).toArray.size≤sizeLine
  rw [List.size_toArray,List.length_take,List.length_drop,Array.length_toList]
  omega
 have hj:sIx items.size items.size hi≤items.size:=znt _ _ (Nat.le_refl _) hi
 obtain ⟨os,hos,hcs,hds⟩:=id hs
 have hTs:s.TypeIs (.ref sl) "slice" := ⟨os,hos,hcs⟩
 unfold getItem
 try with_reducible refine wpAny_holding ?_
 first|refine wpAny_bind (wpAny_pure ?_)|skip
 refine wpAny_bind (wpAny_sequenceKey ht.typeIs (by decide) ?_)
 refine wpAny_bind (wpAny_callSpecial?_slot (name:=Str.ofString "__getitem__") ht.typeIs PyProof.Rows.slot_tuple_getitem
  (wpAny_call_entry PyProof.Rows.slot_tuple_getitem ht.typeIs entry_tuple_getitem ?_ (args_tuple_getitem _ _)))
 show wpAny _ _ (Builtin.Tuple.tupleItemsOf (.ref t) >>= _) _ _ s
 refine wpAny_bind (tupleItemsOf_ ht ?_)
 refine wpAny_bind (wpAny_typeOf hTs ?_)
 rw [if_pos (by decide)]
 refine wpAny_bind (zcn hs pl pu ?_)
 have hno:¬((((sIx items.size 0 lo:Nat):Int)==0&&(1:Int)==1&&(sIx items.size items.size hi-sIx items.size 0 lo)==items.size)=true):=by
  intro q
  rw [Bool.and_eq_true,Bool.and_eq_true] at q
  have q1:((sIx items.size 0 lo:Nat):Int)=0:=eq_of_beq q.1.1
  have q2:sIx items.size items.size hi-sIx items.size 0 lo=items.size:=eq_of_beq q.2
  exact hw ⟨by omega,by omega⟩
 show wpAny _ _ (if (((sIx items.size 0 lo:Nat):Int)==0&&(1:Int)==1&&(sIx items.size items.size hi-sIx items.size 0 lo)==items.size)=true then _ else _) _ _ s
 rw [if_neg hno,zj1]
 first
  | exact wpAny_bind (m:=Builtin.Tuple.tupleExact _) (wpAny_newObj_type (wpAny_pure ⟨_,rfl,wpAny_pure h⟩) htake)
  | exact wpAny_bind (m:=Builtin.Tuple.tupleExact _) (wpAny_newObj_type (wpAny_bind (wpAny_pure (wpAny_pure ⟨_,rfl,wpAny_pure h⟩))) htake)
  | exact wpAny_bind (wpAny_bind (m:=Builtin.Tuple.tupleExact _) (wpAny_newObj_type (wpAny_pure (wpAny_pure ⟨_,rfl,wpAny_pure h⟩)) htake))
  | exact wpAny_bind (wpAny_bind (m:=Builtin.Tuple.tupleExact _) (wpAny_newObj_type (wpAny_pure ⟨_,rfl,wpAny_pure h⟩) htake))
end
end HT
namespace L2
open PySem PySem.Spec PyProof.Rows
abbrev TO:=St→Hp→(Option Int→Hp→Prop)→Prop
def PO (X:Cx) (e:Option Expr) (t:TO):Prop :=
 ∀(pins:List (Addr×Obj)) (s:Shared) (σ:St) (H:Hp) (Q:Option Int→Hp→Prop),Inv X pins σ H s→t σ H Q →
  wpAny (model X.prog X.w) X.A (evalPart e X.env) (fun u s'=>∃o H',Inv X pins σ H' s'∧IsPart u o∧Q o H') X.xe s
def tNoPart:TO:=fun _ H Q=>Q none H
def tPart (t:TE):TO:=fun σ H Q=>t σ H fun x H1=>∃i,x=.int i∧Q (some i) H1
section
variable {X:Cx} {e:Expr} {te:TE} {lo hi:Option Expr} {tl th:TO} {pos p2:Pos}
theorem zlE:PO X none tNoPart:=by
 intro pins s σ H Q I h
 rw [evalPart_none]
 exact wpAny_pure ⟨none,H,I,.none,h⟩
theorem zlF (h:PE X e te):PO X (some e) (tPart te):=by
 intro pins s σ H Q I hw
 rw [evalPart_some]
 refine thn (h pins s σ H _ I hw) fun u s1 ⟨x,H1,I1,r1,q1⟩=>?_
 obtain ⟨i,rfl,q⟩:=q1
 obtain ⟨t,rfl⟩:=r1
 exact ⟨some i,H1,I1,.int i t,q⟩
def SlR (X:Cx) (r:V→Option Int→Option Int→Hp→VK→Prop):Prop :=
 ∀(pins:List (Addr×Obj)) (s:Shared) (σ:St) (H:Hp) (x:V) (v vl vu:Value) (lo hi:Option Int) (sl:Addr) (Q:VK),Inv X pins σ H s→RelV x v→s.heap.IsSliceOf sl vl vu .none→IsPart vl lo→IsPart vu hi→r x lo hi H Q →
  ∃T id,typeLookup (.type T) "__getitem__" = pure (some (.builtin id))∧s.TypeIs v T∧wpAny (model X.prog X.w) X.A (getItem v (.ref sl)) (EP X pins σ Q) X.xe s
theorem SlR.or {r r':V→Option Int→Option Int→Hp→VK→Prop} (h:SlR X r) (h':SlR X r'):SlR X (fun x lo hi H Q=>r x lo hi H Q∨r' x lo hi H Q):=by
 intro pins s σ H x v vl vu lo hi sl Q I rx hs pl pu q
 rcases q with q|q
 ·exact h pins s σ H x v vl vu lo hi sl Q I rx hs pl pu q
 ·exact h' pins s σ H x v vl vu lo hi sl Q I rx hs pl pu q
def tSl (r:V→Option Int→Option Int→Hp→VK→Prop) (te:TE) (tl th:TO):TE:=fun σ H Q=>te σ H fun x H1=>tl σ H1 fun l H2=>th σ H2 fun u H3=>r x l u H3 Q
theorem zj2 {r:V→Option Int→Option Int→Hp→VK→Prop} (hr:SlR X r) (he:PE X e te) (hl:PO X lo tl) (hu:PO X hi th):PE X (.Subscript e (.Slice lo hi none p2) pos) (tSl r te tl th):=by
 intro pins s σ H Q I h
 refine Subscript_ (thn (he pins s σ H _ I h) fun v s1 ⟨x,H1,I1,r1,q1⟩=>?_)
 refine wpAny_Slice (thn (hl pins s1 σ H1 _ I1 q1) fun vl s2 ⟨l,H2,I2,pl,q2⟩=>thn (hu pins s2 σ H2 _ I2 q2) fun vu s3 ⟨u,H3,I3,pu,q3⟩=>?_)
 rw [evalPart_none]
 refine wpAny_pure ?_
 have I4:Inv X pins σ H3 { s3 with heap:=s3.heap.push { cls:=.type "slice", data:=.fields #[vl,vu,.none] } }:=I3.kept (t':=s3.toks) fun b ob q=>Heap.get?_push_of_some _ q
 obtain ⟨T,id,hT,ht,hg⟩:=hr pins { s3 with heap:=s3.heap.push { cls:=.type "slice", data:=.fields #[vl,vu,.none] } } σ H3 x v vl vu l u s3.heap.objs.size Q I4 r1 (Heap.IsSliceOf.new ..) pl pu q3
 show wpAny (model X.prog X.w) X.A (subscriptTail e (.Slice lo hi none p2) v (.ref s3.heap.objs.size)) (EP X pins σ Q) X.xe { s3 with heap:=s3.heap.push { cls:=.type "slice", data:=.fields #[vl,vu,.none] } }
 exact tail_any (ops:=[.ref s3.heap.objs.size,v]) ht hT hg (by with_unfolding_all rfl)
def cutV (xs:List V) (lo hi:Option Int):List V:=(xs.drop (HT.sIx xs.length 0 lo)).take (HT.sIx xs.length xs.length hi-HT.sIx xs.length 0 lo)
theorem zep (xs:List V) (lo hi:Option Int):(cutV xs lo hi).length≤xs.length:=by
 unfold cutV
 rw [List.length_take,List.length_drop]
 omega
def rSlT (K:PySem.W.Frag):V→Option Int→Option Int→Hp→VK→Prop:=fun x lo hi H Q=>∃a xs,x=.ref a∧SqT K H a xs ∧
 ¬(HT.sIx xs.length 0 lo=0∧HT.sIx xs.length xs.length hi=xs.length)∧∀p,H p=none→Q (.ref p) (upd H p (.tup (cutV xs lo hi)))
theorem znu:SlR X (rSlT X.K):=by
 intro pins s σ H x v vl vu lo hi sl Q I rx hs pl pu h
 obtain ⟨a,xs,rfl,hx,hw,q⟩:=h
 cases rx
 obtain ⟨its,r,ht,hz⟩:=I.tuple hx
 have hlen:its.toArray.size=xs.length:=by rw [List.size_toArray];exact r.length.symm
 refine ⟨"tuple", _,PyProof.Rows.slot_tuple_getitem.lookup,ht.typeIs,?_⟩
 refine HT.getItem_tuple_cut ht hs pl pu (by rw [hlen];exact hw) ?_ (by rw [hlen];exact hz)
 rw [hlen]
 refine ⟨.ref s.heap.objs.size,_,I.laid (t':=s.toks) (o:=.tup (cutV xs lo hi)) (fun b ob q=>Heap.get?_push_of_some _ q) (Nat.le_refl _) ?_,rfl,q _ (I.hok.fresh (Nat.le_refl _))⟩
 exact ⟨Nat.le_trans (zep xs lo hi) hz,_,(r.drop (HT.sIx xs.length 0 lo)).take (HT.sIx xs.length xs.length hi-HT.sIx xs.length 0 lo),IsTup.new _ _⟩
def rCatT (K:PySem.W.Frag):R2:=fun x y H Q=>∃a b xs ys,x=.ref a∧y=.ref b∧SqT K H a xs∧SqT K H b ys∧xs≠[]∧xs.length+ys.length≤sizeLine ∧
 (ys=[]→Q (.ref a) H)∧(ys≠[]→∀p,H p=none→Q (.ref p) (upd H p (.tup (xs++ys))))
theorem Vals.nil_iff {xs:List V} {us:List Value} (r:Vals xs us):us=[]↔xs=[]:=by
 cases r with
 | nil=>simp
 | cons _ _=>simp
theorem zlG:OpR X (binaryOp .Add) (rCatT X.K):=by
 intro pins s σ H x y v u Q I rx ry h
 obtain ⟨a,b,xs,ys,rfl,rfl,ha,hb,hx,hz,q1,q2⟩:=h
 cases rx
 cases ry
 obtain ⟨its,r1,p1,_⟩:=I.tuple ha
 obtain ⟨its2,r2,p2,_⟩:=I.tuple hb
 refine HT.cat_tup p1 p2 (fun z=>hx (r1.nil_iff.mp z)) (fun z=>⟨.ref a,H,I,rfl,q1 (r2.nil_iff.mp z)⟩) (fun z=>?_) (by rw [←r1.length,←r2.length];exact hz)
 refine ⟨.ref s.heap.objs.size,_,I.laid (t':=s.toks) (o:=.tup (xs++ys)) (fun b ob q=>Heap.get?_push_of_some _ q) (Nat.le_refl _) ?_,rfl,q2 (fun w=>z (r2.nil_iff.mpr w)) _ (I.hok.fresh (Nat.le_refl _))⟩
 exact ⟨by rw [List.length_append];exact hz,_,r1.append r2,IsTup.new _ _⟩
end
end L2
namespace L2
open PySem PySem.Spec PyProof.Rows
def ixN (n:Nat) (i:Int):Option Nat:=if 0≤i then (if i<n then some i.toNat else none) else if -(n:Int)≤i then some (i+n).toNat else none
def atI {α:Type} (xs:List α) (i:Int):Option α:=(ixN xs.length i).bind fun j=>xs[j]?
theorem zlH {n:Nat} {i:Int} {j:Nat} (h:ixN n i=some j):seqIndex? i n=some j∧j<n ∧ -(n:Int)≤i∧i<n:=by
 unfold ixN at h
 by_cases h0:0≤i
 ·rw [if_pos h0] at h
  by_cases h1:i<n
  ·rw [if_pos h1] at h
   have e:i.toNat=j:=Option.some.inj h
   exact ⟨by rw [seqIndex_of h0 h1,e],by omega,by omega,h1⟩
  ·rw [if_neg h1] at h;cases h
 ·rw [if_neg h0] at h
  by_cases h1 : -(n:Int)≤i
  ·rw [if_pos h1] at h
   have e:(i+n).toNat=j:=Option.some.inj h
   exact ⟨by rw [seqIndex_neg (by omega) h1,e],by omega,h1,by omega⟩
  ·rw [if_neg h1] at h;cases h
theorem atI_get {α:Type} {xs:List α} {i:Int} {v:α} (h:atI xs i=some v):∃j,seqIndex? i xs.length=some j∧xs[j]?=some v∧j<xs.length ∧ -(xs.length:Int)≤i∧i<xs.length:=by
 unfold atI at h
 cases e:ixN xs.length i with
 | none=>rw [e] at h;cases h
 | some j =>
  rw [e] at h
  obtain ⟨h1,h2,h3,h4⟩:=zlH e
  exact ⟨j,h1,h,h2,h3,h4⟩
def PlainIx (b:Expr):Prop:=∀o i,subscripted b false o i=operate [o,i] (getItem o i)
def IxR (X:Cx) (r:R2):Prop :=
 ∀(value slice:Expr) (pins:List (Addr×Obj)) (s:Shared) (σ:St) (H:Hp) (x y:V) (v u:Value) (Q:VK),Inv X pins σ H s→RelV x v→RelV y u→r x y H Q →
  subscripted slice false v u=operate [v,u] (getItem v u)→wpAny (model X.prog X.w) X.A (subscriptTail value slice v u) (EP X pins σ Q) X.xe s
def MtR (X:Cx) (id:String) (r:V→List V→Hp→VK→Prop):Prop :=
 ∀(pins:List (Addr×Obj)) (s:Shared) (σ:St) (H:Hp) (x:V) (xs:List V) (v:Value) (us:List Value) (Q:VK),Inv X pins σ H s→RelV x v→Vals xs us→r x xs H Q →
  wpAny (model X.prog X.w) X.A (call (.builtin id) (v::us)) (EP X pins σ Q) X.xe s
section
variable {X:Cx} {a b:Expr} {ta tb:TE} {pos:Pos}
theorem IxR.or {r r':R2} (h:IxR X r) (h':IxR X r'):IxR X (fun x y H Q=>r x y H Q∨r' x y H Q):=by
 intro value slice pins s σ H x y v u Q I rx ry q hs
 rcases q with q|q
 ·exact h value slice pins s σ H x y v u Q I rx ry q hs
 ·exact h' value slice pins s σ H x y v u Q I rx ry q hs
theorem znv {r:R2} (hr:IxR X r) (ha:PE X a ta) (hb:PE X b tb) (hs:PlainIx b):PE X (.Subscript a b pos) (tOp r ta tb):=by
 intro pins s σ H Q I h
 exact Subscript_ (binT ha hb I h fun v u s2 x y H2 I2 rx ry q=>hr a b pins s2 σ H2 x y v u Q I2 rx ry q (hs _ _))
def rIxL (K:PySem.W.Frag):R2:=fun x y H Q=>∃p xs i v,x=.ref p∧y=.int i∧SqL K H p xs∧atI xs i=some v∧Q v H
def rIxT (K:PySem.W.Frag):R2:=fun x y H Q=>∃p xs i v,x=.ref p∧y=.int i∧SqT K H p xs∧atI xs i=some v∧Q v H
def rIxS:R2:=fun x y H Q=>∃z i c,x=.str z∧y=.int i∧z.length≤sizeLine∧atI z.cps.toList i=some c∧Q (.str ⟨#[c]⟩) H
theorem zlI:IxR X (rIxL X.K):=by
 intro value slice pins s σ H x y v u Q I rx ry h hs
 obtain ⟨p,xs,i,z,rfl,rfl,hq,he,q⟩:=h
 cases rx
 obtain ⟨t,rfl⟩:=ry
 obtain ⟨its,r,pl,hz⟩:=I.list hq
 obtain ⟨j,h1,h2,h3,h4,h5⟩:=atI_get he
 obtain ⟨w,ew,rw'⟩:=r.get h2
 have hl:=r.length
 have hn:=zgQ
 have fin:EP X pins σ Q w s:=⟨z,H,I,rw',q⟩
 by_cases h0:0≤i
 ·have hj:i.toNat=j:=by
   rw [seqIndex_of h0 h5] at h1
   exact Option.some.inj h1
  exact item_listR pl.isList h0 (by omega) (by rw [hj];simpa using ew) fin hs
 ·have hj:(i+(its.toArray.size:Int)).toNat=j:=by
   rw [seqIndex_neg (by omega) h4] at h1
   rw [List.size_toArray,←hl]
   exact Option.some.inj h1
  exact subscriptTail_builtinR (x:=w) pl.isList.typeIs slot_list_getitem.lookup
   (wpAny_getItem_list_neg (Q:=fun r s'=>r=w∧EP X pins σ Q r s') pl.isList (by omega) (by rw [List.size_toArray]<;>omega) (by omega) (by rw [hj];simpa using ew) ⟨rfl,fin⟩) hs
theorem znw:IxR X (rIxT X.K):=by
 intro value slice pins s σ H x y v u Q I rx ry h hs
 obtain ⟨p,xs,i,z,rfl,rfl,hq,he,q⟩:=h
 cases rx
 obtain ⟨t,rfl⟩:=ry
 obtain ⟨its,r,pl,hz⟩:=I.tuple hq
 obtain ⟨j,h1,h2,h3,h4,h5⟩:=atI_get he
 obtain ⟨w,ew,rw'⟩:=r.get h2
 have hl:=r.length
 have hn:=zgQ
 have fin:EP X pins σ Q w s:=⟨z,H,I,rw',q⟩
 exact subscriptTail_builtinR (x:=w) pl.typeIs slot_tuple_getitem.lookup
  (getItem_tuple (j:=j) (Q:=fun r s'=>r=w∧EP X pins σ Q r s') pl (by omega) (by omega) (by rw [List.size_toArray,←hl];exact h1) (by simpa using ew) ⟨rfl,fin⟩) hs
theorem znx:IxR X rIxS:=by
 intro value slice pins s σ H x y v u Q I rx ry h hs
 obtain ⟨z,i,c,rfl,rfl,hz,he,q⟩:=h
 obtain ⟨t,rfl⟩:=rx
 obtain ⟨t',rfl⟩:=ry
 obtain ⟨j,h1,h2,h3,h4,h5⟩:=atI_get he
 have hl:z.cps.toList.length=z.length:=by simp [Str.length]
 rw [hl] at h1 h4 h5
 have hn:=zgQ
 exact tail_any (typeIs_str s z t) slot_str_getitem.lookup (getItem_str (c:=c) (by
  have e1:decide (i < -(2 ^ 63:Int))=false:=decide_eq_false (by omega)
  have e2:decide (i≥2 ^ 63)=false:=decide_eq_false (by omega)
  rw [e1,e2,Bool.or_false]) (by rw [h1];simpa using h2) ⟨.str ⟨#[c]⟩,H,I.tok _,⟨_,rfl⟩,q⟩) hs
def rIx (K:PySem.W.Frag):R2:=fun x y H Q=>rIxL K x y H Q∨rIxT K x y H Q∨rIxS x y H Q
theorem zny:IxR X (rIx X.K):=zlI.or (znw.or znx)
theorem zfE (lo hi:Option Int) (n:Nat):(sliceBounds lo hi none n).1=((HT.sIx n 0 lo:Nat):Int)∧(sliceBounds lo hi none n).2.1=((HT.sIx n n hi:Nat):Int)∧(sliceBounds lo hi none n).2.2=1:=by
 refine ⟨?_,?_,rfl⟩
 ·cases lo with
  | none=>simp [sliceBounds,HT.sIx]
  | some i =>
   simp only [sliceBounds,HT.sIx,Option.getD_none,show (1:Int)>0 by decide,if_true]
   by_cases h:i<0
   ·simp only [h,if_true]<;>omega
   ·simp only [h,if_false]<;>omega
 ·cases hi with
  | none=>simp [sliceBounds,HT.sIx]
  | some i =>
   simp only [sliceBounds,HT.sIx,Option.getD_none,show (1:Int)>0 by decide,if_true]
   by_cases h:i<0
   ·simp only [h,if_true]<;>omega
   ·simp only [h,if_false]<;>omega
theorem ze8 (its:List Value) (lo hi:Option Int):slicePick its.toArray lo hi none=((its.drop (HT.sIx its.length 0 lo)).take (HT.sIx its.length its.length hi-HT.sIx its.length 0 lo)).toArray:=by
 obtain ⟨h1,h2,h3⟩:=zfE lo hi its.toArray.size
 unfold slicePick
 rw [h1,h2,h3]
 simp only [sliceRange_one,pick_run,List.size_toArray]<;>rfl
def rSlL (K:PySem.W.Frag):V→Option Int→Option Int→Hp→VK→Prop:=fun x lo hi H Q=>∃a xs,x=.ref a∧SqL K H a xs∧∀p,H p=none→Q (.ref p) (upd H p (.lst (cutV xs lo hi)))
theorem zlJ:SlR X (rSlL X.K):=by
 intro pins s σ H x v vl vu lo hi sl Q I rx hs pl pu h
 obtain ⟨a,xs,rfl,hx,q⟩:=h
 cases rx
 obtain ⟨its,r,ht,hz⟩:=I.list hx
 have hlen:=r.length
 refine ⟨"list", _,slot_list_getitem.lookup,ht.isList.typeIs,?_⟩
 refine wpAny_getItem_list_slice ht.isList hs pl pu .none (by simp) ?_ (by rw [List.size_toArray]<;>omega)
 rw [ze8,←hlen]
 refine ⟨.ref s.heap.objs.size,_,I.laid (t':=s.toks) (o:=.lst (cutV xs lo hi)) (fun b ob q=>Heap.get?_push_of_some _ q) (Nat.le_refl _) ?_,rfl,q _ (I.hok.fresh (Nat.le_refl _))⟩
 exact ⟨Nat.le_trans (zep xs lo hi) hz,_,0,(r.drop (HT.sIx xs.length 0 lo)).take (HT.sIx xs.length xs.length hi-HT.sIx xs.length 0 lo),Heap.get?_push_size _ rfl⟩
theorem zfF:CallR X (.type "list") (fun xs H Q=>∃p ys,xs=[.ref p]∧(SqL X.K H p ys∨SqT X.K H p ys)∧∀l,H l=none→Q (.ref l) (upd H l (.lst ys))):=by
 intro pins s σ H xs us Q I r h
 obtain ⟨p,ys,rfl,hq,q⟩:=h
 obtain ⟨u,rfl,rx⟩:=zgq r
 cases rx
 have fin:∀(its:List Value),Vals ys its→ys.length≤sizeLine→∀(h':Heap) (c':Nat),(∀b o',s.heap.get? b=some o'→h'.get? b=some o') →
   h'.get? s.heap.objs.size=some { cls:=.type "list", dict:=none,data:=.seq its.toArray c',slots:=#[] }→EP X pins σ Q (.ref s.heap.objs.size) { s with heap:=h' }:=fun its r' hz h' c' kp e =>
  ⟨.ref s.heap.objs.size,_,I.laid (t':=s.toks) kp (Nat.le_refl _) (show ObjOk X.prog X.w _ h' _ (.lst ys) from ⟨hz,its,c',r',e⟩),rfl,q _ (I.hok.fresh (Nat.le_refl _))⟩
 rcases hq with hq|hq
 ·obtain ⟨its,r',pl,hz⟩:=I.list hq
  have hlen:=r'.length
  obtain ⟨o,ho,hc,n,hd⟩:=pl.isList
  exact call_list_seq p (.inl rfl) ho hc hd (fun h' c' kp e=>fin its r' hz h' c' kp e) (by simp only [List.size_toArray]<;>omega)
 ·obtain ⟨its,r',pl,hz⟩:=I.tuple hq
  have hlen:=r'.length
  obtain ⟨o,ho,hc,n,hd⟩:=pl
  exact call_list_seq p (.inr rfl) ho hc hd (fun h' c' kp e=>fin its r' hz h' c' kp e) (by simp only [List.size_toArray]<;>omega)
theorem ze9:CallR X (.type "tuple") (fun xs H Q=>∃p ys,xs=[.ref p]∧((SqL X.K H p ys∧∀l,H l=none→Q (.ref l) (upd H l (.tup ys)))∨(SqT X.K H p ys∧Q (.ref p) H))):=by
 intro pins s σ H xs us Q I r h
 obtain ⟨p,ys,rfl,h⟩:=h
 obtain ⟨u,rfl,rx⟩:=zgq r
 cases rx
 rcases h with ⟨hq,q⟩|⟨hq,q⟩
 ·obtain ⟨its,r',pl,hz⟩:=I.list hq
  have hlen:=r'.length
  refine call_tuple_list pl.isList (fun h' kp=>?_) (by simp only [List.size_toArray]<;>omega)
  have I1:Inv X pins σ H { s with heap:=h' }:=I.kept (t':=s.toks) kp
  have I2:Inv X pins σ (upd H h'.objs.size (.tup ys)) { s with heap:=h'.push { cls:=.type "tuple", data:=.seq its.toArray } } :=
   I1.laid (t':=s.toks) (fun b o e=>Heap.get?_push_of_some _ e) (Nat.le_refl _) (show ObjOk X.prog X.w _ _ _ (.tup ys) from ⟨hz,its,r',IsTup.new _ _⟩)
  exact ⟨.ref h'.objs.size,_,I2,rfl,q _ (I1.hok.fresh (Nat.le_refl _))⟩
 ·obtain ⟨its,r',pl,hz⟩:=I.tuple hq
  exact call_tuple_same pl ⟨.ref p,H,I,rfl,q⟩
def tyV (K:PySem.W.Frag) (T:String) (x:V) (H:Hp):Prop:=match x with
 | .str _=>T = "str"
 | .int _=>T = "int"
 | .ref p=>(T = "list" ∧ ∃xs,SqL K H p xs)∨(T = "tuple" ∧ ∃o,K.lookup p=some o∧o.cls=.type "tuple" ∧ o.dict=none) ∨
   (T = "dict" ∧ ((∃kvs,H p=some (.dK kvs))∨∃kvs,H p=some (.dT kvs)))∨(T = "set" ∧ ∃S n,H p=some (.set S n))
 | _=>False
theorem zgT {pins:List (Addr×Obj)} {σ:St} {H:Hp} {s:Shared} {T:String} {x:V} {v:Value} (I:Inv X pins σ H s) (r:RelV x v) (ty:tyV X.K T x H) :
  s.TypeIs v T∧∀a,v=.ref a→∃ob,s.heap.get? a=some ob∧ob.dict=none:=by
 cases x with
 | str z =>
  obtain ⟨t,rfl⟩:=r
  cases (show T = "str" from ty)
  exact ⟨typeIs_str s z t,fun _ e=>nomatch e⟩
 | int i =>
  obtain ⟨t,rfl⟩:=r
  cases (show T = "int" from ty)
  exact ⟨typeIs_int s i t,fun _ e=>nomatch e⟩
 | ref p =>
  cases r
  rcases ty with ⟨rfl,xs,hq⟩|⟨rfl,o,hk,hc,hd⟩|⟨rfl,hk⟩|⟨rfl,S,n,hk⟩
  ·obtain ⟨its,_,pl,_⟩:=I.list hq
   refine ⟨pl.isList.typeIs,fun a e=>?_⟩
   cases e
   obtain ⟨o,n,e,c,hd,_⟩:=pl
   exact ⟨o,e,hd⟩
  ·refine ⟨⟨o,I.kIn p o hk,hc⟩,fun a e=>?_⟩
   cases e
   exact ⟨o,I.kIn _ o hk,hd⟩
  ·have z:∃o,s.heap.get? p=some o∧o.ExactDict:=by
    rcases hk with ⟨kvs,hk⟩|⟨kvs,hk⟩
    ·obtain ⟨_,_,_,_,o,_,_,e,ex,_⟩:=I.hok p _ hk
     exact ⟨o,e,ex⟩
    ·obtain ⟨_,_,_,_,o,_,_,e,ex,_⟩:=I.hok p _ hk
     exact ⟨o,e,ex⟩
   obtain ⟨o,e,ex⟩:=z
   refine ⟨⟨o,e,ex.1⟩,fun a e2=>?_⟩
   cases e2
   exact ⟨o,e,ex.2.1⟩
  ·obtain ⟨o,_,_,_,e,ex,_⟩:=I.hok p _ hk
   refine ⟨⟨o,e,ex.1⟩,fun a e2=>?_⟩
   cases e2
   exact ⟨o,e,ex.2.1⟩
 | _=>exact False.elim ty
def zqd (K:PySem.W.Frag) (T:String) (r:V→List V→Hp→VK→Prop) (to:TE):TE:=fun σ H Q=>to σ H fun x H1=>tyV K T x H1∧r x [] H1 Q
def tBM (K:PySem.W.Frag) (T:String) (r:V→List V→Hp→VK→Prop) (to:TE) (t:TA):TE:=fun σ H Q=>to σ H fun x H1=>tyV K T x H1∧t σ H1 fun xs H2=>r x xs H2 Q
variable {o e:Expr} {es:List Expr} {to:TE} {t:TA} {name:Str} {apos cpos:Pos} {T id:String} {r:V→List V→Hp→VK→Prop}
theorem zkZ (pa:PlainAttrs T) (slot:Slot T name id) (hty:typeOf (.builtin id)=pure (.type "method_descriptor")) (hm:MtR X id r) (ho:PE X o to)
  (hbase:attributeBase o name X.env (eval o X.env)=eval o X.env:=by rfl) (hline:(apos.endLine==cpos.line)=true:=by rfl):PE X (.Call (.Attribute o name apos) [] [] cpos) (zqd X.K T r to):=by
 intro pins s σ H Q I h
 refine wpAny_Call_method0_late hbase hline (thn (ho pins s σ H _ I h) fun v s1 ⟨x,H1,I1,r1,ty,q1⟩=>?_)
 obtain ⟨h1,h2⟩:=zgT I1 r1 ty
 exact ⟨T,id,pa,slot,hty,h1,h2,Calls.callWith_builtin rfl (PySem.evalArgs_none (hm pins s1 σ H1 x [] v [] Q I1 r1 .nil q1))⟩
theorem znz (pa:PlainAttrs T) (slot:Slot T name id) (hty:typeOf (.builtin id)=pure (.type "method_descriptor")) (hm:MtR X id r) (ho:PE X o to) (ha:PA X (e::es) t)
  (hbase:attributeBase o name X.env (eval o X.env)=eval o X.env:=by rfl)
  (hfew:((backTo cpos (starEach (e::es) X.env)).all (fun x=>!x.1)&&(backToKw cpos (keywordEach [] X.env)).all (fun x=>x.1.isSome)
   && decide ((e::es).length+([]:List Keyword).length+(if ([]:List Keyword).isEmpty then 0 else 1)<30))=true:=by rfl)
  (hline:(apos.endLine==cpos.line)=true:=by rfl) (hs:starEach (e::es) X.env=(false,eval e X.env)::starEach es X.env:=by rfl) (hplain:(backTo cpos (starEach es X.env)).any (·.1)=false:=by rfl) :
  PE X (.Call (.Attribute o name apos) (e::es) [] cpos) (tBM X.K T r to t):=by
 intro pins s σ H Q I h
 refine wpAny_Call_method_late hbase hfew hline rfl (thn (ho pins s σ H _ I h) fun v s1 ⟨x,H1,I1,r1,ty,q1⟩=>?_)
 obtain ⟨h1,h2⟩:=zgT I1 r1 ty
 refine ⟨T,id,pa,slot,hty,h1,h2,?_⟩
 have hA:=ha cpos pins s1 σ H1 _ I1 q1
 rw [hs] at hA ⊢
 refine Calls.callWith_builtin (by show (false||(backTo cpos (starEach es X.env)).any (·.1))=false;rw [hplain]<;>rfl) (Calls.evalArgs_plain ?_)
 exact thn hA fun us s2 ⟨vs,H2,I2,r2,q2⟩=>hm pins s2 σ H2 x vs v us Q I2 r1 r2 q2
end
end L2
namespace L2
open PySem PySem.Spec PyProof.Rows
def MtM (X:Cx) (id:String) (r:V→List V→Hp→VK→Prop):Prop :=
 ∀(pins:List (Addr×Obj)) (s:Shared) (σ:St) (H:Hp) (x:V) (xs:List V) (v:Value) (us:List Value) (Q:VK),Inv X pins σ H s→RelV x v→Vals xs us→r x xs H Q →
  wpAny (model X.prog X.w) X.A (call (.builtin id) (v::us)) (EP X pins σ Q) X.xe s
theorem Vals.one:∀{x:V} {us:List Value},Vals [x] us→∃u,us=[u]∧RelV x u
 | _,_,.cons r .nil=>⟨_,rfl,r⟩
theorem Vals.zero:∀{us:List Value},Vals [] us→us=[]
 | _,.nil=>rfl
theorem Vals.dropLast {xs:List V} {us:List Value} (h:Vals xs us):Vals xs.dropLast us.dropLast:=by
 induction h with
 | nil=>exact .nil
 | cons r t ih =>
  cases t with
  | nil=>exact .nil
  | cons q t'=>exact .cons r ih
theorem zhH {α:Type} (l:List α):l.eraseIdx (l.length-1)=l.dropLast:=by
 induction l with
 | nil=>rfl
 | cons a r ih =>
  cases r with
  | nil=>rfl
  | cons b r =>
   have e:(a::b::r).length-1=((b::r).length-1)+1:=by
    have h1:(a::b::r).length=r.length+2:=rfl
    have h2:(b::r).length=r.length+1:=rfl
    omega
   rw [e,List.eraseIdx_cons_succ,ih]
   all_goals rfl
section
variable {X:Cx} {pins:List (Addr×Obj)} {σ:St} {H:Hp} {s:Shared} {l b:Addr} {xs ys zs:List V}
theorem Inv.lset {its its':List Value} {n:Nat} {f:Array Value→Array Value} {t':Nat} (I:Inv X pins σ H s) (hH:H l=some (.lst xs))
  (e:s.heap.get? l=some { cls:=.type "list", data:=.seq its.toArray n }) (hf:f its.toArray=its'.toArray) (hv:Vals ys its') (hz:ys.length≤sizeLine) :
  Inv X pins σ (upd H l (.lst ys)) { s with heap:=s.heap.update l (Obj.mapSeq f),toks:=t' }:=by
 have q:=PySem.IsL.update e f
 rw [hf] at q
 refine I.write (x:=l) (e:=l) (by rw [hH];exact trivial) (.inl rfl) (fun b' u hb hu=>(Heap.get?_update_other s.heap (Obj.mapSeq f) (Ne.symm hb)).trans hu) ⟨_,q⟩ ?_
 exact ⟨hz,its',_,hv,q⟩
theorem Inv.lnew {its:List Value} {t':Nat} (I:Inv X pins σ H s) (hv:Vals ys its) (hz:ys.length≤sizeLine) :
  Inv X pins σ (upd H s.heap.objs.size (.lst ys)) { s with heap:=s.heap.push { cls:=.type "list", data:=.seq its.toArray },toks:=t' } :=
 I.laid (fun _ _ q=>Heap.get?_push_of_some _ q) (Nat.le_refl _) ⟨hz,its,0,hv,Heap.get?_push_size _ rfl⟩
theorem Inv.fresh (I:Inv X pins σ H s):H s.heap.objs.size=none:=I.hok.fresh (Nat.le_refl _)
theorem Inv.lstM (I:Inv X pins σ H s) (hH:H l=some (.lst xs)):xs.length≤sizeLine∧∃(its:List Value) (n:Nat),Vals xs its∧xs.length=its.length∧s.heap.get? l=some { cls:=.type "list", data:=.seq its.toArray n }:=by
 obtain ⟨z,its,n,r,e⟩:=I.hok l _ hH
 exact ⟨z,its,n,r,r.length,e⟩
theorem notLongL {n:Nat} (h:n≤sizeLine):Builtin.List.listTooLong n=false:=by
 unfold Builtin.List.listTooLong
 exact decide_eq_false (by omega)
end
section
variable {X:Cx}
def rAppend:V→List V→Hp→VK→Prop:=fun x vs H Q=>∃l xs y,x=.ref l∧vs=[y]∧H l=some (.lst xs)∧xs.length<sizeLine∧Q .non (upd H l (.lst (xs++[y])))
theorem zik:MtM X "list.append" rAppend:=by
 intro pins s σ H x vs v us Q I rx rv h
 obtain ⟨l,xs,y,rfl,rfl,hH,hz,q⟩:=h
 cases rx
 obtain ⟨u,rfl,ru⟩:=rv.one
 obtain ⟨z,its,n,r,hl,e⟩:=I.lstM hH
 refine call_meets F.slot_list_append ⟨_,e,rfl⟩ F.entry_list_append (F.args_list_append_2 _ _) (PySem.list_append l its.toArray n u (by rw [List.size_toArray];omega)) ⟨e,?_⟩
 refine ⟨.non,_,I.lset (its':=its++[u]) hH e (by simp) (r.append (.cons ru .nil)) ?_,rfl,q⟩
 rw [List.length_append,List.length_singleton]
 omega
def rExtend:V→List V→Hp→VK→Prop:=fun x vs H Q=>∃l b xs zs,x=.ref l∧vs=[.ref b]∧H l=some (.lst xs)∧H b=some (.lst zs)∧xs.length+zs.length≤sizeLine∧Q .non (upd H l (.lst (xs++zs)))
theorem zil:MtM X "list.extend" rExtend:=by
 intro pins s σ H x vs v us Q I rx rv h
 obtain ⟨l,b,xs,zs,rfl,rfl,hH,hB,hz,q⟩:=h
 cases rx
 obtain ⟨u,rfl,ru⟩:=rv.one
 cases ru
 obtain ⟨z,its,n,r,hl,e⟩:=I.lstM hH
 obtain ⟨z2,its2,n2,r2,hl2,e2⟩:=I.lstM hB
 have hsz:its.toArray.size+its2.toArray.size≤sizeLine:=by rw [List.size_toArray,List.size_toArray];omega
 have hlong:¬(!its.toArray.isEmpty&&Builtin.List.listTooLong (its.toArray.size+its2.toArray.size))=true:=by
  rw [notLongL hsz,Bool.and_false]
  exact Bool.false_ne_true
 refine call_meets F.slot_list_extend ⟨_,e,rfl⟩ F.entry_list_extend (F.args_list_extend_2 _ _)
  (AutoSeq1.list_extend_list_list_0 l its.toArray n b its2.toArray n2 hlong (by rw [List.size_toArray];omega) (by omega)) ⟨e,e2,?_⟩
 refine ⟨.non,_,I.lset (its':=its++its2) hH e (by simp) (r.append r2) ?_,rfl,q⟩
 rw [List.length_append]
 omega
def rPop:V→List V→Hp→VK→Prop:=fun x vs H Q=>∃l xs y,x=.ref l∧vs=[]∧H l=some (.lst xs)∧xs[xs.length-1]?=some y∧Q y (upd H l (.lst xs.dropLast))
theorem znA:MtM X "list.pop" rPop:=by
 intro pins s σ H x vs v us Q I rx rv h
 obtain ⟨l,xs,y,rfl,rfl,hH,hy,q⟩:=h
 cases rx
 have hus:=rv.zero
 subst hus
 obtain ⟨z,its,n,r,hl,e⟩:=I.lstM hH
 obtain ⟨u,hu,ru⟩:=r.get hy
 have hy':its.toArray[its.toArray.size-1]?=some u:=by
  show its.toArray[its.length-1]?=some u
  rw [←Array.getElem?_toList,←hl]
  exact hu
 refine call_meets F.slot_list_pop ⟨_,e,rfl⟩ F.entry_list_pop (F.args_list_pop_1 _) (MeetsSeq.list_pop_last l its.toArray n u hy' (by rw [List.size_toArray];omega)) ⟨e,?_⟩
 refine ⟨y,_,I.lset (its':=its.dropLast) hH e ?_ r.dropLast ?_,ru,q⟩
 ·show its.toArray.eraseIdxIfInBounds (its.toArray.size-1)=its.dropLast.toArray
  rw [List.size_toArray,List.eraseIdxIfInBounds_toArray,zhH]
 ·rw [List.length_dropLast]
  omega
def rCat:R2:=fun x y H Q=>∃l b xs zs,x=.ref l∧y=.ref b∧H l=some (.lst xs)∧H b=some (.lst zs)∧xs.length+zs.length≤sizeLine∧∀p,H p=none→Q (.ref p) (upd H p (.lst (xs++zs)))
theorem znB:OpR X (binaryOp .Add) rCat:=by
 intro pins s σ H x y v u Q I rx ry h
 obtain ⟨l,b,xs,zs,rfl,rfl,hH,hB,hz,q⟩:=h
 cases rx
 cases ry
 obtain ⟨z,its,n,r,hl,e⟩:=I.lstM hH
 obtain ⟨z2,its2,n2,r2,hl2,e2⟩:=I.lstM hB
 refine PySem.P.add_list e e2 ?_ (by rw [List.size_toArray,List.size_toArray];omega)
 have ea:its.toArray++its2.toArray=(its++its2).toArray:=by simp
 rw [ea]
 exact ⟨.ref _,_,I.lnew (t':=s.toks) (r.append r2) (by rw [List.length_append];omega),rfl,q _ I.fresh⟩
end
section
variable {prog:Program} {w:World} {A:Around} {E:Value→Shared→Prop} {s:Shared}
end
section
variable {X:Cx}
end
end L2
namespace Att
open PySem PySem.W PySem.Calls PyProof.Rows
theorem zeq {P:Params} {h:Heap}:∀(ns:List Int) (vs:List Value),WellAll P h vs (ns.map WData.int)→IntsAre vs ns:=by
 intro ns
 induction ns with
 | nil =>
  intro vs w
  rw [List.map_nil] at w
  cases w
  exact .nil
 | cons n ns ih =>
  intro vs w
  rw [List.map_cons] at w
  cases w with
  | cons a b =>
   cases a
   exact .cons _ _ (ih _ b)
theorem zim {l:OpenLaw} {n:Nat} (hn:l.most=some n) {P:Params} {h:Heap} {args:List WData} {vals:List Value}
  (hpre:l.row.toRowW.claim.pre args=true) (hwl:WellAll P h vals args) :
  ∃a vs ns,vals=[Value.ref a]∧args=[WData.list (ns.map WData.int)]∧h.get? a=some { cls:=.type "list", data:=.seq vs.toArray }∧IntsAre vs ns∧ns.length≤n:=by
 have hsh:WShape.hasAll [] args [.list .int]=true:=(pre_splitW hpre).1
 have hc:l.pre.holds [] { args:=args }=true:=(pre_splitW hpre).2
 obtain ⟨d,r,rfl,h1,h2⟩:=hasAllW_cons hsh
 obtain rfl:=hasAllW_nil h2
 obtain ⟨xs,rfl,h3⟩:=hasW_list h1
 obtain ⟨ns,rfl⟩:=items_int h3
 have hlen:ns.length≤n:=by
  unfold OpenLaw.pre at hc
  have h4:(WTm.not (.lt (.lit (.int (n:Int))) (.len (.arg 0)))).holds [] { args:=[.list (ns.map .int)] }=true:=by
   have h4:=(holds_andW hc).1
   rw [hn] at h4
   exact h4
  have h5:=condW_of h4 (w_not (w_lt w_lit (w_len_list (w_arg rfl))))
  rw [List.length_map] at h5
  refine Nat.le_of_not_lt fun q=>?_
  have q':(n:Int)<((ns.length:Nat):Int):=by omega
  first
   | (rw [decide_eq_true q'] at h5;exact absurd h5 (by decide))
   | (simp at h5;omega)
 cases hwl with
 | cons w1 w2 =>
  cases w2
  cases w1 with
  | list ho hall=>exact ⟨_,_,ns,rfl,rfl,ho,zeq ns _ hall,hlen⟩
theorem zin (l:OpenLaw) (args:List WData):l.row.toRowW.claim.post args (.bool true) args=true :=
 postW_of (r:=l.row.toRowW) (X:=(true==true))
  (show WShape.has [] (.bool true) .bool=true by first|rfl|decide|simp [WShape.has,WShape.arms,WShape.armsAll])
  (show (WTm.eq .res (.lit (.bool true))).value [] { args:=args,res:=some (.bool true),after:=args }=some (.bool (true==true)) from w_eq_bool (w_res rfl) w_lit) rfl
theorem attach_call {l:OpenLaw} {n:Nat} {q:Program} {loose:List Str} {XP:(Str→Option Value)→Heap→Prop} {YP:World→Heap→Prop} {d:DefRec}
  (hn:l.most=some n) (hdf:d.params.defaults=[])
  (call:∀(w:World) (s₀ s₁:Shared) (mg mb:Str→Option Value) (fa:Addr) (o:Obj) (pm cd doc:Value) (a:Addr) (vs:List Value) (ns:List Int),
   Ground q loose [] XP w s₀ mg mb s₁.heap→YP w s₁.heap →
   s₁.heap.get? fa=some o→o.data=.func (docDef d.name d.params d.body d.scope pm cd doc)→s₁.heap.CodeRec cd d.name→mg d.name=some (.ref fa) →
   s₁.heap.get? a=some { cls:=.type "list", data:=.seq vs.toArray }→IntsAre vs ns→ns.length≤n→s₁.gens=#[] →
   codeAny (model l.prog w) callerA (.call (.ref fa) ⟨[.ref a],[]⟩) (fun r s'=>r=.ok (.ret (.bool true))∧OldK s₁.heap s'.heap∧s'.os=s₁.os∧AllBare s'.gens) s₁) :
  WalkO q loose XP YP l.row.toRowW d [] (fun f vs=>PySem.call f vs):=by
 intro w s₀ s₁ mg mb G Y fa o pm cd doc dV kV ho hd hcd hD hmg hg args vals as hpre hlay hrd hwl hlo
 obtain rfl:dV=.none:=Dflts.none hD hdf
 obtain rfl:kV=.none:=Dflts.noKw hD
 obtain ⟨a,vs,ns,rfl,rfl,hobj,hints,hlen⟩:=zim hn hpre hwl
 refine enter_call (codeAny_mono (call w s₀ s₁ mg mb fa o pm cd doc a vs ns G Y ho (fd_plain hd) hcd hmg hobj hints hlen hg) fun r s' hq=>?_)
 obtain ⟨rfl,h2,h3,h4⟩:=hq
 exact ⟨.inl ⟨.bool true,.bool true,[],rfl,fun _=>rfl,.bool true,zin l _,fun _=>⟨List.Pairwise.nil,fun _ hm=>(nomatch hm)⟩⟩,h2,h3,h4⟩
section
variable {prog:Program} {w:World} {A:Around} {E:Value→Shared→Prop} {s:Shared} {K:Frag}
end
end Att
namespace L2
open PySem PySem.Spec PyProof.Rows
theorem zfG:∀{vs:List Value} {ns:List Int},IntsAre vs ns→Vals (ns.map V.int) vs
 | _,_,.nil=>.nil
 | _,_,.cons n t h=>.cons ⟨t,rfl⟩ (zfG h)
def Only (H:Hp):Prop:=∀b,H b=none∨∃o xs,H b=some (.frz o (.lst xs))
theorem zj3 {P:Program} {w:World} {K:PySem.W.Frag} {mg mb:Str→Option Value} {CX:CXT} {k:Nat} {fa a:Addr} {fd:FuncData} {x:Str} {sp:Sp} {s₁:Shared} {vs:List Value} {ns:List Int}
  (KX:K.In s₁.heap) (hns:s₁.heap.Ns mainGlobals mg) (hb:s₁.heap.Ns builtinsNs mb) (hbb:∀x:Str,x ≠ "__name__" → mb x=bootBuiltins x) (hlim:s₁.heap.NoLimit) (hg:s₁.gens=#[])
  (ha:s₁.heap.get? a=some { cls:=.type "list", data:=.seq vs.toArray }) (hi:IntsAre vs ns) (hl:ns.length≤sizeLine) (hr:Room k callerA)
  (F:∀base:Heap,K.In base→base.Ns mainGlobals mg→FnOk P w K mg base CX k fa fd [x] sp) (hbind:∀(s:Shared) (u:Value),BindsTo s fd ⟨[u],[]⟩ [(x,u)])
  (hsp:∀H:Hp,Only H→SqL K H a (ns.map V.int)→sp [.ref a] H (fun v _=>v=.bl true) fun _ _ _=>False)
  (hCX:∀H e s',CX [] H s₁ (fun _ _ _=>False) e s'→False) :
  codeAny (model P w) callerA (.call (.ref fa) ⟨[.ref a],[]⟩) (fun r s'=>r=.ok (.ret (.bool true))∧OldK s₁.heap s'.heap∧s'.os=s₁.os∧AllBare s'.gens) s₁:=by
 have rv:=zfG hi
 have lenV:=hi.length
 have core:∀H:Hp,Only H→SqL K H a (ns.map V.int)→HOk P w H s₁.heap→(∀b,H b≠none→b=a)→(H a≠none→K.lookup a=none) →
   codeAny (model P w) callerA (.call (.ref fa) ⟨[.ref a],[]⟩) (fun r s'=>r=.ok (.ret (.bool true))∧OldK s₁.heap s'.heap∧s'.os=s₁.os∧AllBare s'.gens) s₁:=by
  intro H hO hS hok hA hK
  have base_of:∀{b:Addr} {o:Obj},s₁.heap.get? b=some o→H b=none→(hidT s₁.heap H).get? b=some o:=fun e n=>zjO e n
  have noA:∀{b:Addr} {o:Obj} {es:Array DictEntry} {ep:Nat},s₁.heap.get? b=some o→o.data=.dict es ep→H b=none:=fun {b o es ep} e d=>by
   cases q:H b with
   | none=>rfl
   | some u =>
    have e':b=a:=hA b (by rw [q];simp)
    subst e'
    rw [ha] at e;cases e
    have d':Data.seq vs.toArray _=Data.dict es ep:=d
    cases d'
  have nsK:∀{b:Addr} {m:Str→Option Value},s₁.heap.Ns b m→(hidT s₁.heap H).Ns b m:=fun {b m} ⟨o,es,ep,e,d,r⟩=>⟨o,es,ep,base_of e (noA e d),d,r⟩
  have hKb:K.In (hidT s₁.heap H):=fun b o e=>base_of (KX b o e) (by
   cases q:H b with
   | none=>rfl
   | some u =>
    have e':b=a:=hA b (by rw [q];simp)
    subst e'
    rw [hK (by rw [q];simp)] at e;cases e)
  have hM:Mod K mg (hidT s₁.heap H):=⟨hKb,nsK hns,⟨mb,nsK hb,hbb⟩,let ⟨mc,h1,h2⟩:=hlim;⟨mc,nsK h1,h2⟩⟩
  have e0:Env0 P w K mg (hidT s₁.heap H) callerA [] s₁ H:=⟨rfl,hM,fun b o e=>zls e,Nat.le_of_eq (zh2 _ _),trivial,fun b hb=>absurd (show b∈([]:List Addr) from hb) (by simp),hok,.of_eq hg⟩
  refine codeAny_mono ((F _ hKb (nsK hns)).run callerA [] s₁ H ⟨[.ref a],[]⟩ [.ref a] [.ref a] _ _ hr e0 (hbind s₁ (.ref a)) (.cons rfl .nil) (hsp H hO hS)) fun r s' h=>?_
  cases r with
  | error e=>exact (hCX H e s' h).elim
  | ok fl =>
   cases fl with
   | next=>exact False.elim h
   | brk=>exact False.elim h
   | cont=>exact False.elim h
   | ret u =>
    obtain ⟨v,H',os,bare,un,hok',r',q⟩:=h
    have q':v=.bl true:=q
    subst q'
    obtain rfl:u=Value.bool true:=r'
    refine ⟨rfl,OldK.of_keep fun b o e=>?_,os,bare⟩
    cases q:H b with
    | none=>exact un.keep b o e q (by intro z;exact absurd (show b∈([]:List Addr) from z) (by simp)) (by simp)
    | some u =>
     rcases hO b with z|⟨ob,xs,z⟩
     ·rw [q] at z;cases z
     ·have z2:=un.frzs b ob _ z
      obtain ⟨e1,_⟩:=hok b _ z
      obtain ⟨e2,_⟩:=hok' b _ z2
      rw [e] at e1;cases e1
      exact e2
 cases hk:K.lookup a with
 | some o =>
  have e:=KX a o hk
  rw [ha] at e
  cases e
  refine core (fun _=>none) (fun _=>.inl rfl) (.inr ⟨_,vs.toArray,_,hk,rfl,rfl,rfl,by rw [List.size_toArray,lenV];exact hl,by simpa using rv⟩) (fun b u z=>by have z':(none:Option HO)=some u:=z;cases z') (fun b z=>absurd rfl z) fun z=>absurd rfl z
 | none =>
  refine core (fun b=>if b=a then some (.frz { cls:=.type "list", data:=.seq vs.toArray } (.lst (ns.map V.int))) else none) (fun b=>?_) (.inl (.inr ⟨{ cls:=.type "list", data:=.seq vs.toArray },if_pos rfl⟩)) (fun b u z=>?_) (fun b z=>?_) fun _=>hk
  ·by_cases hb:b=a
   ·exact .inr ⟨_,_,if_pos hb⟩
   ·exact .inl (if_neg hb)
  ·by_cases hb:b=a
   ·have z':=(if_pos hb).symm.trans z
    cases z'
    subst hb
    exact ⟨ha,by rw [List.length_map];exact hl,vs,_,rv,ha⟩
   ·have z':=(if_neg hb).symm.trans z
    cases z'
  ·by_cases hb:b=a
   ·exact hb
   ·exact absurd (if_neg hb) z
end L2
namespace L2
open PySem PySem.Spec PyProof.Rows
abbrev KOf {K:PySem.W.Frag} {h:Heap} (_:K.In h):PySem.W.Frag:=K
theorem zlK {l:PySem.W.OpenLaw} {n k:Nat} {q:Program} {loose:List Str} {XP:(Str→Option Value)→Heap→Prop} {YP:World→Heap→Prop} {d:DefRec} {K:Params→PySem.W.Frag} {CX:World→CXT} {sp:World→Sp} {x:Str}
  (hn:l.most=some n) (hn2:n≤sizeLine) (hdf:d.params.defaults=[]) (hr:Room k callerA)
  (hY:∀(w:World) (h:Heap),YP w h→(K w.params).In h)
  (F:∀(w:World) (mg:Str→Option Value) (fa:Addr) (h:Heap),(K w.params).In h→h.Ns mainGlobals mg→mg d.name=some (.ref fa) →
   ∃fd:FuncData,(∀(s:Shared) (u:Value),BindsTo s fd ⟨[u],[]⟩ [(x,u)]) ∧
    ∀base:Heap,(K w.params).In base→base.Ns mainGlobals mg→FnOk l.prog w (K w.params) mg base (CX w) k fa fd [x] (sp w))
  (hsp:∀(w:World) (H:Hp) (a:Addr) (ns:List Int),ns.length≤n→Only H→SqL (K w.params) H a (ns.map V.int)→sp w [.ref a] H (fun v _=>v=.bl true) fun _ _ _=>False)
  (hCX:∀(w:World) (H:Hp) (s:Shared) (e:Value) (s':Shared),CX w [] H s (fun _ _ _=>False) e s'→False) :
  PySem.W.WalkO q loose XP YP l.row.toRowW d [] (fun f vs=>PySem.call f vs):=by
 refine Att.attach_call hn hdf fun w s₀ s₁ mg mb fa o pm cd doc a vs ns G Y ho hd hcd hmg hobj hints hlen hg=>?_
 have KX:=hY w _ Y
 obtain ⟨fd,hb,hF⟩:=F w mg fa _ KX G.T.g hmg
 exact zj3 KX G.T.g G.T.b G.T.builtins G.T.nolimit hg hobj hints (Nat.le_trans hlen hn2) hr hF hb (fun H hO hS=>hsp w H a ns hlen hO hS) fun H e s'=>hCX w H s₁ e s'
end L2
namespace L2
open PySem PySem.Spec PyProof.Rows
def inClass (s:Stmt) (j:Nat):Stmt:=match s with
 | .ClassDef _ _ _ body _ _ _ _ _ _ _=>body.getD j (.Pass ⟨0,0,0,0⟩)
 | _=>.Pass ⟨0,0,0,0⟩
def defArgs (s:Stmt):Arguments:=match s with
 | .FunctionDef _ a _ _ _ _ _ _ _ _=>a
 | _=>{ posonlyargs:=[],args:=[],vararg:=none,kwonlyargs:=[],kw_defaults:=[],kwarg:=none,defaults:=[] }
def defBody (s:Stmt):List Stmt:=match s with
 | .FunctionDef _ _ b _ _ _ _ _ _ _=>b
 | _=>[]
def defScope (s:Stmt):Scope:=match s with
 | .FunctionDef _ _ _ _ _ _ sc _ _ _=>sc
 | _=>{ kind:=.function,names:=[],isGenerator:=false,isCoroutine:=false }
abbrev CX0:CXT:=fun _ _ _ _ _ _=>False
abbrev E0:XK:=fun _ _ _=>False
structure Fun (K:PySem.W.Frag) (x qual:Str) (st:Stmt) (f:Addr) (fd:FuncData):Prop where
 ex:∃(oc:Value) (od:Option Addr) (kV doc pm:Value) (an:Option Addr) (cdv ct:Value) (osl:Array (Option Value)),
  fd=PySem.W.fnOf x qual (defArgs st) (defBody st) (defScope st) .none kV doc pm an cdv ct∧K.lookup f=some ⟨oc,od,.func fd,osl⟩∧PySem.W.codeIn K cdv qual=true
 kp:PySem.W.keepIn K (.ref f)=true
section
variable {P:Program} {w:World} {K:PySem.W.Frag} {mg:Str→Option Value} {base:Heap}
theorem Fun.ok {x qual:Str} {st:Stmt} {f:Addr} {fd:FuncData} {N ps:List Str} {k:Nat} {sp:Sp} (F:Fun K x qual st f fd) (S:FnScope N ps (defScope st)) (len:∀vs H Q E,sp vs H Q E→vs.length=ps.length)
  (hbody:∀(cdv:Value) (A:Around) (outer:List Env) (s:Shared) (H:Hp) (vs:List V) (Q:VK) (E:XK),Room k (A.deeper (envOfC qual (defScope st) s.heap.objs.size f cdv))→sp vs H Q E →
   ∃t,PSs (cxOf CX0 P w K mg base N qual (defScope st) f cdv A outer s H E).nox (defBody st) t∧t { nx:=fun _ H'=>Q .non H',rt:=Q } (start N vs) H):FnOk P w K mg base CX0 (k+1) f fd ps sp:=by
 obtain ⟨oc,od,kV,doc,pm,an,cdv,ct,osl,rfl,lk,hcd⟩:=F.ex
 refine zns lk hcd S len fun A outer s H vs Q E hr hsp=>?_
 obtain ⟨t,h,q⟩:=hbody cdv A outer s H vs Q E hr hsp
 exact ⟨t,h.nox,q⟩
theorem Fun.binds {x qual:Str} {st:Stmt} {f:Addr} {fd:FuncData} {ps:List Str} (F:Fun K x qual st f fd)
  (h:∀(kV doc pm:Value) (an:Option Addr) (cdv ct:Value) (us:List Value),us.length=ps.length→bindArgs (PySem.W.fnOf x qual (defArgs st) (defBody st) (defScope st) .none kV doc pm an cdv ct) ⟨us,[]⟩=pure (ps.zip us)):Binds K fd ps []:=by
 obtain ⟨oc,od,kV,doc,pm,an,cdv,ct,osl,rfl,lk,hcd⟩:=F.ex
 exact .all (h kV doc pm an cdv ct)
theorem zd4 {x qual:Str} {st:Stmt} {f:Addr} {oc:Value} {od an:Option Addr} {osl:Array (Option Value)} {kV doc pm cdv ct:Value} (l:K.lookup f=some ⟨oc,od,.func (PySem.W.fnOf x qual (defArgs st) (defBody st) (defScope st) .none kV doc pm an cdv ct),osl⟩)
  (c:PySem.W.codeIn K cdv qual=true) (k:PySem.W.keepIn K (.ref f)=true):Fun K x qual st f (PySem.W.fnOf x qual (defArgs st) (defBody st) (defScope st) .none kV doc pm an cdv ct):=⟨⟨oc,od,kV,doc,pm,an,cdv,ct,osl,rfl,l,c⟩,k⟩
end
section
variable {X:Cx}
theorem pv (i:Nat) {x:Str} {pos:Pos} (hN:X.N[i]?=some x:=by rfl) (hv:Vis X.env.scope x:=by first|exact Or.inl rfl|exact Or.inr (Or.inl rfl)|exact Or.inr (Or.inr rfl)) (hd:(x==("__debug__" : Str))=false:=by decide)
  (hcd:(x==("__classdict__" : Str))=false:=by decide):PE X (.Name x pos) (tVar i):=zkX hN hv hd hcd
end
end L2
set_option maxHeartbeats 4000000
namespace L2
open PySem PySem.Spec PyProof.Rows
theorem ar1 {l z D b:Nat} (h1:l<z) (h2:z=D) (h3:D≤b) (h4:b=l):False:=by omega
theorem ar2 {b D C:Nat} (h1:b<D) (h2:C=D+1) (h3:b=C):False:=by omega
theorem ar3 {b e d:Nat} (h1:b<e) (h2:e≤d) (h3:d≤b):False:=by omega
theorem ar4 {b D p:Nat} (h1:b<D) (h2:p=D) (h3:p=b):False:=by omega
theorem zio (env:Env):∀(l:List (Str×NameKind)) (acc:List (Str×Addr)),(∀p∈l,p.2=.free→∃c,env.cells.lookup p.1=some c) →
  ∃cl,(forIn l acc (fun (x:Str×NameKind) (cs:List (Str×Addr))=>if (x.snd==NameKind.free)=true then do
            let a ←cellOf env x.fst
            pure (ForInStep.yield ((x.fst,a)::cs))
      else pure (ForInStep.yield cs)):Sem (List (Str×Addr)))=pure cl ∧
   (∀y c,(y,c)∈cl→(y,c)∈acc∨(env.cells.lookup y=some c∧(y,NameKind.free)∈l))∧(∀p∈acc,p∈cl)∧(∀y,(y,NameKind.free)∈l→∃c,(y,c)∈cl)
 | [],acc,_=>⟨acc,rfl,fun _ _ h=>.inl h,fun _ h=>h,fun _ h=>nomatch h⟩
 | (n,k)::r,acc,hall=>by
  by_cases hk:k=.free
  ·subst hk
   obtain ⟨c,hc⟩:=hall (n,.free) List.mem_cons_self rfl
   obtain ⟨cl,e,h1,h2,h3⟩:=zio env r ((n,c)::acc) fun p hp=>hall p (List.mem_cons_of_mem _ hp)
   refine ⟨cl,?_,fun y d hy=>?_,fun p hp=>h2 p (List.mem_cons_of_mem _ hp),fun y hy=>?_⟩
   ·rw [List.forIn_cons]
    simp only [beq_self_eq_true,if_true]
    have:cellOf env n=pure c:=by unfold cellOf;rw [hc]
    rw [this]
    exact e
   ·rcases h1 y d hy with q|q
    ·rcases List.mem_cons.mp q with q|q
     ·cases q
      exact .inr ⟨hc,List.mem_cons_self⟩
     ·exact .inl q
    ·exact .inr ⟨q.1,List.mem_cons_of_mem _ q.2⟩
   ·rcases List.mem_cons.mp hy with q|q
    ·cases q
     exact ⟨c,h2 _ List.mem_cons_self⟩
    ·exact h3 y q
  ·obtain ⟨cl,e,h1,h2,h3⟩:=zio env r acc fun p hp=>hall p (List.mem_cons_of_mem _ hp)
   refine ⟨cl,?_,fun y d hy=>?_,h2,fun y hy=>?_⟩
   ·rw [List.forIn_cons]
    have:(k==NameKind.free)=false:=by simpa using hk
    simp only [this,Bool.false_eq_true,if_false]
    exact e
   ·rcases h1 y d hy with q|q
    ·exact .inl q
    ·exact .inr ⟨q.1,List.mem_cons_of_mem _ q.2⟩
   ·rcases List.mem_cons.mp hy with q|q
    ·cases q
     exact absurd rfl hk
    ·exact h3 y q
theorem zer {β:Type} {y:Str}:∀{l:List (Str×β)} {c:β},(y,c)∈l→∃d,l.lookup y=some d
 | (n,b)::r,c,h=>by
  rw [List.lookup_cons]
  cases e:y==n with
  | true=>exact ⟨b,rfl⟩
  | false =>
   rcases List.mem_cons.mp h with q|q
   ·cases q
    simp at e
   ·exact zer q
theorem zk0 (env:Env) (scope:Scope) (hall:∀p∈scope.names,p.2=.free→∃c,env.cells.lookup p.1=some c) :
  ∃cl,closureFor scope env=pure cl∧(∀y c,cl.lookup y=some c→env.cells.lookup y=some c)∧(∀y,(y,NameKind.free)∈scope.names→∃c,cl.lookup y=some c):=by
 obtain ⟨cl,e,h1,_,h3⟩:=zio env scope.names [] hall
 refine ⟨cl,?_,fun y c hy=>?_,fun y hy=>?_⟩
 ·simp only [closureFor]
  rw [e]
  rfl
 ·rcases h1 y c (PySem.mem_of_lookup hy) with z|z
  ·cases z
  ·exact z.1
 ·obtain ⟨c,hc⟩:=h3 y hy
  exact zer hc
structure CompSc (sc scope:Scope) (x:Str):Prop where
 kind:scope.kind=.function
 ncell:∀y∈scope.names,y.2 ≠ .cell
 names:∀y∈scope.names,y.2=.local→scope.names.lookup y.1=some .local∧(y.1=x∨y.1 = ".0")
 hx:scope.names.lookup x=some .local
 free:∀y∈scope.names,y.2=.free→sc.names.lookup y.1=some .cell
def cxH (X:Cx) (M:List Str) (scope:Scope) (cl:List (Str×Addr)) (x:Str) (C:Addr) (s₂:Shared) (H₂:Hp) (fp:List Addr) (E:Value→Shared→Prop):Cx :=
 { X with N:=x::M,s₀:=s₂,H₀:=H₂,env:=compEnvC scope cl C X.env,outer:=X.stack,ex:=fp,fn:=fun _=>false,pn:=[],xe:=E }
def Hid (scope:Scope) (M N:List Str):Prop:=M.length=N.length∧∀p∈M.zip N,p.1=p.2∨p.1∉scope.names.map Prod.fst
theorem Hid.refl {scope:Scope} {N:List Str}:Hid scope N N:=⟨rfl,fun p hp=>.inl (by
 obtain ⟨i,hi,e⟩:=List.getElem_of_mem hp
 rw [List.getElem_zip] at e
 rw [←e])⟩
theorem Hid.get {scope:Scope} {M N:List Str} (h:Hid scope M N) {i:Nat} {y:Str} (e:M[i]?=some y):N[i]?=some y∨y∉scope.names.map Prod.fst:=by
 obtain ⟨hi,ei⟩:=List.getElem?_eq_some_iff.mp e
 have hj:i<N.length:=h.1▸hi
 have hm:(M[i],N[i])∈M.zip N:=List.mem_of_getElem? (i:=i) (by rw [List.getElem?_zip_eq_some];exact ⟨List.getElem?_eq_getElem hi,List.getElem?_eq_getElem hj⟩)
 rcases h.2 _ hm with q|q
 ·exact .inl (by rw [List.getElem?_eq_getElem hj,←ei];exact congrArg some q.symm)
 ·exact .inr (by rw [←ei];exact q)
def cxC (X:Cx) (scope:Scope) (cl:List (Str×Addr)) (x:Str) (C:Addr) (s₂:Shared) (H₂:Hp) (fp:List Addr) (E:Value→Shared→Prop):Cx :=
 { X with N:=x::X.N,s₀:=s₂,H₀:=H₂,env:=compEnvC scope cl C X.env,outer:=X.stack,ex:=fp,fn:=fun _=>false,pn:=[],xe:=E }
section
variable {X:Cx} {scope:Scope} {cl:List (Str×Addr)} {x:Str}
theorem zes {env:Env} {y:Str} {k:NameKind} (h:(relabel scope env).names.lookup y=some k):∃k0,(y,k0)∈scope.names∧((k0=.free∧env.kindOf y=some .cell∧k=.cell)∨(k=k0∧¬(k0=.free∧env.scope.kind=.function∧env.kindOf y=some .cell))):=by
 have hm:=PySem.mem_of_lookup h
 obtain ⟨⟨n,k0⟩,hn,e⟩:=List.mem_map.mp hm
 by_cases hc:(k0==NameKind.free&&env.scope.kind == .function&&env.kindOf n==some .cell)=true
 ·have e':(n,NameKind.cell)=(y,k):=by rw [←e];simp only [hc,if_true]
  cases e'
  simp only [Bool.and_eq_true,beq_iff_eq] at hc
  exact ⟨_,hn,.inl ⟨hc.1.1,hc.2,rfl⟩⟩
 ·have e':(n,k0)=(y,k):=by rw [←e];simp only [hc,if_false];rfl
  cases e'
  refine ⟨_,hn,.inr ⟨rfl,fun ⟨a,b,c⟩=>hc ?_⟩⟩
  simp [a,b,c]
theorem zdj (S:CompSc X.env.scope scope x) {y:Str} (h:(relabel scope X.env).names.lookup y=some .local):y=x∨y = ".0" := by
 obtain ⟨k0,hm,⟨_,_,e⟩|⟨e,_⟩⟩:=zes h
 ·cases e
 ·subst e
  exact (S.names _ hm rfl).2
theorem zcR (S:CompSc X.env.scope scope x) (hk:X.env.scope.kind=.function) {y:Str} (h:(relabel scope X.env).names.lookup y=some .cell∨(relabel scope X.env).names.lookup y=some .free):(y,NameKind.free)∈scope.names:=by
 rcases h with h|h
 ·obtain ⟨k0,hm,⟨e,_,_⟩|⟨e,_⟩⟩:=zes h
  ·subst e;exact hm
  ·subst e;exact absurd rfl (S.ncell _ hm)
 ·obtain ⟨k0,hm,⟨_,_,e⟩|⟨e,n⟩⟩:=zes h
  ·cases e
  ·subst e
   exact hm
end
theorem zdk {P:Program} {wd:World} {B:Around} {Z:Result→Shared→Prop} {u0:Shared} {el tg iter:Expr} {sc:Scope} {ps:Pos} {iv ac:Value} {ev:Env} (J0:Nat→Shared→Prop)
  (turn:∀k u,J0 k u→wpAny (model P wd) B (pyNext iv) (fun r u1=>match r with|none=>Z (.ok .next) u1|some v=>wpAny (model P wd) B (letOwnedTupleGo tg iv v) (fun _ u2 =>
   wpAny (model P wd) B (assign tg ev v) (fun _ u3=>wpAny (model P wd) B (eval el ev) (fun y u4=>wpAny (model P wd) B (call (.builtin "list.append") [ac,y]) (fun _ u5=>∃m,m<k∧J0 m u5)
    (notedBy (model P wd) B ev fun e u=>Z (.error e) u) u4) (notedBy (model P wd) B ev fun e u=>Z (.error e) u) u3) (notedBy (model P wd) B ev fun e u=>Z (.error e) u) u2) (notedBy (model P wd) B ev fun e u=>Z (.error e) u) u1)
   (notedBy (model P wd) B ev fun e u=>Z (.error e) u) u)
  (k0:Nat) (start0:J0 k0 u0):codeAny (model P wd) B (.compLoop (.ListComp el [⟨tg,iter,[],0⟩] sc ps) 0 iv ac ev) Z u0:=by
 refine codeAny_loop rfl J0 (fun k u hJ=>wpAny_noted (E:=fun e u=>Z (.error e) u) (env:=ev) (m:=compTurn (.ListComp el [⟨tg,iter,[],0⟩] sc ps) 0 iv ac ev) ?_) k0 start0
 rw [compTurn_list1]
 have one:=turn k u hJ
 refine wpAny_bind (wpAny_standAt (wpAny_bind (wpAny_mono one (fun r u1 q1=>?_) fun _ _ z=>z)))
 cases r with
 | none=>exact wpAny_pure q1
 | some v =>
  refine wpAny_bind (wpAny_mono q1 (fun _ u2 q2=>wpAny_bind (wpAny_mono q2 (fun _ u3 q3=>?_) fun _ _ z=>z)) fun _ _ z=>z)
  exact wpAny_bind (wpAny_bind (wpAny_mono q3 (fun y u4 q4=>wpAny_bind (wpAny_mono q4 (fun _ u5 q5=>wpAny_pure (wpAny_pure ⟨rfl,q5⟩)) fun _ _ z=>z)) fun _ _ z=>z))
def CompW (J:It) (te:TE) (σ:St) (Q:VK) (H1:Hp):Prop:=∃W:Nat→Nat→List V→Hp→Prop,(∃m,W 0 m [] H1)∧∀i m ys H,W i m ys H →
 (J.stop i H∧ys.length≤sizeLine∧∀l,H l=none→Q (.ref l) (upd H l (.lst ys))) ∨
 (J.go i H∧ys.length≤sizeLine∧∀z H',J.yld i H z H'→te (some z::σ) H' fun y H2=>∃m',m'<m∧W (i+1) m' (ys++[y]) H2)
def tComp (wi:TI) (te:TE):TE:=fun σ H Q=>wi σ H fun J H1=>CompW J te σ Q H1
theorem zj4 {X:Cx} {elt iter:Expr} {x:Str} {px pos:Pos} {scope:Scope} {wi:TI} {te:TE} {M:List Str} (hc:X.calm=true) (S:CompSc X.env.scope scope x) (eN:Hid scope M X.N) (hN0:((".0" : Str)::x::M).Nodup)
  (hi:PI X (.Name x px) iter wi) (he:∀cl C s₂ H₂ fp,PE (cxH X M scope cl x C s₂ H₂ fp (fun _ _=>False)) elt te)
  (hs:∀v,foldedSetIterable iter X.env v=pure v:=by intro _;rfl):PE X (.ListComp elt [⟨.Name x px,iter,[],0⟩] scope pos) (tComp wi te):=by
 intro pins s σ H Q I h
 have hN:(x::M).Nodup:=(List.nodup_cons.mp hN0).2
 have h0N:(".0" : Str)∉M:=fun z=>(List.nodup_cons.mp hN0).1 (List.mem_cons_of_mem _ z)
 obtain ⟨cl,hclos,hcl1,hcl2⟩:=zk0 X.env scope fun p hp hf=>I.ok.has p.1 (.inl (S.free p hp hf))
 have hkd:X.env.scope.kind=.function:=I.ok.kind
 rw [eval_ListComp]
 refine wpAny_comprehension_free (use:=none) rfl hs hclos S.kind (fun y hy hl=>(S.names y hy hl).1) ?_
 refine thn (hi pins s σ H _ I h) fun v s1 h1=>thn h1 fun itv s₂ h2=>?_
 obtain ⟨it,fp,tn,J,H2,e,I2,T,st2,f2,W,⟨m0,w0⟩,turn⟩:=h2
 subst e
 refine wpAny_newObj_type (wpAny_newFunctionEnv S.ncell (by intro y hy;simp at hy) (fun h₁ hns₁ hsb₁=>?_) S.kind)
 dsimp only at hns₁ hsb₁ ⊢
 generalize hH2:s₂.heap.push { cls:=.type "list", dict:=none,data:=.seq ([]:List Value).toArray }=G2 at hns₁ hsb₁ ⊢
 have hC:G2.objs.size=s₂.heap.objs.size+1:=by rw [←hH2,Heap.size_push]
 have hDC:s₂.heap.objs.size≠G2.objs.size:=by rw [hC];exact Nat.ne_of_lt (Nat.lt_succ_self _)
 have hCle:s₂.heap.objs.size≤G2.objs.size:=by rw [hC];exact Nat.le_succ _
 have old:∀b o,s₂.heap.get? b=some o→h₁.get? b=some o:=fun b o e=>by
  have hb:b≠G2.objs.size:=by rw [hC];exact Nat.ne_of_lt (Nat.lt_succ_of_lt (Heap.lt_size e))
  exact hsb₁.extBut b o hb (Heap.get?_push_of_some _ (hH2▸Heap.get?_push_of_some _ e))
 have hacc:h₁.get? s₂.heap.objs.size=some { cls:=.type "list", data:=.seq (#[]:Array Value) 0 }:=hsb₁.extBut _ _ hDC (Heap.get?_push_of_some _ (hH2▸Heap.get?_push_size _ rfl))
 generalize hD:s₂.heap.objs.size=D at *
 generalize hCC:G2.objs.size=C at *
 have ltS:∀{b:Nat} {o:Obj},s₂.heap.get? b=some o→b<D:=fun e=>by rw [←hD];exact Heap.lt_size e
 have nofr:∀b,D≤b→b∉frs X.stack:=fun b hb z=>by
  rcases List.mem_cons.mp (I2.stkSub b z) with q|q
  ·exact ar1 I2.lt hD hb q
  ·exact I2.nofs (by rw [hD];exact hb) q
 let E':Value→Shared→Prop:=notedBy (model X.prog X.w) X.A (compEnvC scope cl C X.env) fun e s'=>compPost (model X.prog X.w) X.A X.xe none (EP X pins σ Q) (.ref D) C (.error e) s'
 let Y:Cx:=cxH X M scope cl x C s₂ H2 fp E'
 have fpX:∀b∈fp,FpOk X pins H2 b:=f2
 have okY:Y.Ok:=by
  refine ⟨I2.ok.mod,S.kind,I2.ok.glob,I2.ok.blt,(by show s₂.heap.objs.size≤C;omega),fun y z c h1 h2=>?_,fun y hy=>?_,fun y c hf=>?_,I2.ok.hd,I2.ok.frames,.inl rfl,fun b hb=>?_,I2.bs,Nat.le_trans I2.ok.bsz I2.sz,fun b o hb hx=>?_,fun b hb hx=>?_,I2.stack,I2.stkFree⟩
  ·exact I2.ok.inj y z c (hcl1 y c h1) (hcl1 z c h2)
  ·exact hcl2 y (zcR S hkd hy)
  ·cases hf
  ·refine ⟨fun z=>?_,fun y c hy=>(fpX b hb).2.2.2.2.1 y c (hcl1 y c hy)⟩
   obtain ⟨o,ho,_⟩:=T.obj 0 _ st2 b hb
   exact ar2 (ltS ho) hC z
  ·rcases (fpX b hx).2.2.2.1 with z|z
   ·exact I2.ok.noex b o hb z
   ·exact ar3 (Heap.lt_size hb) I2.ok.bsz z
  ·rcases List.mem_cons.mp (I2.stkSub b hx) with q|q
   ·exact (fpX b hb).2.1 q
   ·exact (fpX b hb).2.2.1 q
 have hpinD:∀{s':Shared} {H':Hp} {o:Obj},s'.heap.get? D=some o→H' D=none→(∀v,o.data ≠ .cell v)→∀p∈[(D,o)],s'.heap.get? p.1=some p.2∧H' p.1=none∧p.1≠Y.env.locals∧p.1∉Y.fs∧∀v,p.2.data ≠ .cell v:=fun {s' H' o} e1 e2 e3 p hp=>by
  have ep:p=(D,o):=by simpa using hp
  subst ep
  exact ⟨e1,e2,hDC,nofr D (Nat.le_refl _),e3⟩
 have I0:Inv Y [(D,{ cls:=.type "list", data:=.seq (#[]:Array Value) 0 })] (none::σ) H2 { s₂ with heap:=h₁,toks:=s₂.toks+([]:List (Str×Value)).length }:=by
  have fresh:∀b,D≤b→H2 b=none:=fun b hb=>I2.hok.fresh (by rw [hD];exact hb)
  refine ⟨okY,rfl,I2.bare,Un.kept old,⟨_,hns₁,fun i y v e1 e2 e3=>?_⟩,fun y c hy=>?_,fresh C (by omega),fun y c hy=>I2.freeC y c (hcl1 y c hy),fun p hp=>hpinD hacc (fresh D (Nat.le_refl _)) (fun v z=>by cases z) p hp,I2.hok.kept old,?_⟩
  ·cases i with
   | zero=>simp at e2
   | succ i =>
    have e0':M[i]?=some y:=by simpa [Y,cxH] using e1
    have e1':X.N[i]?=some y:=by
     rcases eN.get e0' with q|q
     ·exact q
     ·refine absurd ?_ q
      rcases e3 with e3|e3|e3<;>(obtain ⟨k0,hm,_⟩:=zes e3;exact List.mem_map.mpr ⟨_,hm,rfl⟩)
    have e2':σ[i]?=some (some v):=by simpa using e2
    have hyx:¬(y=x∨y = ".0"):=fun z=>by
     have hm:=List.mem_of_getElem? e0'
     rcases z with z|z
     ·rw [z] at hm
      exact (List.nodup_cons.mp hN).1 hm
     ·rw [z] at hm
      exact h0N hm
    have hfr:(y,NameKind.free)∈scope.names:=by
     rcases e3 with e3|e3|e3
     ·exact absurd (zdj S e3) hyx
     ·exact zcR S hkd (.inl e3)
     ·exact zcR S hkd (.inr e3)
    have hkc:X.env.scope.names.lookup y=some .cell:=S.free _ hfr rfl
    obtain ⟨m,hn,hl⟩:=I2.loc
    obtain ⟨u,r,l⟩:=hl i y v e1' e2' (.inr (.inl hkc))
    refine ⟨u,r,?_⟩
    rcases l with ⟨hk,_⟩|⟨_,c,hcc,hcell⟩
    ·have:X.env.kindOf y=some .cell:=hkc
     rw [this] at hk;cases hk
    ·obtain ⟨c',hc'⟩:=hcl2 y hfr
     have:=hcl1 y c' hc'
     rw [hcc] at this
     cases this
     refine .inr ⟨?_,c,hc',?_⟩
     ·rcases e3 with e3|e3|e3
      ·exact absurd (zdj S e3) hyx
      ·exact .inl e3
      ·exact .inr e3
     ·obtain ⟨o,ho,hd⟩:=hcell
      exact ⟨o,old c o ho,hd⟩
  ·obtain ⟨v,o,ho,hd⟩:=I2.cell y c (hcl1 y c hy)
   exact ⟨v,o,old c o ho,hd⟩
  ·show (none::σ).length=(x::M).length
   simp [I2.len,eN.1]
 have fpY:∀{pl:List (Addr×Obj)} {H':Hp},(∀p∈pl,p.1=D)→(∀b∈fp,H' b=none)→∀b∈fp,FpOk Y pl H' b:=fun {pl H'} hpl hn b hb=>by
  obtain ⟨o,ho,_⟩:=T.obj 0 _ st2 b hb
  refine ⟨hn b hb,fun z=>?_,?_,.inl hb,(okY.exf b hb).2,fun p hp z=>?_⟩
  ·exact ar2 (ltS ho) hC z
  ·exact okY.exfs b hb
  ·have hp':p∈pl:=by simpa [Y,cxH] using hp
   exact ar4 (ltS ho) (hpl p hp') z
 have loop:codeAny (model X.prog X.w) X.A (.compLoop (.ListComp elt [⟨.Name x px,iter,[],0⟩] scope pos) 0 (.ref it) (.ref D) (compEnvC scope cl C X.env))
   (compPost (model X.prog X.w) X.A X.xe none (EP X pins σ Q) (.ref D) C) { s₂ with heap:=h₁,toks:=s₂.toks+([]:List (Str×Value)).length }:=by
  refine zdk (fun n s'=>∃i ys H' its k,Inv Y [(D,{ cls:=.type "list", data:=.seq (its:List Value).toArray k })] (none::σ) H' s'∧Vals ys its∧tn i s'.heap∧(∀b∈fp,H' b=none)∧W i n ys H') ?_ m0
   ⟨0,[],H2,[],0,I0,.nil,T.keep 0 _ _ st2 (fun b hb o e=>old b o e),fun b hb=>(fpX b hb).1,w0⟩
  rintro n s3 ⟨i,ys,H3,its,k,I3,rv,st3,fr3,w3⟩
  have pinl:∀{o:Obj},∀p∈[(D,o)],p.1=D:=fun {o} p hp=>by
   have ep:p=(D,o):=by simpa using hp
   rw [ep]
  obtain ⟨gD,nD,_,_,_⟩:=I3.pin (D,_) (List.mem_append_right _ List.mem_cons_self)
  rcases turn i n ys H3 w3 with ⟨stop,hz,q⟩|⟨go,hz,step⟩
  ·refine thn (T.done Y rfl rfl rfl hc i _ s3 _ H3 E' I3 (fpY pinl fr3) st3 stop) fun r s4 ⟨hr,I4⟩=>?_
   subst hr
   obtain ⟨gD4,nD4,_,_,_⟩:=I4.pin (D,_) (List.mem_append_right _ List.mem_cons_self)
   obtain ⟨m4,hn4,_⟩:=id I4.loc
   refine ⟨m4,hn4,fun h' hsb=>?_⟩
   refine ⟨.ref D,upd H3 D (.lst ys),?_,rfl,q D nD4⟩
   have neC:∀{b:Addr} {u:HO},H3 b=some u→b≠C:=fun e z=>by
    have:H3 C=none:=I4.free
    rw [z,this] at e;cases e
   refine I2.call' (s':={ s4 with heap:=h' }) (ch:=fp) (H':=upd H3 D (.lst ys)) I4.os ?_ ?_ I4.bare fun b hb=>⟨(fpX b hb).2.2.2.1,(fpX b hb).2.1,(fpX b hb).2.2.2.2.1,(fpX b hb).2.2.2.2.2⟩
   ·have B:=I4.base
    have ltC:∀{b:Nat} {o:Obj},s₂.heap.get? b=some o→b≠C:=fun e z=>ar2 (ltS e) hC z
    have neD:∀{b:Addr} {u:HO},H3 b=some u→b≠D:=fun e z=>by rw [z,nD4] at e;cases e
    refine ⟨fun b o e nn hb hx=>(hsb.2 b (ltC e)).trans (B.keep b o e nn hb hx),fun b o e nn hb hx=>?_,fun b o e nn hx=>?_,fun b o e hx=>?_,fun b xs e=>?_,fun b o u e=>?_,fun b ps e=>?_⟩
    ·obtain ⟨sl,z⟩:=B.slot b o e nn hb hx
     exact ⟨sl,(hsb.2 b (ltC e)).trans z⟩
    ·have hbD:b≠D:=Nat.ne_of_lt (ltS e)
     rw [zu hbD]
     exact B.free b o e nn hx
    ·obtain ⟨o',z⟩:=B.there b o e hx
     exact ⟨o',(hsb.2 b (ltC e)).trans z⟩
    ·have z:=B.tups b xs e
     rw [zu (neD z)];exact z
    ·have z:=B.frzs b o u e
     rw [zu (neD z)];exact z
    ·obtain ⟨more,z⟩:=B.tbls b ps e
     exact ⟨more,by rw [zu (neD z)];exact z⟩
   ·intro a o e
    by_cases ha:a=D
    ·subst ha
     rw [zx] at e
     cases e
     exact ⟨hz,its,k,rv,(hsb.2 _ hDC).trans gD4⟩
    ·rw [zu ha] at e
     have keepNe:∀b u,H3 b=some u→(upd H3 D (.lst ys)) b=some u:=fun b u z=>by
      have hb:b≠D:=fun w=>by rw [w,nD4] at z;cases z
      rw [zu hb];exact z
     refine (I4.hok a o e).stay (fun b u hb z=>(hsb.2 b ?_).trans z) (fun b z=>keepNe b _ z) fun b xs z=>keepNe b _ z
     rcases hb with hb|hb
     ·rw [hb];exact neC e
     ·exact neC hb
  ·refine thn (T.item Y rfl rfl rfl hc i _ s3 _ H3 E' I3 (fpY pinl fr3) st3 go) fun r s4 ⟨u,hr,h4⟩=>?_
   subst hr
   refine thn h4 fun _ s5 ⟨z,H5,I5,r5,y5,st5,fr5⟩=>?_
   have I5':=I5.pinned (fpY pinl fr5) (T.obj _ _ st5)
   have pgx:PG Y (.Name x px) (gName 0):=zc3 (X:=Y) hN rfl (.inl (lookup_relabel_local S.hx)) (.inr (lookup_relabel_local S.hx))
   have peY:PE Y elt te:=PE.nox (X:=Y) (he cl C s₂ H2 fp)
   refine thn (pgx _ s5 (none::σ) H5 z u (fun σ' H'=>σ'=some z::σ∧H'=H5) I5' r5 ⟨rfl,rfl⟩) fun _ s6 ⟨σ6,H6,I6,e1,e2⟩=>?_
   subst e1 e2
   refine thn (peY _ s6 _ _ _ I6 (step z _ y5)) fun uy s7 ⟨y,H7,I7,ry,m',hm,w7⟩=>?_
   obtain ⟨gD7,nD7,_,_,_⟩:=I7.pin (D,_) (List.mem_append_right _ (List.mem_append_left _ List.mem_cons_self))
   refine wpAny_list_append_plain ⟨k,gD7⟩ (fun h' hpl hsb=>?_) (by rw [List.size_toArray,←rv.length];exact hz)
   obtain ⟨k',gD'⟩:=hpl
   have I8:Inv Y [] (some z::σ) H7 { s7 with heap:=h' }:=(I7.pins_of (pins':=[]) (fun p hp=>nomatch hp)).turned (it:=D) (t':=s7.toks) (fun b o hb e=>(hsb.2 b hb).trans e) nD7 hDC
    (.inr (by show s₂.heap.objs.size≤D;omega)) (fun a c hy hz'=>by
     obtain ⟨v',o',ho',_⟩:=I2.cell a c (hcl1 a c hy)
     exact Nat.ne_of_lt (ltS ho') hz') (fun p hp=>by simp [Y,cxH] at hp)
   have I9:Inv Y [] (none::σ) H7 { s7 with heap:=h' }:=I8.weak (by simp) fun j v e=>by
    cases j with
    | zero=>simp at e
    | succ j=>simpa using e
   have pinOf:∀b∈fp,∃o,s5.heap.get? b=some o∧s7.heap.get? b=some o∧H7 b=none:=fun b hb=>by
    obtain ⟨o,e,_⟩:=T.obj _ _ st5 b hb
    have q:=I7.pin (b,o) (List.mem_append_right _ (List.mem_append_right _ (zcQ hb e)))
    exact ⟨o,e,q.1,q.2.1⟩
   have fpD:∀b∈fp,b≠D:=fun b hb=>by
    obtain ⟨o,ho,_⟩:=T.obj 0 _ st2 b hb
    exact Nat.ne_of_lt (ltS ho)
   have eT:its.toArray.push uy=(its++[uy]).toArray:=by simp
   rw [eT] at gD'
   refine ⟨m',hm,i+1,ys++[y],H7,its++[uy],k',I9.pins_of (hpinD gD' nD7 fun v e=>by cases e),rv.append (.cons ry .nil),T.keep (i+1) _ _ st5 fun b hb o e=>?_,fun b hb=>?_,w7⟩
   ·obtain ⟨o',e1,e2,_⟩:=pinOf b hb
    rw [e] at e1
    cases e1
    exact (hsb.2 b (fpD b hb)).trans e2
   ·obtain ⟨_,_,_,q⟩:=pinOf b hb
    exact q
 exact codeAny_compStart_list loop (T.self X.A 0 _ _ _ (T.keep 0 _ _ st2 (fun b hb o e=>old b o e)) loop)
end L2
namespace L2
open PySem PySem.Spec PyProof.Rows
def Its (z:Str):It:=⟨fun i _=>i<z.cps.size,fun i H v H'=>H'=H∧∃c,z.cps[i]?=some c∧v=.str ⟨#[c]⟩,fun i _=>z.cps.size≤i⟩
theorem zgU {P:Program} {w:World} {K:PySem.W.Frag} {tg:Expr} (z:Str) (t:Tok) (it:Addr) (ty:String) (hty:ty = "str_ascii_iterator" ∨ ty = "str_iterator"):Turn P w K tg (Its z) [it] it (fun i h=>h.IsStrIter it ty z t i) where
 mem:=by simp
 obj:=fun i h st b hb=>by
  have e:b=it:=by simpa using hb
  subst e
  obtain ⟨o,e,c,d⟩:=st
  exact ⟨o,e,fun v z=>by rw [d] at z;cases z⟩
 keep:=fun i h h' st k=>by
  obtain ⟨o,e,r⟩:=st
  exact ⟨o,k it (by simp) o e,r⟩
 item:=by
  intro X hP hw hK hc i pins s σ H E I hf st hg
  subst hP hw hK
  obtain ⟨f0,f1,f2,f3,f4,f5⟩:=hf it (by simp)
  have W:Walks X.prog X.w X.A it [it] [it] z.cps.size (SignAt z) (fun i h=>h.IsStrIter it ty z t i):=by
   rcases hty with e|e
   ·rw [e];exact Walks.strAscii (I.ok.hd hc) it z t
   ·rw [e];exact Walks.strWide (I.ok.hd hc) it z t
  refine W.item i s _ _ hg st fun v h' tk hv st' kk=>?_
  obtain ⟨c,u,hcx,rfl⟩:=hv
  have I1:Inv X pins σ H { s with heap:=h',toks:=tk }:=I.turned (fun b o hb e=>kk b o (by simpa using hb) e) f0 f1 f3 f4 f5
  obtain ⟨o,e,cc,d⟩:=id st'
  exact ⟨_,rfl,zjS (s:={ s with heap:=h',toks:=tk }) e cc d (by rcases hty with e|e<;>rw [e]<;>decide) ⟨.str ⟨#[c]⟩,H,I1,⟨u,rfl⟩,⟨rfl,c,hcx,rfl⟩,st',fun b hb=>(hf b hb).1⟩⟩
 done:=by
  intro X hP hw hK hc i pins s σ H E I hf st hg
  subst hP hw hK
  obtain ⟨f0,f1,f2,f3,f4,f5⟩:=hf it (by simp)
  have hn:z.cps[i]?=none:=by
   have hg':z.cps.size≤i:=hg
   simpa using hg'
  rcases hty with e|e
  ·rw [e] at st
   exact wpAny_pyNext_ascii_end (I.ok.hd hc) st hn fun h' eb=>⟨rfl,I.turned (t':=s.toks) (fun b o hb e=>eb b o hb e) f0 f1 f3 f4 f5⟩
  ·rw [e] at st
   exact wpAny_pyNext_wide_end (I.ok.hd hc) st hn fun h' eb=>⟨rfl,I.turned (t':=s.toks) (fun b o hb e=>eb b o hb e) f0 f1 f3 f4 f5⟩
 self:=fun A i s Q E st h=>by
  rcases hty with e|e
  ·rw [e] at st;exact wpAny_pyIter_striter_ascii st h
  ·rw [e] at st;exact wpAny_pyIter_striter_wide st h
section
variable {X:Cx}
theorem znC:SlR X (fun x lo hi H Q=>∃z,x=.str z∧z.length≤sizeLine∧Q (.str (Txt.slice z lo hi)) H):=by
 intro pins s σ H x v vl vu lo hi sl Q I rx hs pl pu h
 obtain ⟨z,rfl,hz,q⟩:=h
 obtain ⟨t,rfl⟩:=rx
 refine ⟨"str", _,F.slot_str_getitem.lookup,typeIs_str _ _ _,?_⟩
 have fin:∀t' k,EP X pins σ Q (.str (Txt.slice z lo hi) t') { s with toks:=k }:=fun t' k=>⟨.str _,H,I.tok _,⟨_,rfl⟩,q⟩
 cases pl with
 | none =>
  cases pu with
  | none=>exact wpAny_getItem_str_slice (l:=none) (u:=none) (st:=none) hs rfl (post_val_or_str ⟨Nat.le_trans (Txt.slice_le z _ _) hz,fin⟩)
  | int j uj=>exact wpAny_getItem_str_slice (l:=none) (u:=some (j,uj)) (st:=none) hs rfl (post_val_or_str ⟨Nat.le_trans (Txt.slice_le z _ _) hz,fin⟩)
 | int i ui =>
  cases pu with
  | none=>exact wpAny_getItem_str_slice (l:=some (i,ui)) (u:=none) (st:=none) hs rfl (post_val_or_str ⟨Nat.le_trans (Txt.slice_le z _ _) hz,fin⟩)
  | int j uj=>exact wpAny_getItem_str_slice (l:=some (i,ui)) (u:=some (j,uj)) (st:=none) hs rfl (post_val_or_str ⟨Nat.le_trans (Txt.slice_le z _ _) hz,fin⟩)
theorem zgV:∀{bs:List Bool} {us:List Value},Vals (bs.map V.bl) us→us=bs.map Value.bool
 | [],us,r=>by rw [List.map_nil] at r;cases r;rfl
 | b::bs,us,r=>by
  rw [List.map_cons] at r
  cases r with
  | cons r1 r2 =>
   have e:_=Value.bool b:=r1
   rw [List.map_cons,←zgV r2,e]
theorem zj5 (hc:X.calm=true):CallR X (.builtin "all") (fun xs H Q=>∃(a:Addr) (bs:List Bool),xs=[.ref a]∧SqL X.K H a (bs.map V.bl)∧Q (.bl (bs.all id)) H):=by
 intro pins s σ H xs us Q I r h
 obtain ⟨a,bs,rfl,hl,q⟩:=h
 obtain ⟨u,rfl,ru⟩:=zgq r
 cases ru
 obtain ⟨its,rv,pl,hz⟩:=I.list hl
 have e:=zgV rv
 subst e
 refine call_all_walk (wpAny_pyIter_list pl.isList ?_)
 have hh:X.A.in1.handled=none:=I.ok.hd hc
 have hlt:a<s.heap.objs.size:=by
  obtain ⟨o,e,_⟩:=pl.isList
  exact Heap.lt_size e
 have hne:a≠s.heap.objs.size:=Nat.ne_of_lt hlt
 refine ⟨s.heap.objs.size,_,_,_,_,_,fun i=>(bs[i]?).getD true,rfl,Walks.list hh s.heap.objs.size a hne (bs.map Value.bool).toArray,⟨⟨_,Heap.get?_push_size _ rfl,rfl,rfl⟩,pl.isList.at fun o e=>Heap.get?_push_of_some _ e⟩,?_,fun h' tk kk=>?_⟩
 ·intro i v s' Q' E' hp hq
  have hp':(bs.map Value.bool)[i]?=some v:=by simpa using hp
  rw [List.getElem?_map] at hp'
  cases eb:bs[i]? with
  | none=>rw [eb] at hp';cases hp'
  | some b =>
   rw [eb] at hp'
   have:Value.bool b=v:=Option.some.inj hp'
   subst this
   refine wpAny_truthy_bool ?_
   dsimp only at hq
   rw [eb] at hq
   exact hq
 ·have e1:(List.range (bs.map Value.bool).toArray.size).all (fun i=>(bs[i]?).getD true)=bs.all id:=by
   rw [List.size_toArray,List.length_map]
   rw [Bool.eq_iff_iff,List.all_eq_true,List.all_eq_true]
   constructor
   ·intro hh b hb
    obtain ⟨i,hi,e⟩:=List.getElem_of_mem hb
    have:=hh i (List.mem_range.mpr hi)
    rw [List.getElem?_eq_getElem hi,e] at this
    exact this
   ·intro hh i hi
    have hi':=List.mem_range.mp hi
    rw [List.getElem?_eq_getElem hi']
    exact hh _ (List.getElem_mem hi')
  rw [e1]
  refine ⟨.bl (bs.all id),H,?_,rfl,q⟩
  exact I.kept (t':=tk) fun b o e=>kk b o (fun z=>by
   have z':b=s.heap.objs.size:=by simpa using z
   exact absurd (Heap.lt_size e) (by rw [z'];exact Nat.lt_irrefl _)) (Heap.get?_push_of_some _ e)
end
end L2
namespace L2
open PySem PySem.Spec PyProof.Rows
section
variable {κ:Type} [DecidableEq κ]
def valV (kvs:List (κ×V)) (k:κ):Option V:=(kvs.find? fun kv=>decide (kv.1=k)).map (·.2)
def putK (kvs:List (κ×V)) (k:κ) (v:V):List (κ×V) :=
 if (kvs.any fun kv=>decide (kv.1=k))=true then kvs.map (fun kv=>if kv.1=k then (kv.1,v) else kv) else kvs++[(k,v)]
theorem zeg {p:κ×V} {r:List (κ×V)} {k:κ} (e:p.1=k):valV (p::r) k=some p.2:=by simp [valV,List.find?_cons,e]
theorem zeh {p:κ×V} {r:List (κ×V)} {k:κ} (e:¬p.1=k):valV (p::r) k=valV r k:=by simp [valV,List.find?_cons,e]
theorem zgW (k:κ):∀kvs:List (κ×V),(kvs.any fun kv=>decide (kv.1=k))=(valV kvs k).isSome
 | []=>rfl
 | p::r=>by
  rw [List.any_cons]
  by_cases e:p.1=k
  ·simp only [zeg e,decide_eq_true e,Bool.true_or,Option.isSome_some]
  ·rw [zeh e,decide_eq_false e,Bool.false_or];exact zgW k r
theorem zcd (kvs:List (κ×V)) (k:κ) (v:V):(putK kvs k v).length≤kvs.length+1:=by
 unfold putK
 split
 ·rw [List.length_map];omega
 ·rw [List.length_append,List.length_cons,List.length_nil];omega
theorem RelO.isSome_eq {o:Option V} {u:Option Value} (r:RelO o u):o.isSome=u.isSome:=by
 cases o with
 | none=>cases u with
  | none=>rfl
  | some _=>exact (show False from r).elim
 | some _=>cases u with
  | none=>exact (show False from r).elim
  | some _=>rfl
theorem KV.val {kvs:List (κ×V)} {vs:List (κ×Value)} (r:KV kvs vs) (k:κ):RelO (valV kvs k) (valueAt vs k):=by
 unfold KV at r
 induction r with
 | nil=>exact True.intro
 | @cons p q ps qs h t ih =>
  obtain ⟨h1,h2⟩:=h
  by_cases e:p.1=k
  ·have e':q.1=k:=h1.symm.trans e
   have b:valueAt (q::qs) k=some q.2:=by simp [valueAt,List.find?_cons,e']
   rw [zeg e,b];exact h2
  ·have e':¬q.1=k:=fun z=>e (h1.trans z)
   have b:valueAt (q::qs) k=valueAt qs k:=by simp [valueAt,List.find?_cons,e']
   rw [zeh e,b];exact ih
theorem KV.any {kvs:List (κ×V)} {vs:List (κ×Value)} (r:KV kvs vs) (k:κ):(kvs.any fun kv=>decide (kv.1=k))=vs.any fun kv=>decide (kv.1=k):=by
 unfold KV at r
 induction r with
 | nil=>rfl
 | cons h t ih=>rw [List.any_cons,List.any_cons,ih,h.1]
theorem KV.repl {kvs:List (κ×V)} {vs:List (κ×Value)} (r:KV kvs vs) (k:κ) {y:V} {u:Value} (ry:RelV y u) :
  KV (kvs.map fun kv=>if kv.1=k then (kv.1,y) else kv) (vs.map fun kv=>if kv.1=k then (kv.1,u) else kv):=by
 unfold KV at r ⊢
 induction r with
 | nil=>exact .nil
 | @cons p q ps qs h t ih =>
  rw [List.map_cons,List.map_cons]
  refine .cons ?_ ih
  obtain ⟨h1,h2⟩:=h
  by_cases e:p.1=k
  ·rw [if_pos e,if_pos (h1.symm.trans e)];exact ⟨h1,ry⟩
  ·rw [if_neg e,if_neg (fun z=>e (h1.trans z))];exact ⟨h1,h2⟩
theorem KV.put {kvs:List (κ×V)} {vs:List (κ×Value)} (r:KV kvs vs) (k:κ) {y:V} {u:Value} (ry:RelV y u):KV (putK kvs k y) (stored vs k u):=by
 unfold putK stored
 rw [r.any k]
 by_cases e:(vs.any fun kv=>decide (kv.1=k))=true
 ·rw [if_pos e,if_pos e];exact r.repl k ry
 ·rw [if_neg e,if_neg e];exact Paired.snoc r ⟨rfl,ry⟩
theorem KV.length {kvs:List (κ×V)} {vs:List (κ×Value)} (r:KV kvs vs):kvs.length=vs.length:=Paired.length r
end
theorem zj6 {P:Program} {w:World} {k:Key} {u:Value} (r:RelV (kV k) u):(mixKind P w).is k u=true:=by
 cases k with
 | inl i=>obtain ⟨t,e⟩:=(show ∃t,u=Value.int i t from r);subst e;exact zgm P w i t
 | inr x=>obtain ⟨t,e⟩:=(show ∃t,u=Value.str x t from r);subst e;exact zgn P w x t
theorem zfH {P:Program} {w:World}:∀{ks:List Key} {us:List Value},Vals (ks.map kV) us→ItemsAre (mixKind P w) ks us
 | [],_,r=>by rw [List.map_nil] at r;cases r;exact .nil
 | k::ks,_,r=>by
  rw [List.map_cons] at r
  cases r with
  | cons h t=>exact .cons (zj6 h) (zfH t)
abbrev KT (H:Hp):List (List Key×V)→List (List Key×Addr×Value)→Prop:=Paired fun p q=>p.1=q.1∧H q.2.1=some (.tup (p.1.map kV))∧RelV p.2 q.2.2
theorem KT.val {H:Hp} {kvs:List (List Key×V)} {xs:List (List Key×Addr×Value)} (r:KT H kvs xs) (k:List Key):RelO (valV kvs k) ((atKey xs k).map (·.2)):=by
 induction r with
 | nil=>exact True.intro
 | @cons p q ps qs h t ih =>
  obtain ⟨h1,_,h2⟩:=h
  by_cases e:p.1=k
  ·have e':q.1=k:=h1.symm.trans e
   have b:atKey (q::qs) k=some q.2:=by simp [atKey,List.find?_cons,e']
   rw [zeg e,b];exact h2
  ·have e':¬q.1=k:=fun z=>e (h1.trans z)
   have b:atKey (q::qs) k=atKey qs k:=by simp [atKey,List.find?_cons,e']
   rw [zeh e,b];exact ih
theorem KT.repl {H:Hp} {kvs:List (List Key×V)} {xs:List (List Key×Addr×Value)} (r:KT H kvs xs) (k:List Key) {y:V} {u:Value} (ry:RelV y u) :
  KT H (kvs.map fun kv=>if kv.1=k then (kv.1,y) else kv) (xs.map (putAt k u)):=by
 induction r with
 | nil=>exact .nil
 | @cons p q ps qs h t ih =>
  rw [List.map_cons,List.map_cons]
  refine .cons ?_ ih
  obtain ⟨h1,h2,h3⟩:=h
  unfold putAt
  by_cases e:p.1=k
  ·rw [if_pos e,if_pos (h1.symm.trans e)];exact ⟨h1,h2,ry⟩
  ·rw [if_neg e,if_neg (fun z=>e (h1.trans z))];exact ⟨h1,h2,h3⟩
theorem KT.put {H:Hp} {kvs:List (List Key×V)} {xs:List (List Key×Addr×Value)} (r:KT H kvs xs) (k:List Key) {b:Addr} {y:V} {u:Value} (hb:H b=some (.tup (k.map kV))) (ry:RelV y u) :
  KT H (putK kvs k y) (storedH xs k b u):=by
 have e:(kvs.any fun kv=>decide (kv.1=k))=(atKey xs k).isSome:=by
  rw [zgW,(r.val k).isSome_eq,Option.isSome_map]
 unfold putK storedH
 rw [e]
 by_cases q:(atKey xs k).isSome=true
 ·rw [if_pos q,if_pos q];exact r.repl k ry
 ·rw [if_neg q,if_neg q];exact Paired.snoc r ⟨rfl,hb,ry⟩
theorem KT.keeps {H H':Hp} {kvs:List (List Key×V)} {xs:List (List Key×Addr×Value)} (r:KT H kvs xs) (ht:∀b ys,H b=some (.tup ys)→H' b=some (.tup ys)):KT H' kvs xs :=
 Paired.mapP r fun _ _ z=>⟨z.1,ht _ _ z.2.1,z.2.2⟩
section
variable {P:Program} {w:World} {H:Hp} {h:Heap} {a:Addr}
theorem znD {u:HO} (ok:HOk P w H h) (e:Rd H a u):ObjOk P w H h a u:=e.ok ok
theorem zj7 {kvs:List (Key×V)} (ok:HOk P w H h) (e:Rd H a (.dK kvs)):kvs.length≤sizeLine∧(a==sysModules)=false∧∃vs,KV kvs vs∧h.DictOf (mixKind P w) a vs :=
 show ObjOk P w H h a (.dK kvs) from znD ok e
theorem zoO {kvs:List (Key×V)} (ok:HOk P w H h) (e:H a=some (.dK kvs)):kvs.length≤sizeLine∧(a==sysModules)=false∧∃vs,KV kvs vs∧h.DictOf (mixKind P w) a vs:=zj7 ok (.inl e)
theorem ziq {ks:List Key} (ok:HOk P w H h) (e:H a=some (.tup (ks.map kV))):(tupleKind (mixKind P w)).is h ks a:=by
 obtain ⟨_,its,r,o,h1,h2,n,h3⟩:=(show ObjOk P w H h a (.tup (ks.map kV)) from ok a _ e)
 exact ⟨o,its.toArray,n,h1,h2,h3,by simpa using zfH r⟩
theorem zlL {kvs:List (List Key×V)} (ok:HOk P w H h) (e:Rd H a (.dT kvs)):kvs.length≤sizeLine∧(a==sysModules)=false ∧
  ∃xs,KT H kvs xs∧h.DictOfH (tupleKind (mixKind P w)) a xs:=by
 obtain ⟨z,y,xs,r,o,es,ep,h1,h2,h3,h4,h5⟩:=(show ObjOk P w H h a (.dT kvs) from znD ok e)
 refine ⟨z,y,xs,r,o,es,ep,h1,h2,h3,h4,fun x hx=>?_,h5⟩
 have all:∀{l:List (List Key×V)} {m:List (List Key×Addr×Value)},KT H l m→∀x∈m,(tupleKind (mixKind P w)).is h x.1 x.2.1:=by
  intro l m q
  induction q with
  | nil=>intro x hx;exact nomatch hx
  | @cons p q ps qs hq t ih =>
   intro x hx
   rcases List.mem_cons.mp hx with e|hx
   ·subst e
    exact ziq ok (by rw [←hq.1];exact hq.2.1)
   ·exact ih x hx
 exact all r x hx
theorem zoP {kvs:List (List Key×V)} (ok:HOk P w H h) (e:H a=some (.dT kvs)):kvs.length≤sizeLine∧(a==sysModules)=false ∧
  ∃xs,KT H kvs xs∧h.DictOfH (tupleKind (mixKind P w)) a xs:=zlL ok (.inl e)
end
def DGet (H:Hp) (a:Addr) (y:V) (r:Option V):Prop :=
 (∃kvs k,Rd H a (.dK kvs)∧y=kV k∧r=valV kvs k)∨∃kvs k b,Rd H a (.dT kvs)∧y=.ref b∧H b=some (.tup (k.map kV))∧r=valV kvs k
def DPut (H:Hp) (a:Addr) (y v:V) (H':Hp):Prop :=
 (∃kvs k,H a=some (.dK kvs)∧y=kV k∧kvs.length<sizeLine∧H'=upd H a (.dK (putK kvs k v))) ∨
 ∃kvs k b,H a=some (.dT kvs)∧y=.ref b∧H b=some (.tup (k.map kV))∧kvs.length<sizeLine∧H'=upd H a (.dT (putK kvs k v))
theorem DGet.k {H:Hp} {a:Addr} {kvs:List (Key×V)} {k:Key} (e:H a=some (.dK kvs)):DGet H a (kV k) (valV kvs k):=.inl ⟨kvs,k,.inl e,rfl,rfl⟩
theorem DGet.t {H:Hp} {a b:Addr} {kvs:List (List Key×V)} {k:List Key} (e:H a=some (.dT kvs)) (eb:H b=some (.tup (k.map kV))):DGet H a (.ref b) (valV kvs k):=.inr ⟨kvs,k,b,.inl e,rfl,eb,rfl⟩
theorem DPut.k {H:Hp} {a:Addr} {kvs:List (Key×V)} {k:Key} {v:V} (e:H a=some (.dK kvs)) (hl:kvs.length<sizeLine):DPut H a (kV k) v (upd H a (.dK (putK kvs k v))):=.inl ⟨kvs,k,e,rfl,hl,rfl⟩
theorem DPut.t {H:Hp} {a b:Addr} {kvs:List (List Key×V)} {k:List Key} {v:V} (e:H a=some (.dT kvs)) (eb:H b=some (.tup (k.map kV))) (hl:kvs.length<sizeLine) :
  DPut H a (.ref b) v (upd H a (.dT (putK kvs k v))):=.inr ⟨kvs,k,b,e,rfl,eb,hl,rfl⟩
section
variable {X:Cx} {pins:List (Addr×Obj)} {σ:St} {H:Hp} {s:Shared} {a:Addr} {y v:V} {u r:Value} {o:Option V} {A:Around} {E:Value→Shared→Prop}
theorem Inv.big (I:Inv X pins σ H s):sysModules<s.heap.objs.size:=by
 have h:mainGlobals<s.heap.objs.size:=(I.mod.glob.keeps I.bk).lt
 exact Nat.lt_trans (by decide) h
theorem zir {Q:Value→Shared→Prop} (hu:A.units+1<cLine) (I:Inv X pins σ H s) (g:DGet H a y (some v)) (ry:RelV y u) (h:∀w' s',Inv X pins σ H s'→RelV v w'→Q w' s') :
  wpAny (model X.prog X.w) A (getItem (.ref a) u) Q E s:=by
 rcases g with ⟨kvs,k,e,ey,l⟩|⟨kvs,k,b,e,ey,eb,l⟩
 ·subst ey
  obtain ⟨z,hd,vs,rel,dd⟩:=zj7 I.hok e
  obtain ⟨w',hw,rw'⟩:=RelO.some_of (v:=v) (o:=valueAt vs k) (by rw [l];exact rel.val k)
  exact wpAny_getItem_of (zj6 ry) dd.mapOf hw (h w' _ (I.tok _) rw')
 ·subst ey
  cases (show u=Value.ref b from ry)
  obtain ⟨z,hd,xs,rel,dd⟩:=zlL I.hok e
  obtain ⟨w',hw,rw'⟩:=RelO.some_of (v:=v) (o:=(atKey xs k).map (·.2)) (by rw [l];exact rel.val k)
  obtain ⟨p,hp,hp2⟩:=Option.map_eq_some_iff.mp hw
  refine wpAny_getItem_heap (tupleKind_room_in1 hu) (ziq I.hok eb) dd hp ?_
  rw [hp2]
  exact h w' _ (I.tok _) rw'
theorem zis {h':Heap} {t':Nat} {ob:HO} (I:Inv X pins σ H s) (mu:Mut (H a)) (hs:Heap.SameBut a s.heap h') (he:∃q,h'.get? a=some q) (new:ObjOk X.prog X.w (upd H a ob) h' a ob) :
  Inv X pins σ (upd H a ob) { s with heap:=h',toks:=t' } :=
 I.write (x:=a) (e:=a) mu (.inl rfl) (fun b q hb z=>(hs.2 b hb).trans z) he new
theorem zk1 {P:Program} {w:World} {H':Hp} {h':Heap} {kvs:List (Key×V)} {vs:List (Key×Value)} (z:kvs.length≤sizeLine) (hd:(a==sysModules)=false) (rel:KV kvs vs) (dd:h'.DictOf (mixKind P w) a vs) :
  ObjOk P w H' h' a (.dK kvs):=⟨z,hd,vs,rel,dd⟩
theorem zit {H':Hp} {Q:Unit→Shared→Prop} (hu:A.units+1<cLine) (I:Inv X pins σ H s) (g:DPut H a y v H') (ry:RelV y u) (rv:RelV v r) (h:∀s',Inv X pins σ H' s'→Q () s') :
  wpAny (model X.prog X.w) A (setItem (.ref a) u r) Q E s:=by
 rcases g with ⟨kvs,k,e,ey,l,eH⟩|⟨kvs,k,b,e,ey,eb,l,eH⟩
 ·subst ey eH
  obtain ⟨z,hd,vs,rel,dd⟩:=zoO I.hok e
  have hz:vs.length≤sizeLine:=by rw [←rel.length];exact z
  have hl:(putK kvs k v).length≤sizeLine:=by have:=zcd kvs k v;omega
  refine wpAny_setItem_pairs (hsz:=hz) (zj6 ry) dd fun h' dd' hs=>h _ ?_
  have he:∃q,h'.get? a=some q:=let ⟨q,_,_,hq,_⟩:=dd';⟨q,hq⟩
  exact zis I (by rw [e];exact True.intro) hs he (zk1 hl hd (rel.put k rv) dd')
 ·subst ey eH
  cases (show u=Value.ref b from ry)
  obtain ⟨z,hd,xs,rel,dd⟩:=zoP I.hok e
  have hz:xs.length≤sizeLine:=by rw [←Paired.length rel];exact z
  have hl:(putK kvs k v).length≤sizeLine:=by have:=zcd kvs k v;omega
  refine wpAny_setItem_heap (hsz:=hz) (tupleKind_room_in1 hu) (ziq I.hok eb) dd fun h' dd' hs=>h _ ?_
  obtain ⟨q,es,ep,hq,h2,h3,h4,_,h5⟩:=dd'
  refine zis I (by rw [e];exact True.intro) hs ⟨q,hq⟩ ⟨hl,hd,_,(rel.put k eb rv).keeps fun c ys ec=>?_,q,es,ep,hq,h2,h3,h4,h5⟩
  rw [zu (zoD ec e (fun z=>nomatch z))]
  exact ec
end
section
variable {X:Cx} {pins:List (Addr×Obj)} {σ:St} {H:Hp} {s:Shared} {a:Addr} {kvs:List (Key×V)} {k:Key} {u:Value} {A:Around} {E:Value→Shared→Prop}
end
theorem zgs {X:Cx} {pins:List (Addr×Obj)} {σ:St} {H:Hp} {s:Shared} {a:Addr} {y:V} {o:Option V} (I:Inv X pins σ H s) (g:DGet H a y o):s.TypeIs (.ref a) "dict" := by
 rcases g with ⟨kvs,k,e,_,_⟩|⟨kvs,k,b,e,_,_,_⟩
 ·obtain ⟨_,_,vs,_,dd⟩:=zj7 I.hok e
  exact dd.typeIs
 ·obtain ⟨_,_,xs,_,dd⟩:=zlL I.hok e
  exact dd.typeIs
def sDPut (td ty tv:TE):TS:=fun D σ H=>tv σ H fun v H1=>td σ H1 fun x H2=>ty σ H2 fun y H3=>∃a H4,x=.ref a∧DPut H3 a y v H4∧D.nx σ H4
section
variable {X:Cx} {o i e value:Expr} {pos pos' tpos:Pos} {td ty tv:TE}
theorem zlM (hu:X.A.units+1<cLine) (ho:PE X o td) (hi:PE X i ty) (hv:PE X value tv) (hs:swapsWith value (some (.Subscript o i pos')) pos.line X.env=pure false) :
  PS X (.Assign [.Subscript o i pos'] value pos) (sDPut td ty tv):=by
 intro pins s σ H D I h
 refine wpAny_Assign_Subscript (thn (hv pins s σ H _ I h) fun r s1 ⟨v,H1,I1,rv,q1⟩=>thn (ho pins s1 σ H1 _ I1 q1) fun u s2 ⟨x,H2,I2,rx,q2⟩=>thn (hi pins s2 σ H2 _ I2 q2) fun iv s3 ⟨y,H3,I3,ry,a,H4,ex,g,q3⟩=>?_) hs
 subst ex
 obtain rfl:u=Value.ref a:=rx
 exact zit hu I3 g ry rv fun s4 I4=>⟨σ,H4,I4,q3⟩
end
theorem zj8 {P:Program} {w:World} {H:Hp} (h:Heap) (hb:sysModules<h.objs.size):ObjOk P w H (h.push { cls:=.type "dict", data:=.dict #[] }) h.objs.size (.dK []) :=
 ⟨Nat.zero_le _,beq_eq_false_iff_ne.mpr (Ne.symm (Nat.ne_of_lt hb)),[],.nil,Heap.DictOf.new h⟩
def tDNewK:TE:=fun _ H Q=>∀p,H p=none→Q (.ref p) (upd H p (.dK []))
section
variable {X:Cx} {pos:Pos}
theorem zj9:PE X (.Dict [] [] pos) tDNewK:=fun pins s σ H Q I h =>
 wpAny_Dict_empty ⟨.ref s.heap.objs.size,_,I.laid (a:=s.heap.objs.size) (o:=.dK []) (t':=s.toks) (fun _ _ q=>Heap.get?_push_of_some _ q) (Nat.le_refl _) (zj8 s.heap I.big),rfl,h _ (I.hok.fresh (Nat.le_refl _))⟩
end
structure M1 (X:Cx) (o:Expr) (m:Str) (apos:Pos) (e:Expr) (cpos:Pos):Prop where
 base:attributeBase o m X.env (eval o X.env)=eval o X.env
 few:((backTo cpos (starEach [e] X.env)).all (fun x=>!x.1)&&(backToKw cpos (keywordEach [] X.env)).all (fun x=>x.1.isSome)
  && decide (([e]:List Expr).length+([]:List Keyword).length+(if ([]:List Keyword).isEmpty then 0 else 1)<30))=true
 line:(apos.endLine==cpos.line)=true
 trees:backTo cpos (starEach [e] X.env)=[(false,eval e X.env)]
structure M2 (X:Cx) (o:Expr) (m:Str) (apos:Pos) (e f:Expr) (cpos:Pos):Prop where
 base:attributeBase o m X.env (eval o X.env)=eval o X.env
 few:((backTo cpos (starEach [e,f] X.env)).all (fun x=>!x.1)&&(backToKw cpos (keywordEach [] X.env)).all (fun x=>x.1.isSome)
  && decide (([e,f]:List Expr).length+([]:List Keyword).length+(if ([]:List Keyword).isEmpty then 0 else 1)<30))=true
 line:(apos.endLine==cpos.line)=true
 trees:backTo cpos (starEach [e,f] X.env)=[(false,eval e X.env),(false,eval f X.env)]
section
variable {X:Cx} {pins:List (Addr×Obj)} {σ:St} {H:Hp} {s:Shared} {a:Addr} {y d:V} {u r:Value} {o:Option V} {A:Around} {E:Value→Shared→Prop}
end
section
variable {X:Cx} {o e f:Expr} {apos cpos:Pos} {td ty tx:TE}
end
section
variable {X:Cx} {pins:List (Addr×Obj)} {σ:St} {H:Hp} {s:Shared} {a:Addr} {kvs:List (Key×V)} {A:Around} {E:Value→Shared→Prop}
end
section
variable {X:Cx} {pins:List (Addr×Obj)} {σ:St} {H:Hp} {s:Shared} {a:Addr} {y:V} {u:Value} {A:Around} {E:Value→Shared→Prop}
end
end L2
namespace L2
open PySem PySem.Spec PyProof.Rows
def XO (h:Heap) (a:Addr) (C:Value) (d:Option Addr) (head:Value):Prop :=
 ∃oe vs,h.get? a=some oe∧oe.cls=C∧oe.dict=d∧oe.data=.fields vs∧vs.size=6∧vs[1]?=some head
def TB (h:Heap) (T:Addr) (fl:Value):Prop:=∃oT ts,h.get? T=some oT∧oT.data=.fields ts∧ts[3]?=some fl
theorem zeK (o:Obj) (f):(o.mapFields f).dict=o.dict:=by
 obtain ⟨c,d,dt,sl⟩:=o
 cases dt<;>rfl
theorem XO.keeps {h h':Heap} {a:Addr} {C:Value} {d:Option Addr} {head:Value} (x:XO h a C d head) (k:∀o,h.get? a=some o→h'.get? a=some o):XO h' a C d head:=by
 obtain ⟨oe,vs,e,r⟩:=x
 exact ⟨oe,vs,k _ e,r⟩
theorem TB.keeps {h h':Heap} {T:Addr} {fl:Value} (x:TB h T fl) (k:∀o,h.get? T=some o→h'.get? T=some o):TB h' T fl:=by
 obtain ⟨oT,ts,e,r⟩:=x
 exact ⟨oT,ts,k _ e,r⟩
theorem XO.set1 {h:Heap} {a:Addr} {C:Value} {d:Option Addr} {head:Value} (x:XO h a C d head) (u:Value):XO (h.update a (Obj.mapFields (·.setIfInBounds 1 u))) a C d u:=by
 obtain ⟨oe,vs,e,hc,hdi,hd,hz,h1⟩:=x
 have hd':=Obj.data_mapFields hd (·.setIfInBounds 1 u)
 refine ⟨_,_,Heap.get?_update_self _ e (Obj.isFreed_of_fields hd'),(Obj.cls_mapFields _ _).trans hc,(zeK _ _).trans hdi,hd',?_,?_⟩
 ·rw [Array.size_setIfInBounds];exact hz
 ·have:1<vs.size:=by omega
  simp [this]
theorem TB.set3 {h:Heap} {T:Addr} {fl:Value} (x:TB h T fl) (u:Value):TB (h.update T (Obj.mapFields (·.setIfInBounds 3 u))) T u:=by
 obtain ⟨oT,ts,e,hd,h3⟩:=x
 have hd':=Obj.data_mapFields hd (·.setIfInBounds 3 u)
 refine ⟨_,_,Heap.get?_update_self _ e (Obj.isFreed_of_fields hd'),hd',?_⟩
 have:3<ts.size:=(Array.getElem?_eq_some_iff.mp h3).1
 simp [this]
section
variable {M:Model} {A:Around} {E:Value→Shared→Prop} {s:Shared} {base:Heap} {env:Env} {outer:List Env} {L a:Addr} {C:Value} {d:Option Addr} {head:Value} {Q:Unit→Shared→Prop}
theorem zfI {b2:Bool} (hfr:A.frames=some (env::outer)) (hl:s.heap.FunFrames base (env::outer)) (hf:env.frame=some L) (x:XO s.heap a C d head)
  (h:∀h' T,s.heap.objs.size≤T→XO h' a C d (.ref T)→TB h' T (rawInt L)→(∀b o,b≠a→b∉frs (env::outer)→s.heap.get? b=some o→h'.get? b=some o) →
   (∀b o,b≠a→b∈frs (env::outer)→s.heap.get? b=some o→∃sl,h'.get? b=some { o with slots:=sl })→Q () { s with heap:=h' }) :
  wpAny M A (do let fr ←frameOf env;let pl ←entryPlaceOf L b2;let tb ←EntryCells.newEntry head fr .none (rawInt L) .none pl;setField (.ref a) 1 tb) Q E s:=by
 obtain ⟨oe,vs,e,hc,hdi,hd,hz,h1⟩:=id x
 have aN:a∉frs (env::outer):=fun hm=>by
  obtain ⟨_,o,ho,nf⟩:=hl.mem hm
  rw [e] at ho
  cases ho
  exact nf vs hd
 refine wpAny_bind (wpAny_frameOf_fun hfr hl hf fun g1 sl1=>wpAny_bind (wpAny_entryPlaceOf fun pl ipl=>?_))
 unfold EntryCells.newEntry newFields
 refine wpAny_bind (wpAny_newObj_type ?_ (ipl.sizeOk5 _ _ _ _ _))
 have x1:XO g1 a C d head:=⟨oe,vs,(sl1.2.1 a aN).trans e,hc,hdi,hd,hz,h1⟩
 generalize hob:({ cls:=.type "traceback", dict:=none,data:=.fields ([head,.ref L,.none,rawInt L,.none]++(if pl.isEmpty then List.replicate 6 Value.none else pl)).toArray }:Obj)=ob
 have x2:XO (g1.push ob) a C d head:=x1.keeps fun o q=>Heap.get?_push_of_some _ q
 obtain ⟨oe2,vs2,e2,_,_,hd2,hz2,_⟩:=id x2
 refine wpAny_setField e2 hd2 (by omega) ?_
 have aT:g1.objs.size≠a:=fun z=>by
  obtain ⟨_,_,q,_⟩:=x1
  have:=Heap.lt_size q
  rw [←z] at this
  exact Nat.lt_irrefl _ this
 have szle:s.heap.objs.size≤g1.objs.size:=Nat.le_of_eq sl1.1.symm
 refine h _ g1.objs.size szle (x2.set1 _) ?_ (fun b o nb nf q=>?_) (fun b o nb nf q=>?_)
 ·have t0:TB (g1.push ob) g1.objs.size (rawInt L):=by
   refine ⟨ob,_,Heap.get?_push_size _ (by rw [←hob];rfl),by rw [←hob],?_⟩
   rcases ipl with rfl|⟨_,_,_,_,_,_,_,rfl⟩<;>simp
  exact t0.keeps fun o q=>(Heap.get?_update_other _ _ (Ne.symm aT)).trans q
 ·exact (Heap.get?_update_other _ _ (Ne.symm nb)).trans (Heap.get?_push_of_some _ ((sl1.2.1 b nf).trans q))
 ·obtain ⟨sl,z⟩:=sl1.2.2 b o q
  exact ⟨sl,(Heap.get?_update_other _ _ (Ne.symm nb)).trans (Heap.get?_push_of_some _ z)⟩
theorem zlN (hfr:A.frames=some (env::outer)) (hl:s.heap.FunFrames base (env::outer)) (hf:env.frame=some L) (x:XO s.heap a C d head)
  (ht:head=.none∨∃T0,head=.ref T0∧T0≠a∧TB s.heap T0 .none)
  (h:∀h' T,s.heap.objs.size≤T→XO h' a C d (.ref T)→TB h' T (rawInt L)→(∀b o,b≠a→.ref b≠head→b∉frs (env::outer)→s.heap.get? b=some o→h'.get? b=some o) →
   (∀b o,b∈frs (env::outer)→s.heap.get? b=some o→∃sl,h'.get? b=some { o with slots:=sl })→Q () { s with heap:=h' }) :
  wpAny M A (noteFrame (.ref a) env) Q E s:=by
 obtain ⟨oe,vs,e,hc,hdi,hd,hz,h1⟩:=id x
 have aN:a∉frs (env::outer):=fun hm=>by
  obtain ⟨_,o,ho,nf⟩:=hl.mem hm
  rw [e] at ho
  cases ho
  exact nf vs hd
 unfold noteFrame
 simp only [hf]
 refine wpAny_bind (wpAny_field e hd h1 ?_)
 rcases ht with rfl|⟨T0,rfl,nT,t0⟩
 ·rw [if_neg (by decide)]
  exact zfI hfr hl hf x fun h' T k1 k2 k3 k4 k5=>h h' T k1 k2 k3 (fun b o nb _ nf q=>k4 b o nb nf q) fun b o hb q=>k5 b o (fun z=>aN (z▸hb)) hb q
 ·obtain ⟨oT,ts,eT,hdT,h3⟩:=id t0
  have TN:T0∉frs (env::outer):=fun hm=>by
   obtain ⟨_,o,ho,nf⟩:=hl.mem hm
   rw [eT] at ho
   cases ho
   exact nf ts hdT
  rw [if_pos (show (Value.ref T0 != Value.none)=true from by simp)]
  refine wpAny_bind (wpAny_field eT hdT h3 ?_)
  rw [if_neg (show ¬((Value.none==rawInt L)=true) from by simp [rawInt])]
  refine wpAny_bind (wpAny_setField eT hdT (Array.getElem?_eq_some_iff.mp h3).1 ?_)
  have oth:∀b,b≠T0→(s.heap.update T0 (Obj.mapFields (·.setIfInBounds 3 Value.none))).get? b=s.heap.get? b:=fun b hb=>Heap.get?_update_other _ _ (Ne.symm hb)
  refine zfI (s:={ s with heap:=s.heap.update T0 (Obj.mapFields (·.setIfInBounds 3 Value.none)) }) hfr (hl.of_keeps fun b o hb nf=>⟨o,(oth b fun q=>?_).trans hb,rfl⟩) hf (x.keeps fun o q=>(oth a (Ne.symm nT)).trans q) fun h' T k1 k2 k3 k4 k5 =>
   h h' T (by simpa using k1) k2 k3 (fun b o nb nh nf q=>k4 b o nb nf ((oth b fun z=>nh (by rw [z])).trans q)) fun b o hb q=>k5 b o (fun z=>aN (z▸hb)) hb ((oth b fun z=>TN (z▸hb)).trans q)
  rw [q,eT] at hb
  cases hb
  exact nf ts hdT
theorem ziu {T:Addr} {fl:Value} (x:XO s.heap a C d (.ref T)) (t:TB s.heap T fl) (ne:T≠a)
  (h:∀h',XO h' a C d (.ref T)→TB h' T .none→(∀b o,b≠T→s.heap.get? b=some o→h'.get? b=some o)→h'.objs.size=s.heap.objs.size→Q () { s with heap:=h' }):wpAny M A (setFlight (.ref a) none) Q E s:=by
 obtain ⟨oe,vs,e,_,_,hd,_,h1⟩:=id x
 obtain ⟨oT,ts,eT,hdT,h3⟩:=id t
 unfold setFlight
 refine wpAny_bind (wpAny_field e hd h1 ?_)
 rw [if_pos (show (Value.ref T != Value.none)=true from by simp)]
 refine wpAny_setField eT hdT (Array.getElem?_eq_some_iff.mp h3).1 ?_
 exact h _ (x.keeps fun o q=>(Heap.get?_update_other _ _ ne).trans q) (t.set3 _) (fun b o nb q=>(Heap.get?_update_other _ _ (Ne.symm nb)).trans q) (by simp)
end
end L2
namespace L2
open PySem PySem.Spec PyProof.Rows
def OwnRec (X:Cx) (pins:List (Addr×Obj)) (H:Hp) (b:Addr):Prop :=
 H b=none∧X.s₀.heap.objs.size≤b∧b≠X.env.locals∧(∀x c,X.env.cells.lookup x=some c→c≠b)∧∀p∈X.pn++pins,p.1≠b
theorem OwnRec.new {X:Cx} {pins:List (Addr×Obj)} {σ:St} {H H':Hp} {s:Shared} {b:Addr} (I:Inv X pins σ H s) (hb:s.heap.objs.size≤b) (hn:H' b=none):OwnRec X pins H' b:=by
 obtain ⟨f0,f1,f2,f3,f4,f5⟩:=I.fpOk (H':=H') hb hn
 exact ⟨hn,Nat.le_trans I.sz hb,f1,f4,f5⟩
def Fly (X:Cx) (pins:List (Addr×Obj)) (H:Hp) (h:Heap) (a C:Addr) (d:Option Addr):Prop :=
 ∃head,XO h a (.ref C) d head∧OwnRec X pins H a∧(head=.none∨∃T,head=.ref T∧T≠a∧TB h T .none∧OwnRec X pins H T)
def Throws (X:Cx) (E:XK):Prop:=∀(pins:List (Addr×Obj)) (σ:St) (H:Hp) (s:Shared) (a C:Addr) (d:Option Addr),Inv X pins σ H s→Fly X pins H s.heap a C d→E (.ref C) d H→X.xe (.ref a) s
def CXe (P:Program) (w:World):CXT:=fun outer H s E e s'=>∃(a C T:Addr) (d:Option Addr) (H':Hp),e=.ref a∧s'.os=s.os∧AllBare s'.gens∧Un (frs outer) [] H H' s.heap s'.heap∧HOk P w H' s'.heap ∧
 XO s'.heap a (.ref C) d (.ref T)∧T≠a∧TB s'.heap T .none∧(s.heap.objs.size≤a∧H' a=none)∧(s.heap.objs.size≤T∧H' T=none)∧E (.ref C) d H'
theorem ziv {X:Cx} {E:XK} (t:Throws X E):Passes (CXe X.prog X.w) X E:=by
 rintro pins σ H s e s' I ⟨a,C,T,d,H',rfl,os,bare,un,hok,x,ne,tb,⟨a1,a2⟩,⟨t1,t2⟩,q⟩
 have I':Inv X pins σ H' s':=I.call' (ch:=[]) os un hok bare fun b z=>absurd z (by simp)
 exact t pins σ H' s' a C d I' ⟨_,x,OwnRec.new I a1 a2,.inr ⟨T,rfl,ne,tb,OwnRec.new I t1 t2⟩⟩ q
def chOf (a:Addr):Value→List Addr
 | .ref T0=>[a,T0]
 | _=>[a]
theorem zk2 (a:Addr) (v:Value):a∈chOf a v:=by cases v<;>simp [chOf]
theorem zk3 (a T0:Addr):T0∈chOf a (.ref T0):=by simp [chOf]
section
variable {X:Cx} {pins:List (Addr×Obj)} {σ:St} {H:Hp} {s:Shared} {a C:Addr} {d:Option Addr} {A:Around} {E:Value→Shared→Prop} {Q:Unit→Shared→Prop}
theorem zgX (I:Inv X pins σ H s) (hfr:A.frames=some X.stack) (hst:X.stack=X.env::X.outer) (hf:X.env.frame=some X.env.locals) (F:Fly X pins H s.heap a C d)
  (h:∀s' T,Inv X pins σ H s'→XO s'.heap a (.ref C) d (.ref T)→T≠a→TB s'.heap T (rawInt X.env.locals)→OwnRec X pins H a→OwnRec X pins H T→Q () s'):wpAny (model X.prog X.w) A (noteFrame (.ref a) X.env) Q E s:=by
 obtain ⟨head,x,oa,ht⟩:=F
 have hl:s.heap.FunFrames X.base (X.env::X.outer):=hst▸I.stack
 have hfr':A.frames=some (X.env::X.outer):=hfr.trans (congrArg some hst)
 have efr:frs (X.env::X.outer)=X.env.locals::X.fs:=by
  unfold frs
  rw [List.filterMap_cons,hf]
  rfl
 have hfree:∀b∈X.env.locals::X.fs,H b=none:=fun b hb=>I.stkFree b (by rw [hst,efr];exact hb)
 have headN:∀b u,H b=some u→Value.ref b≠head:=fun b u e z=>by
  rcases ht with rfl|⟨T0,rfl,_,_,r⟩
  ·cases z
  ·cases z
   rw [r.1] at e
   cases e
 refine zlN hfr' hl hf x (ht.imp id fun ⟨T0,e1,e2,e3,_⟩=>⟨T0,e1,e2,e3⟩) fun h' T k1 k2 k3 k4 k5=>?_
 rw [efr] at k4 k5
 have oT:OwnRec X pins H T:=OwnRec.new I k1 (I.hok.fresh k1)
 have neT:T≠a:=fun z=>by
  obtain ⟨_,_,e,_⟩:=x
  have:=Heap.lt_size e
  rw [←z] at this
  exact Nat.lt_irrefl _ (Nat.lt_of_lt_of_le this k1)
 refine h { s with heap:=h' } T ?_ k2 neT k3 oa oT
 refine I.step (g':=s.gens) (t':=s.toks) (d':=s.drawn) (ch:=chOf a head) (fun b hb=>?_) (fun b o n1 n2 n3 e n=>k4 b o (fun z=>n3 ?_) (fun z=>n3 ?_) (fun z=>(List.mem_cons.mp z).elim n1 n2) e)
  (fun b o n1 n2 n3 e n=>k5 b o (List.mem_cons_of_mem _ n2) e) (fun _ _ _ _ n=>n) (fun b o n3 e=>?_) (fun _ _ e=>e) (fun _ _ _ e=>e) (fun b ps e=>⟨#[],by rw [e];simp⟩) (fun m hm=>?_) (fun b u e=>?_) I.bare
 ·have own:OwnRec X pins H b:=by
   rcases ht with rfl|⟨T0,rfl,_,_,r⟩
   ·have z:b=a:=by simpa [chOf] using hb
    rw [z];exact oa
   ·have z:b=a∨b=T0:=by simpa [chOf] using hb
    rcases z with z|z
    ·rw [z];exact oa
    ·rw [z];exact r
  exact ⟨.inr own.2.1,own.2.2.1,own.2.2.2.1,own.2.2.2.2⟩
 ·rw [z]
  exact zk2 a head
 ·rw [←z]
  exact zk3 a b
 ·by_cases hb:b∈X.env.locals::X.fs
  ·obtain ⟨sl,z⟩:=k5 b o hb e
   exact ⟨_,z⟩
  ·exact ⟨o,k4 b o (fun z=>n3 (by rw [z];exact zk2 a head)) (fun z=>n3 (by rw [←z];exact zk3 a b)) hb e⟩
 ·obtain ⟨o,es,ep,ho,r⟩:=hm
  obtain ⟨sl,z⟩:=k5 _ o List.mem_cons_self ho
  exact ⟨_,es,ep,z,r⟩
 ·refine (I.hok b u e).stay (fun c v hc q=>?_) (fun _ q=>q) fun _ _ q=>q
  have tr:∃u',H c=some u':=by
   rcases hc with z|z
   ·exact ⟨u,by rw [z];exact e⟩
   ·exact ⟨_,z⟩
  obtain ⟨u',eu⟩:=tr
  exact k4 c v (fun z=>by rw [z,oa.1] at eu;cases eu) (headN c u' eu) (fun z=>by rw [hfree c z] at eu;cases eu) q
theorem zfa {T:Addr} {fl:Value} (I:Inv X pins σ H s) (x:XO s.heap a (.ref C) d (.ref T)) (ne:T≠a) (tb:TB s.heap T fl) (oa:OwnRec X pins H a) (oT:OwnRec X pins H T)
  (h:∀s',Inv X pins σ H s'→XO s'.heap a (.ref C) d (.ref T)→TB s'.heap T .none→Q () s'):wpAny (model X.prog X.w) A (setFlight (.ref a) none) Q E s:=by
 refine ziu x tb ne fun h' k1 k2 k3 _=>h { s with heap:=h' } ?_ k1 k2
 exact I.turned (t':=s.toks) (it:=T) (fun b o nb e=>k3 b o nb e) oT.1 oT.2.2.1 (.inr oT.2.1) oT.2.2.2.1 oT.2.2.2.2
end
section
variable {P:Program} {w:World} {K:PySem.W.Frag} {mg:Str→Option Value} {base:Heap}
theorem Fun.okX {x qual:Str} {st:Stmt} {f:Addr} {fd:FuncData} {N ps:List Str} {k:Nat} {sp:Sp} (F:Fun K x qual st f fd) (S:FnScope N ps (defScope st)) (len:∀vs H Q E,sp vs H Q E→vs.length=ps.length)
  (hbody:∀(cdv:Value) (A:Around) (outer:List Env) (s:Shared) (H:Hp) (vs:List V) (Q:VK) (E:XK),Room k (A.deeper (envOfC qual (defScope st) s.heap.objs.size f cdv))→sp vs H Q E →
   ∃t,PSs (cxOf (CXe P w) P w K mg base N qual (defScope st) f cdv A outer s H E) (defBody st) t∧t { nx:=fun _ H'=>Q .non H',rt:=Q } (start N vs) H):FnOk P w K mg base (CXe P w) (k+1) f fd ps sp:=by
 obtain ⟨oc,od,kV,doc,pm,an,cdv,ct,osl,rfl,lk,hcd⟩:=F.ex
 exact zns lk hcd S len fun A outer s H vs Q E hr hsp=>hbody cdv A outer s H vs Q E hr hsp
end
end L2
namespace L2
open PySem PySem.Spec PyProof.Rows PySem.W PySem.Builtin PySem.Builtin.ObjectAttr
theorem zhI (self:Value):refuseLoop self "__setattr__" [.type "ValueError", .type "Exception", .type "BaseException", .type "object"]=pure ():=by kernel_rfl
def valLine:List Value→Bool
 | [.type a,.type b,.type c,.type d]=>a == "ValueError" && b == "Exception" && c == "BaseException" && d == "object"
 | .ref _::r=>valLine r
 | _=>false
theorem zet (self:Value):∀{l:List Value},valLine l=true→refuseLoop self "__setattr__" l=pure ()
 | [.type a,.type b,.type c,.type d],e=>by
  simp only [valLine,Bool.and_eq_true,beq_iff_eq] at e
  obtain ⟨⟨⟨rfl,rfl⟩,rfl⟩,rfl⟩:=e
  exact zhI self
 | .ref c::r,e=>by
  rw [refuseLoop_ref]
  exact zet self (by cases r<;>first|exact e|cases e)
theorem zgY:∀{l:List Value},valLine l=true→l.contains (.type "object")=true
 | [.type a,.type b,.type c,.type d],e=>by
  simp only [valLine,Bool.and_eq_true,beq_iff_eq] at e
  obtain ⟨⟨⟨rfl,rfl⟩,rfl⟩,rfl⟩:=e
  simp
 | .ref c::r,e=>by
  rw [List.contains_cons,zgY (l:=r) (by cases r<;>first|exact e|cases e),Bool.or_true]
def lineIn (K:Frag) (C:Addr):Bool:=(clsIn K C).any fun cd=>valLine cd.mro
section
variable {prog:Program} {w:World} {A:Around} {E:Value→Shared→Prop} {K:Frag} {x C:Addr} {s:Shared} {R:Result→Shared→Prop}
theorem zka {ox:Obj} {od:Option Obj} {name:Str} {tk:Tok} {v:Value} (X:K.In s.heap) (I:InstAt s.heap x ox C od) (hp:lineIn K C=true) (ht:takerIn K C name=some none)
  (h:∀b,wpAny (model prog w) A.in1 (storeInOwnDict (.ref x) (.ref C) (.str name tk) name v b)
   (fun fin s'=>match fin with | .done f=>R (.ok f) s' | .again c'=>c'.quiet=true∧codeAny (model prog w) A c' R s') (fun e s'=>R (.error e) s') s) :
  codeAny (model prog w) A (.call (.builtin "object.__setattr__") ⟨[.ref x,.str name tk,v],[]⟩) R s:=by
 have SO:=PySem.F.store_object
 obtain ⟨cd,hc,ho⟩:=any_some hp
 have ne:cd.mro.isEmpty=false:=by
  cases q:cd.mro with
  | nil=>rw [q] at ho;cases ho
  | cons _ _=>rfl
 have isO:Looks (model prog w) s.heap (isInstance (.ref x) (.type "object")) true:=I.type.andThen (looks_mroIn X (by unfold mroIn;rw [hc,Option.bind_some,if_neg (by rw [ne];decide),zgY ho]))
 refine codeAny_call_builtin SO.slot.plain SO.entry (@check_slot (model prog w) _ _ s "object.__setattr__" "object" "__setattr__" (.ref x) [.str name tk,v] [] _ SO.kind SO.split isO (SO.args (.ref x) (.str name tk) v) ?_)
 obtain ⟨attr,ha,hr⟩:=Option.bind_eq_some_iff.mp ht
 have mr:Looks (model prog w) s.heap (mroOf (.ref C)) cd.mro:=(looks_clsIn X hc).andThen .now
 have tk0:Looks (model prog w) s.heap (storeTaker? attr) none:=by
  cases attr with
  | none=>exact .now
  | some a =>
   obtain ⟨b,hb,e⟩:=Option.map_eq_some_iff.mp hr
   refine (looks_takesIn X hb).andThen ?_
   cases b with
   | true=>cases e
   | false=>exact .now
 rw [osa_eq,refuse_eq]
 refine wpAny_bind (wpAny_bind (I.type.here (wpAny_bind (mr.here ?_))))
 rw [zet _ ho]
 refine wpAny_pure (wpAny_bind (I.type.here (wpAny_bind ((looks_findIn X ha).here (wpAny_bind (tk0.here ?_))))))
 exact h _
theorem zlO {t:Addr} {name:Str} {v:Value} {Q:Unit→Shared→Prop} (X:K.In s.heap) (he:s.heap.get? x=some { cls:=.ref C,data:=.fields #[.ref t,.none,.none,.none,.bool false,.none] })
  (hs:findIn K (.ref C) "__setattr__" = some (some (.builtin "object.__setattr__"))) (hp:lineIn K C=true) (ht:takerIn K C name=some none) (hh:hasDictIn K C=true)
  (h:∀h',h'.get? x=some { cls:=.ref C,dict:=some s.heap.objs.size,data:=.fields #[.ref t,.none,.none,.none,.bool false,.none] }→h'.Ns1 s.heap.objs.size (fun y=>if y=name then some v else none) →
   (∀b o,b≠x→s.heap.get? b=some o→h'.get? b=some o)→∀tk,Q () { s with heap:=h',toks:=tk }):wpAny (model prog w) A (setAttr (.ref x) name v) Q E s:=by
 have J:InstAt s.heap x { cls:=.ref C,data:=.fields #[.ref t,.none,.none,.none,.bool false,.none] } C none:=⟨he,rfl,rfl,trivial⟩
 refine set_plain X J hs (zka (s:={ s with toks:=s.toks+1 }) X J hp ht fun b=>?_)
 obtain ⟨cd,hc,hd'⟩:=any_some hh
 have xl:=Heap.lt_size he
 refine wpAny_bind (wpAny_pure (wpAny_bind (wpAny_bind (wpAny_loadPart he (wpAny_bind (Looks.here (s:={ s with toks:=s.toks+1 }) (looks_clsIn X hc) ?_))))))
 rw [hd']
 show wpAny (model prog w) A.in1 (do
  let d ←alloc { cls:=.type "dict", data:=.dict #[] }
  update x fun o=>{ o with dict:=some d }
  dictMade (.ref C) x d) _ _ _
 refine wpAny_bind (wpAny_alloc (wpAny_bind (wpAny_update (Heap.get?_push_of_some _ he) ?_)))
 refine wpAny_pure (a:=some s.heap.objs.size) (wpAny_bind (wpAny_pure (wpAny_bind ?_)))
 have xn:s.heap.objs.size≠x:=Nat.ne_of_gt xl
 have ex:((s.heap.push { cls:=.type "dict", data:=.dict #[] }).update x fun o=>{ o with dict:=some s.heap.objs.size }).get? x=some { cls:=.ref C,dict:=some s.heap.objs.size,data:=.fields #[.ref t,.none,.none,.none,.bool false,.none] } :=
  Heap.get?_update_self _ (Heap.get?_push_of_some _ he) rfl
 have ed:((s.heap.push { cls:=.type "dict", data:=.dict #[] }).update x fun o=>{ o with dict:=some s.heap.objs.size }).get? s.heap.objs.size=some { cls:=.type "dict", data:=.dict #[] } :=
  (Heap.get?_update_other _ _ (Ne.symm xn)).trans (Heap.get?_push_size _ rfl)
 have en:((s.heap.push { cls:=.type "dict", data:=.dict #[] }).update x fun o=>{ o with dict:=some s.heap.objs.size }).Ns1 s.heap.objs.size (fun _=>none) :=
  Heap.Ns1.of_empty ⟨_,#[],_,ed,rfl,(fun e he=>absurd he (by simp)),fun _=>rfl⟩
 refine wpAny_nsSet1 (s:={ s with heap:=(s.heap.push { cls:=.type "dict", data:=.dict #[] }).update x fun o=>{ o with dict:=some s.heap.objs.size },toks:=s.toks+1 }) en fun h' hn2 hs2=>?_
 obtain ⟨oD,esD,epD,hoD,hdD,hcD⟩:=hn2.count (PySem.Within.cons (ns:=[]) name v fun y hy=>absurd rfl hy)
 refine wpAny_bind (wpAny_lookBehind hoD (by rw [hdD];exact pastItsLine_dict (Nat.le_trans hcD (by simp))) ?_)
 refine wpAny_pure (h h' ((hs2.2 x (Ne.symm xn)).trans ex) hn2 (fun b o nb e=>(hs2.2 b (Nat.ne_of_lt (Heap.lt_size e))).trans ((Heap.get?_update_other _ _ (Ne.symm nb)).trans (Heap.get?_push_of_some _ e))) _)
end
end L2
namespace L2
open PySem PySem.Spec PyProof.Rows PySem.W PySem.Builtin PySem.Builtin.ObjectAttr
section
variable {prog:Program} {w:World} {A:Around} {h:Heap} {g:Array GenState} {d:Drawn} {t:Nat} {os:OsState} {R:Result→Shared→Prop}
variable {nm q:Str} {C N f:Addr} {bs bm bmB:List Value} {hdct:Bool} {sn:List Str} {sub:List Value} {ab:Bool} {col:Option Bool} {dd:Option Addr} {k0 k1 k2 k3 k5:Option Value} {B newId initId:String}
theorem zkb (F:ExcBaseFacts B newId initId bmB) (T:OwnTail h bmB bm) {mN:Str→Option Value} {rest:List Value}
  (hC:h.get? C=some (excClassObj nm q C N bs bm hdct sn sub ab col dd k0 k1 k2 k3 k5 newId)) (hn:h.Ns N mN) (hi:mN "__init__" = some (.ref f))
  (hb:∀self,Looks (model prog w) h (bindSpecial (.ref f) self) (.ref f,[self])) (hrest:rest.length≤sizeLine)
  (hq:codeAny (model prog w) (A.under (.builtin "type.__call__" ⟨.ref C::rest,[]⟩)) (.call (.ref f) ⟨.ref (h.objs.size+1)::rest,[]⟩) (InitBack (h.objs.size+1) R)
   ⟨(h.push { cls:=.type "tuple", data:=.seq rest.toArray }).push { cls:=.ref C,data:=.fields #[.ref h.objs.size,.none,.none,.none,.bool false,.none] },g,d,t,os⟩) :
  codeAny (model prog w) A (.call (.ref C) ⟨rest,[]⟩) R ⟨h,g,d,t,os⟩:=by
 have u1:=tc_lookup
 have u2:=tc_bind (.ref C)
 have hT:(⟨h,g,d,t,os⟩:Shared).TypeIs (.ref C) "type" := ⟨_,hC,rfl⟩
 refine codeAny_of_tree ?_
 show wpAny _ _ (callAny (.ref C) _) _ _ _
 repeat (any_goals (first|assumption|with_reducible refine wpAny_loadPart_at hC ?_|wp_step))
 refine ⟨rfl,codeAny_call_builtin_at (Code.quiet_builtin _ (by decide +kernel)) entry_typeCall (wpAny_check_type_call_sub hC ?_)⟩
 repeat (first|with_reducible refine wpAny_loadPart_at hC ?_|with_reducible refine wpAny_madeBy_exc hC ?_|wp_step)
 refine codeAny_call_builtin_code (Code.quiet_builtin _ F.quiet) (wpAny_check_new_subT F T hC (codeAny_exc_new_subT F T hC ?_ hrest))
 change wpAny (model prog w) (A.under (.builtin "type.__call__" ⟨.ref C::rest,[]⟩)) _ _ _ ⟨(h.push { cls:=.type "tuple", data:=.seq rest.toArray }).push { cls:=.ref C,data:=.fields #[.ref h.objs.size,.none,.none,.none,.bool false,.none] },g,d,t,os⟩
 generalize hg2:(h.push { cls:=.type "tuple", data:=.seq rest.toArray }).push { cls:=.ref C,data:=.fields #[.ref h.objs.size,.none,.none,.none,.bool false,.none] }=h2 at hq ⊢
 have kp:∀b o,h.get? b=some o→h2.get? b=some o:=fun b o e=>hg2▸Heap.get?_push_of_some _ (Heap.get?_push_of_some _ e)
 have gx:h2.get? (h.objs.size+1)=some { cls:=.ref C,data:=.fields #[.ref h.objs.size,.none,.none,.none,.bool false,.none] }:=by
  rw [←hg2]
  heap_get
 have C2:=kp _ _ hC
 have T2:=T.keeps kp
 have n2:=hn.keeps kp
 have cC:(Value.ref C::bm).contains (.ref C)=true:=by simp
 unfold isInstance
 repeat (first|with_reducible refine wpAny_loadPart_at gx ?_|(with_reducible refine wpAny_isSubtype_exc C2 ?_;rw [cC])|wp_step)
 show wpAny _ _ (typeLookup (.ref C) _) _ _ _
 refine wpAny_typeLookup_tail C2 n2 T2 F.mroIs F.init.lookup ?_
 rw [hi]
 refine wpAny_holding (wpAny_bind (((hb _).keeps kp).here (s:=⟨h2,g,d,t,os⟩) (wpAny_bind (wpAny_call (codeAny_mono hq fun r s' z=>?_)))))
 cases r with
 | error e=>exact z
 | ok fl =>
  cases fl with
  | ret v =>
   obtain ⟨rfl,z⟩:=z
   exact wpAny_pure (wpAny_pure z)
  | next=>exact z.elim
  | brk=>exact z.elim
  | cont=>exact z.elim
end
def exO (C t:Addr) (d:Option Addr) (a:Addr):HO:=.ext fun h=>h.get? a=some { cls:=.ref C,dict:=d,data:=.fields #[.ref t,.none,.none,.none,.bool false,.none] }
structure ExCls (K:PySem.W.Frag) (C:Addr) (f:Str):Prop where
 sa:PySem.W.findIn K (.ref C) "__setattr__" = some (some (.builtin "object.__setattr__"))
 line:lineIn K C=true
 no:PySem.W.takerIn K C f=some none
 hd:PySem.W.hasDictIn K C=true
def sFldE (K:PySem.W.Frag) (ta tv:TE) (f:Str):TS:=fun D σ H=>tv σ H fun y H1=>ta σ H1 fun x H2=>∃a C t,x=.ref a∧H2 a=some (exO C t none a)∧ExCls K C f ∧
 ∀d,H2 d=none→D.nx σ (upd (upd H2 d (.xd [(f,y)])) a (exO C t (some d) a))
theorem ziw {X:Cx} {o value:Expr} {f:Str} {pos pos':Pos} {ta tv:TE} (ha:PE X o ta) (hv:PE X value tv) (hs:swapsWith value (some (.Attribute o f pos')) pos.line X.env=pure false):PS X (.Assign [.Attribute o f pos'] value pos) (sFldE X.K ta tv f):=by
 intro pins s σ H D I h
 refine plainObj_wpAny_Assign_Attribute (thn (hv pins s σ H _ I h) fun u s1 ⟨y,H1,I1,ry,q⟩=>thn (ha pins s1 σ H1 _ I1 q) fun ov s2 ⟨x,H2,I2,rx,a,C,t,ex,ea,c,q2⟩=>?_) hs
 subst ex
 obtain rfl:ov=Value.ref a:=rx
 have he:s2.heap.get? a=some { cls:=.ref C,dict:=none,data:=.fields #[.ref t,.none,.none,.none,.bool false,.none] }:=(I2.hok a _ ea).1
 refine zlO I2.kIn he c.sa c.line c.no c.hd fun h' g1 g2 g3 tk=>?_
 have fr:H2 s2.heap.objs.size=none:=I2.hok.fresh (Nat.le_refl _)
 have na:a≠s2.heap.objs.size:=Nat.ne_of_lt (Heap.lt_size he)
 refine ⟨σ,_,?_,q2 s2.heap.objs.size fr⟩
 have old:∀b o,s2.heap.get? b=some o→b≠s2.heap.objs.size:=fun b o e=>Nat.ne_of_lt (Heap.lt_size e)
 have ne_a:∀b,H2 b=none→b≠a:=fun b n z=>by rw [z,ea] at n;cases n
 have upEq:∀b,b≠a→b≠s2.heap.objs.size→(upd (upd H2 s2.heap.objs.size (.xd [(f,y)])) a (exO C t (some s2.heap.objs.size) a)) b=H2 b:=fun b n1 n2=>by rw [zu n1,zu n2]
 have isN:∀b u,H2 b=some u→b≠s2.heap.objs.size:=fun b u e z=>by rw [z,fr] at e;cases e
 refine I2.un (t':=tk) ⟨fun b o e n _ _=>g3 b o (ne_a b n) e,fun b o e n _ _=>⟨o.slots,g3 b o (ne_a b n) e⟩,fun b o e n _=>by rw [upEq b (ne_a b n) (old b o e)];exact n,fun b o e _=>?_,fun b xs e=>?_,fun b o u e=>?_,fun b ps e=>?_⟩ fun b uo e=>?_
 ·by_cases z:b=a
  ·exact ⟨_,z▸g1⟩
  ·exact ⟨o,g3 b o z e⟩
 ·have z:b≠a:=fun z=>by rw [z,ea] at e;cases e
  rw [upEq b z (isN b _ e)];exact e
 ·have z:b≠a:=fun z=>by rw [z,ea] at e;cases e
  rw [upEq b z (isN b _ e)];exact e
 ·have z:b≠a:=fun z=>by rw [z,ea] at e;cases e
  exact ⟨#[],by rw [upEq b z (isN b _ e),e];simp⟩
 ·by_cases z:b=a
  ·rw [z] at e ⊢
   rw [zx] at e
   cases e
   exact ⟨g1,⟨_,g1⟩,fun h1 h2 p k=>k _ p⟩
  ·rw [zu z] at e
   by_cases z2:b=s2.heap.objs.size
   ·rw [z2] at e ⊢
    rw [zx] at e
    cases e
    refine ⟨_,g2,fun n=>?_⟩
    show RelO (List.lookup n [(f,y)]) (if n=f then some u else none)
    rw [List.lookup_cons]
    by_cases w':n=f
    ·rw [if_pos w',w',beq_self_eq_true]
     exact ry
    ·rw [if_neg w',beq_eq_false_iff_ne.mpr w']
     exact True.intro
   ·rw [zu z2] at e
    refine (I2.hok b uo e).stay (fun c v hc w'=>g3 c v ?_ w') (fun c w'=>?_) fun c xs w'=>?_
    ·rcases hc with w2|w2
     ·rw [w2];exact z
     ·intro w3
      rw [w3,ea] at w2
      cases w2
    ·have n1:c≠a:=fun w3=>by rw [w3,ea] at w';cases w'
     rw [upEq c n1 (isN c _ w')];exact w'
    ·have n1:c≠a:=fun w3=>by rw [w3,ea] at w';cases w'
     rw [upEq c n1 (isN c _ w')];exact w'
end L2
namespace L2
open PySem PySem.Spec PyProof.Rows PySem.W PySem.Builtin PySem.Builtin.ObjectAttr
abbrev veLine:List Value:=[.type "ValueError", .type "Exception", .type "BaseException", .type "object"]
theorem zhJ {K:Frag} {h:Heap} {N:Addr} {mN:Str→Option Value} {n:Str} {v:Value} (X:K.In h) (G:h.Ns N mN) (e:nsIn K N n=some (some v)):mN n=some v:=by
 obtain ⟨o,es,ep,ho,hd,_,hf⟩:=G
 unfold nsIn at e
 split at e
 ·rename_i q
  have:=X _ _ q
  rw [ho] at this
  cases this
  cases hd
  split at e
  ·rename_i he
   cases e
   rw [←hf]
   unfold nsFind findBy
   rw [←Array.find?_toList,he]
   rfl
  ·split at e<;>cases e
 ·cases e
structure ExOf (K:Frag) (C:Addr):Prop where
 ob:∃nm q N bs bm hdct sn sub ab col dd k0 k1 k2 k3 k5,K.lookup C=some (excClassObj nm q C N bs bm hdct sn sub ab col dd k0 k1 k2 k3 k5 "ValueError.__new__")∧tailIn K veLine bm=true∧nsOkIn K N=true
 kp:keepIn K (.ref C)=true
structure ExMk (K:Frag) (C f:Addr):Prop where
 ob:∃nm q N bs bm hdct sn sub ab col dd k0 k1 k2 k3 k5,K.lookup C=some (excClassObj nm q C N bs bm hdct sn sub ab col dd k0 k1 k2 k3 k5 "ValueError.__new__")∧tailIn K veLine bm=true∧nsOkIn K N=true∧nsIn K N "__init__" = some (some (.ref f))
 fn:isFn K (.ref f)=true
 kp:keepIn K (.ref C)=true
theorem ExMk.of {K:Frag} {C f:Addr} (x:ExMk K C f):ExOf K C:=by
 obtain ⟨⟨nm,q,N,bs,bm,hdct,sn,sub,ab,col,dd,k0,k1,k2,k3,k5,a,b,c,_⟩,_,k⟩:=x
 exact ⟨⟨nm,q,N,bs,bm,hdct,sn,sub,ab,col,dd,k0,k1,k2,k3,k5,a,b,c⟩,k⟩
def del (H:Hp) (a:Addr):Hp:=fun b=>if b=a then none else H b
theorem zfb {H:Hp} {a:Addr}:del H a a=none:=if_pos rfl
theorem zeu {H:Hp} {a b:Addr} (h:b≠a):del H a b=H b:=if_neg h
theorem zlP {H:Hp} {a:Addr} {o:HO} (h:H a=none):del (upd H a o) a=H:=by
 funext b
 by_cases z:b=a
 ·rw [z,zfb,h]
 ·rw [zeu z,zu z]
theorem zkc {H:Hp} {a b:Addr} {o o':HO} (n:a≠b):upd (upd H a o) b o'=upd (upd H b o') a o:=by
 funext c
 by_cases z:c=a
 ·rw [z,zu n,zx,zx]
 ·by_cases z2:c=b
  ·rw [z2,zx,zu (Ne.symm n),zx]
  ·rw [zu z2,zu z,zu z,zu z2]
theorem Inv.drop {X:Cx} {pins:List (Addr×Obj)} {σ:St} {H:Hp} {s:Shared} {a:Addr} {φ:Heap→Prop} (I:Inv X pins σ H s) (ha:H a=some (.ext φ)):Inv X pins σ (del H a) s:=by
 have ne:∀b u,H b=some u→(∀φ,u ≠ .ext φ)→b≠a:=fun b u e n z=>by
  rw [z,ha] at e
  cases e
  exact n _ rfl
 have t:Inv X pins σ (del H a) { s with heap:=s.heap,toks:=s.toks }:=I.un ⟨fun b o e _ _ _=>e,fun b o e _ _ _=>⟨o.slots,e⟩,fun b o e n _=>?_,fun b o e _=>⟨o,e⟩,fun b xs e=>?_,fun b o u e=>?_,fun b ps e=>?_⟩ fun b u e=>?_
 ·exact t
 ·unfold del
  split<;>first|rfl|exact n
 ·rw [zeu (ne b _ e fun _ z=>by cases z)];exact e
 ·rw [zeu (ne b _ e fun _ z=>by cases z)];exact e
 ·exact ⟨#[],by rw [zeu (ne b _ e fun _ z=>by cases z),e];simp⟩
 ·have z:b≠a:=fun z=>by rw [z,zfb] at e;cases e
  rw [zeu z] at e
  refine (I.hok b u e).stay (fun _ _ _ q=>q) (fun c q=>?_) fun c xs q=>?_
  ·rw [zeu (ne c _ q fun _ z=>by cases z)];exact q
  ·rw [zeu (ne c _ q fun _ z=>by cases z)];exact q
section
variable {M:Model} {A:Around} {E:Value→Shared→Prop} {env:Env} {s:Shared}
theorem zhK {K:Frag} {x:Sem Value} {Q:Flow→Shared→Prop} (hh:A.handled=none)
  (h:wpAny M A x (fun v s₁=>∃e C t d,v=.ref e∧K.In s₁.heap∧ExOf K C∧s₁.heap.get? e=some { cls:=.ref C,dict:=d,data:=.fields #[.ref t,.none,.none,.none,.bool false,.none] }∧E (.ref e) s₁) E s):wpAny M A (raiseStmt env (some x) none) Q E s:=by
 unfold raiseStmt
 refine wpAny_bind (wpAny_mono h (fun v s₁ h₁=>?_) fun _ _ x=>x)
 obtain ⟨e,C,tt,dx,rfl,kin,⟨⟨nm,q,N,bs,bm,hdct,sn,sub,ab,col,dd,k0,k1,k2,k3,k5,hC,ht,_⟩,_⟩,he,hE⟩:=h₁
 have hC:=kin _ _ hC
 have hbase:bm.contains (.type "BaseException")=true:=(tail_of_in kin ht).hasType (by decide)
 have hcB:(Value.ref C::bm).contains (.type "BaseException")=true:=by rw [List.contains_cons,hbase,Bool.or_true]
 obtain ⟨hp,g,d,tk,os⟩:=s₁
 repeat (first|with_reducible refine wpAny_loadPart_at he ?_|with_reducible refine wpAny_loadPart_at hC ?_|(with_reducible refine wpAny_isSubtype_exc hC ?_;rw [hcB])|wp_step)
 exact wpAny_raiseNew_none hh hE
end
section
variable {X:Cx} {CX:CXT} {k:Nat} {f C:Addr} {fd:FuncData} {ps:List Str} {sp:Sp} {E:XK}
theorem zhL {pins:List (Addr×Obj)} {σ:St} {H:Hp} {s:Shared} {Q:VK} {us:List Value} {vs:List V} (M:ExMk X.K C f) (F:FnOk X.prog X.w X.K X.mg X.base CX k f fd ps sp) (hr:Room (k+1) X.A) (hb:Binds X.K fd ps [])
  (hx:Passes CX X E) (I:Inv X pins σ H s) (r:Vals vs us) (hz:us.length≤sizeLine)
  (h:∀x t,OwnRec X pins H x→sp (.ref x::vs) (upd H x (exO C t none x)) (fun v H2=>v=.non∧Q (.ref x) H2) E) :
  wpAny (model X.prog X.w) X.A (call (.ref C) us) (EP X pins σ Q) X.xe s:=by
 obtain ⟨⟨nm,q,N,bs,bm,hdct,sn,sub,ab,col,dd,k0,k1,k2,k3,k5,hC,ht,hok,hi⟩,hfn,_⟩:=M
 have szl:s.heap.objs.size≤s.heap.objs.size+1:=Nat.le_succ _
 have fr1:H (s.heap.objs.size+1)=none:=I.hok.fresh szl
 have hq:=h (s.heap.objs.size+1) s.heap.objs.size (OwnRec.new I szl fr1)
 let o1:Obj:={ cls:=.type "tuple", data:=.seq us.toArray }
 let o2:Obj:={ cls:=.ref C,data:=.fields #[.ref s.heap.objs.size,.none,.none,.none,.bool false,.none] }
 have e2:((s.heap.push o1).push o2).get? (s.heap.objs.size+1)=some o2:=by
  have:=Heap.get?_push_size (s.heap.push o1) (o:=o2) rfl
  rwa [Heap.size_push] at this
 have I1:Inv X pins σ H { s with heap:=s.heap.push o1,toks:=s.toks }:=I.kept fun b u q=>Heap.get?_push_of_some _ q
 have I2:Inv X pins σ (upd H (s.heap.objs.size+1) (exO C s.heap.objs.size none (s.heap.objs.size+1))) { s with heap:=(s.heap.push o1).push o2 } :=
  I1.laid (a:=s.heap.objs.size+1) (o:=exO C s.heap.objs.size none (s.heap.objs.size+1)) (t':=s.toks) (fun b u q=>Heap.get?_push_of_some _ q) (Nat.le_of_eq (Heap.size_push _ _)) ⟨e2,⟨_,e2⟩,fun h1 h2 p k=>k _ p⟩
 have r2:Vals (V.ref (s.heap.objs.size+1)::vs) (Value.ref (s.heap.objs.size+1)::us):=.cons rfl r
 have hl:(Value.ref (s.heap.objs.size+1)::us++[]).length=ps.length:=by
  have e:=r2.length
  rw [F.len _ _ _ _ hq] at e
  rw [List.append_nil]
  exact e.symm
 have hbd:=hb { s with heap:=(s.heap.push o1).push o2 } (Value.ref (s.heap.objs.size+1)::us) I2.kIn hl
 rw [List.append_nil] at hbd
 obtain ⟨hp,g,d,tk,os⟩:=s
 refine wpAny_call (zkb (f:=f) PySem.F.excBase_ValueError (tail_of_in I.kIn ht) (I.kIn _ _ hC) (.of_isNs (isNs_of_in I.kIn hok)) (zhJ I.kIn (.of_isNs (isNs_of_in I.kIn hok)) hi)
  (fun self=>bind_fn I.kIn self (beq_iff_eq.mp hfn)) hz (codeAny_mono (F.run _ X.stack _ _ ⟨Value.ref (hp.objs.size+1)::us,[]⟩ (Value.ref (hp.objs.size+1)::us) _ _ E (hr.make C us [])
  (I2.env0.make C us []) hbd r2 hq) fun r s' hq'=>?_))
 cases r with
 | error e=>exact hx pins σ _ _ e s' I2 hq'
 | ok fl =>
  cases fl with
  | ret u =>
   obtain ⟨v,H',I3,rv,ev,q3⟩:=I2.after hq'
   subst ev
   exact ⟨rv,⟨V.ref (hp.objs.size+1),H',I3,rfl,q3⟩⟩
  | next=>exact False.elim hq'
  | brk=>exact False.elim hq'
  | cont=>exact False.elim hq'
def znE (C:Addr) (f:Str):Sp:=fun vs H Q _=>∃a t y,vs=[.ref a,y]∧H a=some (exO C t none a)∧∀d,H d=none→Q .non (upd (upd H d (.xd [(f,y)])) a (exO C t (some d) a))
def zlQ (C:Addr) (f:Str) (te:TE) (Er:XK):TS:=fun _ σ H=>te σ H fun y H1=>∀d,H1 d=none→Er (.ref C) (some d) (upd H1 d (.xd [(f,y)]))
theorem zix {x fld:Str} {e:Expr} {te:TE} {np cpos pos:Pos} {Er:XK} (he:PE X e te) (M:ExMk X.K C f) (F:FnOk X.prog X.w X.K X.mg X.base CX k f fd ps (znE C fld)) (hr:Room (k+1) X.A) (hg:Gl X x) (hm:X.mg x=some (.ref C))
  (hb:Binds X.K fd ps []) (hx:Passes CX X Er) (ht:Throws X Er) (hc:X.calm=true) (hdb:(x==("__debug__" : Str))=false:=by decide)
  (hs:starEach [e] X.env=(false,eval e X.env)::starEach [] X.env:=by rfl):PS X (.Raise (some (.Call (.Name x np) [e] [] cpos)) none pos) (zlQ C fld te Er):=by
 intro pins s σ H D I h
 rw [arm_exec_Raise]
 refine wpAny_bind (wpAny_standAt ?_)
 refine zhK (K:=X.K) (I.ok.hd hc) ?_
 refine wpAny_bind (thn (Q:=EP X pins σ fun v H2=>∃a t d,v=.ref a∧OwnRec X pins (del H2 a) a∧H2 a=some (exO C t (some d) a)∧Er (.ref C) (some d) (del H2 a)) ?_ fun u s1 ⟨v,H2,I2,rv,a,t,d,ev,ow,ha,q⟩=>wpAny_bind (wpAny_standAt (wpAny_pure ?_)))
 ·refine wpAny_Call_Name_kw (zel I hg hm ?_ hdb)
  refine PySem.W.callWith_K (h₀:=X.base) I.ok.mod.kin M.kp (spliced_more (thn (he pins s σ H _ I h) fun u s1 ⟨y,H1,I1,ry,q⟩=>?_) hs) hs rfl
  refine spliced_none ⟨I1.kIn,?_⟩
  refine zhL (vs:=[y]) M F hr hb hx I1 (.cons ry .nil) (show 1≤sizeLine by decide) fun a t ow=>⟨a,t,y,rfl,zx,fun d hd=>⟨rfl,a,t,d,rfl,?_,zx,?_⟩⟩
  ·exact ⟨zfb,ow.2⟩
  ·have n:d≠a:=fun z=>by rw [z,zx] at hd;cases hd
   rw [zu n] at hd
   have e1:del (upd (upd (upd H1 a (exO C t none a)) d (.xd [(fld,y)])) a (exO C t (some d) a)) a=upd H1 d (.xd [(fld,y)]):=by
    rw [zkc (Ne.symm n),zlr]
    exact zlP (by rw [zu (Ne.symm n)];exact ow.1)
   rw [e1]
   exact q d hd
 ·subst ev
  obtain rfl:u=Value.ref a:=rv
  have he:s1.heap.get? a=some { cls:=.ref C,dict:=some d,data:=.fields #[.ref t,.none,.none,.none,.bool false,.none] }:=(I2.hok a _ ha).1
  exact ⟨a,C,t,some d,rfl,I2.kIn,M.of,he,ht pins σ _ s1 a C (some d) (Inv.drop I2 ha) ⟨.none,⟨_,_,he,rfl,rfl,rfl,rfl,rfl⟩,ow,.inl rfl⟩ q⟩
end
end L2
namespace L2
open PySem PySem.Spec PyProof.Rows PySem.W PySem.Builtin PySem.Builtin.ObjectAttr
def XP (X:Cx) (pins:List (Addr×Obj)) (σ:St) (E:XK) (u:Value) (s':Shared):Prop:=∃(a C:Addr) (d:Option Addr) (H':Hp),u=.ref a∧Inv X pins σ H' s'∧Fly X pins H' s'.heap a C d∧E (.ref C) d H'
abbrev TX:=St→Hp→VK→XK→Prop
def PX (X:Cx) (e:Expr) (t:TX):Prop :=
 ∀(pins:List (Addr×Obj)) (s:Shared) (σ:St) (H:Hp) (Q:VK) (E:XK),Inv X pins σ H s→t σ H Q E→wpAny (model X.prog X.w) X.A (eval e X.env) (EP X pins σ Q) (XP X pins σ E) s
section
variable {X:Cx} {k:Nat} {f C:Addr} {fd:FuncData} {ps:List Str} {sp:Sp} {dvs:List V} {ds:List Value} {E:XK} {x m:Str} {p pos apos:Pos} {e o:Expr} {es:List Expr} {ta:TE} {t:TA}
theorem zlR {pins:List (Addr×Obj)} {σ:St} {H:Hp} {s:Shared} {Q:VK} {us:List Value} {vs:List V} (F:FnOk X.prog X.w X.K X.mg X.base (CXe X.prog X.w) k f fd ps sp) (hr:Room k X.A) (hb:Binds X.K fd ps ds) (hd:Vals dvs ds)
  (I:Inv X pins σ H s) (r:Vals vs us) (h:sp (vs++dvs) H Q E):wpAny (model X.prog X.w) X.A (call (.ref f) us) (EP X pins σ Q) (XP X pins σ E) s:=by
 have r2:Vals (vs++dvs) (us++ds):=r.append hd
 have hl:(us++ds).length=ps.length:=by rw [←r2.length];exact F.len _ _ _ _ h
 refine wpAny_call (codeAny_mono (F.run X.A X.stack s H ⟨us,[]⟩ (us++ds) (vs++dvs) Q E hr I.env0 (hb s us I.kIn hl) r2 h) fun r s' hq=>?_)
 cases r with
 | error e =>
  obtain ⟨a,C,T,d,H',rfl,os,bare,un,hok,x,ne,tb,⟨a1,a2⟩,⟨t1,t2⟩,q⟩:=hq
  have I':Inv X pins σ H' s':=I.call' (ch:=[]) os un hok bare fun b z=>absurd z (by simp)
  exact ⟨a,C,d,H',rfl,I',⟨_,x,OwnRec.new I a1 a2,.inr ⟨T,rfl,ne,tb,OwnRec.new I t1 t2⟩⟩,q⟩
 | ok fl =>
  cases fl with
  | ret u=>exact I.after hq
  | next=>exact False.elim hq
  | brk=>exact False.elim hq
  | cont=>exact False.elim hq
end
def exC (C:Addr) (d:Option Addr) (a:Addr):HO:=.ext fun h=>∃T:Addr,XO h a (.ref C) d (.ref T)
abbrev Cx.caught (X:Cx) (a:Addr):Cx:={ X with A:=X.A.mark (some (.ref a)),calm:=false,xe:=fun _ _=>False }
section
variable {X:Cx} {pins:List (Addr×Obj)} {σ:St} {H:Hp} {s:Shared} {a C:Addr} {d:Option Addr}
theorem Inv.caught (I:Inv X pins σ H s) (a:Addr):Inv (X.caught a) pins σ H s :=
 ⟨⟨I.ok.mod,I.ok.kind,I.ok.glob,I.ok.blt,I.ok.above,I.ok.inj,I.ok.has,I.ok.cab,(fun z=>nomatch z),I.ok.frames,I.ok.stk,I.ok.exf,I.ok.bs,I.ok.bsz,I.ok.noex,I.ok.exfs,I.ok.funs,I.ok.frf⟩,I.os,I.bare,I.base,I.loc,I.cell,I.free,I.freeC,I.pin,I.hok,I.len⟩
theorem Inv.uncaught (J:X.Ok) (I:Inv (X.caught a) pins σ H s):Inv X pins σ H s:=⟨J,I.os,I.bare,I.base,I.loc,I.cell,I.free,I.freeC,I.pin,I.hok,I.len⟩
theorem Inv.track {o:HO} (I:Inv X pins σ H s) (ow:OwnRec X pins H a) (new:ObjOk X.prog X.w (upd H a o) s.heap a o):Inv X pins σ (upd H a o) s:=by
 have ne:∀b u,H b=some u→b≠a:=fun b u e z=>by rw [z,ow.1] at e;cases e
 have t:=I.step (h':=s.heap) (H':=upd H a o) (g':=s.gens) (t':=s.toks) (d':=s.drawn) (ch:=[a]) (fun b hb=>?_) (fun b u _ _ _ e _=>e) (fun b u _ _ _ e _=>⟨u.slots,e⟩) (fun b u nb e n=>?_) (fun b u _ e=>⟨u,e⟩) (fun b xs e=>?_) (fun b u v e=>?_) (fun b ps e=>?_) (fun m hm=>hm) (fun b u e=>?_) I.bare
 ·exact t
 ·have z:b=a:=by simpa using hb
  rw [z]
  exact ⟨.inr ow.2.1,ow.2.2.1,ow.2.2.2.1,ow.2.2.2.2⟩
 ·rw [zu (fun z=>nb (by simp [z]))];exact n
 ·rw [zu (ne b _ e)];exact e
 ·rw [zu (ne b _ e)];exact e
 ·exact ⟨#[],by rw [zu (ne b _ e),e];simp⟩
 ·by_cases z:b=a
  ·rw [z] at e ⊢
   rw [zx] at e
   cases e
   exact new
  ·rw [zu z] at e
   exact (I.hok b u e).stay (fun _ _ _ q=>q) (fun c q=>by rw [zu (ne c _ q)];exact q) fun c xs q=>by rw [zu (ne c _ q)];exact q
theorem Inv.catch {T:Addr} (I:Inv X pins σ H s) (ow:OwnRec X pins H a) (x:XO s.heap a (.ref C) d (.ref T)):Inv X pins σ (upd H a (exC C d a)) s :=
 Inv.track I ow ⟨⟨T,x⟩,(let ⟨oe,_,e,_⟩:=x;⟨oe,e⟩),fun h1 h2 p k=>let ⟨T,z⟩:=p;⟨T,z.keeps fun o q=>k o q⟩⟩
theorem ziy {M:Model} {A:Around} {E:Value→Shared→Prop} {j:Nat} {n:Str} {pos:Pos} {Q:Unit→Shared→Prop} (I:Inv X pins σ H s) (hN:X.N.Nodup) (hj:X.N[j]?=some n) (hk:X.env.scope.names.lookup n=some .local)
  (h:∀s',Inv X pins (σ.set j none) H s'→Q () s'):wpAny M A (do bindName X.env n .none;unbindBehindTheSuite X.env n pos) Q E s:=by
 obtain ⟨m,hn,hl⟩:=id I.loc
 have hcls:(X.env.scope.kind == .class||(X.env.scope.kind == .module&&X.env.locals != X.env.globals))=false:=by rw [I.ok.kind];rfl
 have hiσ:j<σ.length:=by rw [I.len];exact (List.getElem?_eq_some_iff.mp hj).1
 have cne:=I.cne
 obtain ⟨oL,_,_,hoL,_⟩:=id hn
 refine wpAny_nameGoes_keeps hk hn hcls fun h' v hn' hs=>?_
 refine h _ ⟨I.ok,I.os,I.bare,⟨fun b o e n hb hx=>?_,fun b o e n hb hx=>?_,I.base.free,fun b o e hx=>?_,I.base.tups,I.base.frzs,I.base.tbls⟩,⟨_,hn',fun i y v' e1 e2 e3=>?_⟩,fun y c e=>?_,I.free,I.freeC,fun p hp=>?_,fun b ob e=>?_,by simpa using I.len⟩
 ·exact (hs.2 b (Nat.ne_of_lt (Nat.lt_of_lt_of_le (Heap.lt_size e) I.ok.above))).trans (I.base.keep b o e n hb hx)
 ·obtain ⟨sl,e1⟩:=I.base.slot b o e n hb hx
  exact ⟨sl,(hs.2 b (Nat.ne_of_lt (Nat.lt_of_lt_of_le (Heap.lt_size e) I.ok.above))).trans e1⟩
 ·obtain ⟨o',e1⟩:=I.base.there b o e hx
  exact ⟨o',(hs.2 b (Nat.ne_of_lt (Nat.lt_of_lt_of_le (Heap.lt_size e) I.ok.above))).trans e1⟩
 ·by_cases hi:i=j
  ·subst hi
   rw [List.getElem?_set_self hiσ] at e2
   cases e2
  ·rw [List.getElem?_set_ne (Ne.symm hi)] at e2
   obtain ⟨u',r',q⟩:=hl i y v' e1 e2 e3
   refine ⟨u',r',?_⟩
   rcases q with ⟨k,e⟩|⟨k,c,e,z⟩
   ·refine .inl ⟨k,?_⟩
    have:y≠n:=fun e=>hi (ze6 hN e1 (e▸hj))
    simp [this,e]
   ·exact .inr ⟨k,c,e,z.sameBut hs (cne y c e)⟩
 ·obtain ⟨w',z⟩:=I.cell y c e
  exact ⟨w',z.sameBut hs (cne y c e)⟩
 ·obtain ⟨e,n,ne,nf,d⟩:=I.pin p hp
  exact ⟨(hs.2 p.1 ne).trans e,n,ne,nf,d⟩
 ·refine (I.hok b ob e).stay (fun c w' hc q=>(hs.2 c ?_).trans q) (fun _ q=>q) fun _ _ q=>q
  rintro rfl
  rcases hc with rfl|hc
  ·rw [I.free] at e;cases e
  ·rw [I.free] at hc;cases hc
end
end L2
namespace L2
open PySem PySem.Spec PyProof.Rows PySem.W PySem.Builtin PySem.Builtin.ObjectAttr
section
variable {X:Cx} {pins:List (Addr×Obj)} {σ:St} {H:Hp} {s:Shared} {a C d:Addr} {fs:List (Str×V)} {A:Around} {E:Value→Shared→Prop}
theorem zk4 (I:Inv X pins σ H s) (ha:H a=some (exC C (some d) a)) (hd:H d=some (.xd fs)):∃ox od,InstAt s.heap a ox C (some od)∧∀n,∃o,lookIn n od=some o∧RelO (fs.lookup n) o:=by
 obtain ⟨T,oe,vs,e,hc,hdi,hdt,_⟩:=(show ObjOk X.prog X.w H s.heap a (exC C (some d) a) from I.hok a _ ha).1
 obtain ⟨mA,hn,r⟩:=(show ObjOk X.prog X.w H s.heap d (.xd fs) from I.hok d _ hd)
 obtain ⟨od,ho,hl⟩:=zfy hn
 refine ⟨oe,od,⟨e,hc,by unfold notCls;rw [hdt],by rw [hdi];exact ho⟩,fun n=>⟨mA n,hl n,r n⟩⟩
end
theorem ExMk.mk' {K:Frag} {C B N f:Addr} {nm q:Str} {bs:List Value} {hdct:Bool} {sn:List Str} {sub:List Value} {ab:Bool} {col:Option Bool} {dd:Option Addr} {k0 k1 k2 k3 k5:Option Value} {c:Value} {d:Option Addr} {es:Array DictEntry} {n:Nat} {sl:Array (Option Value)}
  (hC:K.lookup C=some (excClassObj nm q C N bs (.ref B::veLine) hdct sn sub ab col dd k0 k1 k2 k3 k5 "ValueError.__new__")) (hB:excIn K B veLine "ValueError.__new__" = true)
  (hN:K.lookup N=some ⟨c,d,.dict es n,sl⟩) (he:(es.all fun e=>match e.key with | .str _ _=>true|_=>false)=true) (hi:nsIn K N "__init__" = some (some (.ref f))) (fn:isFn K (.ref f)=true) (kp:keepIn K (.ref C)=true):ExMk K C f:=by
 refine ⟨⟨nm,q,N,bs,_,hdct,sn,sub,ab,col,dd,k0,k1,k2,k3,k5,hC,?_,?_,hi⟩,fn,kp⟩
 ·unfold excIn at hB
  split at hB
  ·rename_i dd cd sl ho
   split at hB
   ·simp only [Bool.and_eq_true,beq_iff_eq,Bool.not_eq_true'] at hB
    obtain ⟨⟨_,hok⟩,hni⟩:=hB
    unfold tailIn
    dsimp only
    rw [ho]
    have t0:tailIn K veLine veLine=true:=by unfold tailIn;rw [beq_self_eq_true,Bool.true_or]
    simp only [hok,hni,beq_self_eq_true,Bool.true_and,t0,Bool.or_true]
   ·cases hB
  ·cases hB
 ·unfold nsOkIn
  rw [hN]
  exact he
end L2
namespace L2
open PySem PySem.Spec PyProof.Rows PySem.W PySem.Builtin PySem.Builtin.ObjectAttr
def Has (X:Cx) (CX:CXT) (k:Nat) (f:Addr) (sp:Sp):Prop:=∃fd ps,FnOk X.prog X.w X.K X.mg X.base CX k f fd ps sp∧keepIn X.K (.ref f)=true∧Binds X.K fd ps []
def tCallV (X:Cx) (CX:CXT) (k:Nat) (E:XK) (tf:TE) (t:TA):TE:=fun σ H Q=>tf σ H fun v H0=>∃f sp,v=.ref f∧Has X CX k f sp∧t σ H0 fun vs H1=>sp vs H1 Q E
theorem zkd {X:Cx} {CX:CXT} {k:Nat} {E:XK} {x:Str} {p pos:Pos} {e:Expr} {es:List Expr} {tf:TE} {t:TA} (hf:PE X (.Name x p) tf) (hr:Room k X.A) (hx:Passes CX X E) (ha:PA X (e::es) t)
  (he:starEach (e::es) X.env=(false,eval e X.env)::starEach es X.env:=by rfl) (hpl:(backTo pos (starEach es X.env)).any (·.1)=false:=by rfl):PE X (.Call (.Name x p) (e::es) [] pos) (tCallV X CX k E tf t):=by
 intro pins s σ H Q I h
 refine wpAny_Call_Name_kw (thn (hf pins s σ H _ I h) fun u s1 ⟨v,H0,I0,rv,f,sp,ev,⟨fd,ps,F,hk,hb⟩,q⟩=>?_)
 subst ev
 obtain rfl:u=Value.ref f:=rv
 refine PySem.W.callWith_K (h₀:=X.base) I.ok.mod.kin hk (thn (ha pos pins s1 σ H0 _ I0 q) fun us s2 ⟨vs,H1,I1,r,q1⟩=>⟨I1.kIn,?_⟩) he hpl
 exact zgR F hr hb .nil hx I1 r (by rw [List.append_nil];exact q1)
section
variable {prog:Program} {w:World} {A:Around} {E:Value→Shared→Prop} {h:Heap} {g:Array GenState} {d:Drawn} {t:Nat} {os:OsState}
variable {nm q:Str} {C N:Addr} {bs bm bmB:List Value} {hdct:Bool} {sn:List Str} {sub:List Value} {ab:Bool} {col:Option Bool} {dd:Option Addr} {k0 k1 k2 k3 k5:Option Value} {B newId initId:String}
end
def sRaise0 (C:Addr) (Er:XK):TS:=fun _ _ H=>Er (.ref C) none H
end L2
namespace L2
open PySem PySem.Spec PyProof.Rows PySem.W
def Noted (X:Cx) (pins:List (Addr×Obj)) (H:Hp) (h:Heap) (a C:Addr) (d:Option Addr):Prop :=
 ∃T,XO h a (.ref C) d (.ref T)∧T≠a∧TB h T (rawInt X.env.locals)∧OwnRec X pins H a∧OwnRec X pins H T
def zoQ (X:Cx) (pins:List (Addr×Obj)) (H:Hp) (h:Heap) (a C:Addr) (d:Option Addr):Prop:=Fly X pins H h a C d∨Noted X pins H h a C d
def zaL (X:Cx) (E:XK):Prop:=∀(pins:List (Addr×Obj)) (σ:St) (H:Hp) (s:Shared) (a C:Addr) (d:Option Addr),Inv X pins σ H s→zoQ X pins H s.heap a C d→E (.ref C) d H→X.xe (.ref a) s
theorem zaL.one {X:Cx} {E:XK} (t:zaL X E):Throws X E:=fun pins σ H s a C d I F q=>t pins σ H s a C d I (.inl F) q
def XA (X:Cx) (Er:XK) (e:Value) (s:Shared):Prop:=∃(pins:List (Addr×Obj)) (σ:St) (H:Hp) (a C:Addr) (d:Option Addr),e=.ref a∧Inv X pins σ H s∧zoQ X pins H s.heap a C d∧Er (.ref C) d H
section
variable {X:Cx} {pins:List (Addr×Obj)} {σ:St} {H:Hp} {s:Shared} {a C:Addr} {d:Option Addr} {A:Around} {E:Value→Shared→Prop} {Q:Unit→Shared→Prop} {Er:XK}
theorem zj:zaL (X.wish (XA X Er)) Er:=fun pins σ H s a C d I F q=>⟨pins,σ,H,a,C,d,rfl,I.unwish,F,q⟩
theorem zfJ (I:Inv X pins σ H s) (hfr:A.frames=some X.stack) (hst:X.stack=X.env::X.outer) (hf:X.env.frame=some X.env.locals) (F:zoQ X pins H s.heap a C d)
  (h:∀s' T,Inv X pins σ H s'→XO s'.heap a (.ref C) d (.ref T)→T≠a→TB s'.heap T (rawInt X.env.locals)→OwnRec X pins H a→OwnRec X pins H T→Q () s'):wpAny (model X.prog X.w) A (noteFrame (.ref a) X.env) Q E s:=by
 rcases F with F|⟨T,x,ne,tb,oa,oT⟩
 ·exact zgX I hfr hst hf F h
 ·obtain ⟨oe,vs,e,_,_,hd,_,h1⟩:=id x
  obtain ⟨ot,ts,et,hdt,h3⟩:=id tb
  unfold noteFrame
  simp only [hf]
  refine wpAny_bind (wpAny_field e hd h1 ?_)
  rw [if_pos (show (Value.ref T != Value.none)=true by simp)]
  refine wpAny_bind (wpAny_field et hdt h3 ?_)
  rw [if_pos (by simp)]
  exact wpAny_pure (h s T I x ne tb oa oT)
theorem zgt {T f:Addr} {fl:Value} (x:XO s.heap a (.ref C) d (.ref T)) (t:TB s.heap T fl) (ne:T≠a)
  (h:∀h',XO h' a (.ref C) d (.ref T)→TB h' T (rawInt f)→(∀b o,b≠T→s.heap.get? b=some o→h'.get? b=some o)→Q () { s with heap:=h' }) {M:Model}:wpAny M A (setFlight (.ref a) (some f)) Q E s:=by
 obtain ⟨oe,vs,e,_,_,hd,_,h1⟩:=id x
 obtain ⟨oT,ts,eT,hdT,h3⟩:=id t
 unfold setFlight
 refine wpAny_bind (wpAny_field e hd h1 ?_)
 rw [if_pos (show (Value.ref T != Value.none)=true by simp)]
 refine wpAny_setField eT hdT (Array.getElem?_eq_some_iff.mp h3).1 ?_
 exact h _ (x.keeps fun o q=>(Heap.get?_update_other _ _ ne).trans q) (t.set3 _) fun b o nb q=>(Heap.get?_update_other _ _ (Ne.symm nb)).trans q
theorem zbm (hst:X.stack=X.env::X.outer) (hf:X.env.frame=some X.env.locals):PassesOwn (model X.prog X.w) X.A X.env (XA X Er):=by
 rintro e s ⟨pins,σ,H,a,C,d,rfl,I,F,q⟩
 unfold notedBy
 refine zfJ I I.ok.frames hst hf F fun s2 T I2 x2 ne tb2 oa oT=>?_
 unfold cameBackBy
 obtain ⟨oe,vs,e2,_,_,hd,_,h1⟩:=id x2
 refine wpAny_bind (wpAny_field e2 hd h1 ?_)
 rw [if_neg (show ¬((Value.ref T==Value.none)=true) by simp),hf]
 refine zgt x2 tb2 ne fun h' x3 tb3 k3=>⟨pins,σ,H,a,C,d,rfl,?_,.inr ⟨T,x3,ne,tb3,oa,oT⟩,q⟩
 exact I2.turned (t':=s2.toks) (it:=T) (fun b o nb e=>k3 b o nb e) oT.1 oT.2.2.1 (.inr oT.2.1) oT.2.2.2.1 oT.2.2.2.2
theorem PSs.throwing {st:List Stmt} {t:TS} (h:PSs (X.wish (XA X Er)) st t) (ht:zaL X Er):PSs X st t:=fun pins s σ H D I hw =>
 wpAny_mono (h pins s σ H D (I.wish _) hw) (fun _ _ q=>q.unwish) fun e s' ⟨pins,σ,H,a,C,d,ee,I1,F,q⟩=>ee▸ht pins σ H s' a C d I1 F q
theorem zdJ (t:zaL X Er):Passes (CXe X.prog X.w) X Er:=ziv t.one
end
theorem zfK {P:Program} {w:World} {K:PySem.W.Frag} {mg:Str→Option Value} {base:Heap} {N:List Str} {qual:Str} {scope:Scope} {f:Addr} {cd:Value} {A:Around} {outer:List Env} {s:Shared} {H:Hp} {E:XK} :
  zaL (cxOf (CXe P w) P w K mg base N qual scope f cd A outer s H E) E:=by
 intro pins σ H1 s1 a C d I F q
 show wpAny (model P w) (A.deeper (envOfC qual scope s.heap.objs.size f cd)) (leaving (envOfC qual scope s.heap.objs.size f cd) (.ref a)) _ _ s1
 unfold leaving
 refine wpAny_bind (zfJ I I.ok.frames rfl rfl F fun s2 T I2 x ne tb oa oT=>zfa I2 x ne tb oa oT fun s3 I3 x3 tb3=>?_)
 exact ⟨a,C,T,d,H1,rfl,I3.os,I3.bare,I3.base,I3.hok,x3,ne,tb3,⟨oa.2.1,oa.1⟩,⟨oT.2.1,oT.1⟩,q⟩
section
variable {P:Program} {w:World} {K:PySem.W.Frag} {mg:Str→Option Value} {base:Heap}
theorem Fun.okT {x qual:Str} {st:Stmt} {f:Addr} {fd:FuncData} {N ps:List Str} {k:Nat} {sp:Sp} (F:Fun K x qual st f fd) (S:FnScope N ps (defScope st)) (len:∀vs H Q E,sp vs H Q E→vs.length=ps.length)
  (hbody:∀(cdv:Value) (A:Around) (outer:List Env) (s:Shared) (H:Hp) (vs:List V) (Q:VK) (E:XK),Room k (A.deeper (envOfC qual (defScope st) s.heap.objs.size f cdv))→sp vs H Q E →
   ∃t,PSs ((cxOf (CXe P w) P w K mg base N qual (defScope st) f cdv A outer s H E).wish (XA (cxOf (CXe P w) P w K mg base N qual (defScope st) f cdv A outer s H E) E)) (defBody st) t∧t { nx:=fun _ H'=>Q .non H',rt:=Q } (start N vs) H):FnOk P w K mg base (CXe P w) (k+1) f fd ps sp :=
 Fun.okX F S len fun cdv A outer s H vs Q E hr hs=>let ⟨t,h1,h2⟩:=hbody cdv A outer s H vs Q E hr hs;⟨t,PSs.throwing h1 zfK,h2⟩
end
end L2
namespace L2
open PySem PySem.Spec PyProof.Rows PySem.W PySem.Builtin PySem.Builtin.ObjectAttr
section
variable {prog:Program} {w:World} {A:Around} {E:Value→Shared→Prop} {K:Frag} {x C:Addr} {s:Shared} {ox:Obj} {od:Option Obj} {name:Str} {tk:Tok}
structure ExGa (K:Frag) (C:Addr):Prop where
 ga:findIn K (.ref C) "__getattribute__" = some (some (.builtin "BaseException.__getattribute__"))
 hk:findIn K (.ref C) "__getattr__" = some none
 hB:mroIn K C (.type "BaseException")=some true
theorem zk5 {fill expr:Bool} {Q:Value→Shared→Prop} (X:K.In s.heap) (I:InstAt s.heap x ox C od) (G:ExGa K C)
  (h:wpAny (model prog w) A.in1 (Builtin.«object.__getattribute__» ⟨[.ref x,.str name tk],[]⟩) (fun fin s'=>∃v,fin=.done (.ret v)∧handedIn v=true∧Q v s') (fun _ _=>False) s) :
  wpAny (model prog w) A (getAttrBy (.ref x) (.str name tk) fill expr) Q E s:=by
 have L0:=I.type (M:=model prog w)
 have L1:=looks_findIn (M:=model prog w) X G.ga
 have L2:=looks_findIn (M:=model prog w) X G.hk
 have isB:Looks (model prog w) s.heap (isInstance (.ref x) (.type "BaseException")) true:=I.type.andThen (looks_mroIn X G.hB)
 unfold getAttrBy
 refine wpAny_holding (wpAny_bind (L0.here (wpAny_bind (L1.here ?_))))
 dsimp only
 rw [if_neg (show ¬((onTheHeap (Value.ref C)&&Value.builtin "BaseException.__getattribute__" == Value.builtin "object.__getattribute__")=true) by
  rw [show (Value.builtin "BaseException.__getattribute__" == Value.builtin "object.__getattribute__")=false by decide +kernel,Bool.and_false];exact Bool.false_ne_true)]
 unfold getAttrByItsOwn hookBefore
 rw [if_pos (show onTheHeap (Value.ref C)=true from rfl)]
 refine wpAny_bind (L2.here (wpAny_bind (wpAny_attempt (wpAny_holding ?_))))
 unfold callGetattribute
 rw [if_neg (show ¬((expr&&onTheHeap (Value.builtin "BaseException.__getattribute__"))=true) by cases expr<;>exact Bool.false_ne_true)]
 unfold boundAndCalled
 refine wpAny_bind (wpAny_of_eq (PySem.F.excAttr_ValueError.ga.bind (.ref x)) ?_)
 refine wpAny_call (codeAny_call_builtin PySem.F.excAttr_ValueError.ga.plain PySem.F.entry_bexc_ga (@check_slot (model prog w) _ _ s "BaseException.__getattribute__" "BaseException" "__getattribute__" (.ref x) [.str name tk] [] _ (by decide +kernel) (by decide +kernel) isB (PySem.F.args_bexc_ga (.ref x) (.str name tk)) ?_))
 refine wpAny_mono h (fun fin s' ⟨v,ef,hv,q⟩=>?_) fun _ _ z=>z.elim
 subst ef
 show wpAny _ _ (handedOut v) _ _ _
 rw [handedOut_of hv]
 exact wpAny_pure q
theorem ziz {v:Value} {Q:Fin→Shared→Prop} (X:K.In s.heap) (I:InstAt s.heap x ox C od) (hf:findObj K C od name=some (.value v)) (h:Q (.done (.ret v)) s) :
  wpAny (model prog w) A (Builtin.«object.__getattribute__» ⟨[.ref x,.str name tk],[]⟩) Q E s:=by
 have L0:=I.type (M:=model prog w)
 have L1:=looks_find (M:=model prog w) X I hf
 exact wpAny_bind (wpAny_pure (wpAny_bind (wpAny_pure (wpAny_bind (L0.here (wpAny_bind (L1.here (wpAny_pure h))))))))
theorem zlS {Q:Fin→Shared→Prop} (X:K.In s.heap) (I:InstAt s.heap x ox C od) (hf:findObj K C od "__class__" = some (.bind (.builtin "getset_descriptor.__get__") (.builtin "object.__class__"))) (hm:mroIn K C (.type "object")=some true)
  (h:Q (.done (.ret (.ref C))) s):wpAny (model prog w) A (Builtin.«object.__getattribute__» ⟨[.ref x,.str "__class__" tk],[]⟩) Q E s:=by
 have L0:=I.type (M:=model prog w)
 have L1:=looks_find (M:=model prog w) X I hf
 refine wpAny_bind (wpAny_pure (wpAny_bind (wpAny_pure (wpAny_bind (L0.here (wpAny_bind (L1.here ?_)))))))
 show wpAny _ _ (holding [.builtin "object.__class__"] (call (.builtin "getset_descriptor.__get__") [.builtin "object.__class__", .ref x,.ref C]) >>= ret) _ _ _
 exact wpAny_bind (wpAny_holding (wpAny_call (class_get (ox:=ox) (od:=od) X I hm (wpAny_pure h))))
end
end L2
namespace L2
open PySem PySem.Spec PyProof.Rows PySem.W PySem.Builtin PySem.Builtin.ObjectAttr
theorem zke {K:Frag} {x D:Addr} {ox:Obj} {od:Option Obj} (G:ExGa K D) (hcl:(clsIn K D).isSome=true) (hf:findObj K D od "__class__" = some (.bind (.builtin "getset_descriptor.__get__") (.builtin "object.__class__"))) (hm:mroIn K D (.type "object")=some true) :
  KitX K (.ref x) (.ref D) (fun h=>InstAt h x ox D od):=by
 obtain ⟨cd,hc⟩:=Option.isSome_iff_exists.mp hcl
 unfold clsIn at hc
 split at hc
 ·rename_i c' d' cd' sl' ho
  refine ⟨fun _ _ _ I=>I.type,fun M h X _=>?_,fun h tp dd its n sl X htp=>?_,fun {prog w A E Q s} X I k=>?_⟩
  ·intro A' Q' E' s' k q
   unfold isType loadHead
   exact wpAny_bind (wpAny_loadPart (k _ _ (X _ _ ho)) (wpAny_pure q))
  ·refine Bool.eq_false_iff.mpr fun q=>?_
   obtain rfl:D=tp:=Value.ref.inj (beq_iff_eq.mp q)
   have z:=(X _ _ ho).symm.trans htp
   cases z
  ·unfold getAttr? getAttrBy?
   refine wpAny_bind (wpAny_mkText (wpAny_bind (wpAny_attempt ?_)))
   exact zk5 (s:={ s with toks:=s.toks+1 }) X I G (zlS (s:={ s with toks:=s.toks+1 }) X I hf hm ⟨_,rfl,rfl,wpAny_pure k⟩)
 ·cases hc
structure ExIs (K:Frag) (C:Addr):Prop where
 g:ExGa K C
 hd:hasDictIn K C=true
 ha:findIn K (.ref C) "__class__" = some (some (.builtin "object.__class__"))
 hn:specialIn K (.builtin "object.__class__") "__get__" = some (some (.builtin "getset_descriptor.__get__"))
 tk:takesIn K (.builtin "object.__class__")=some true
 hm:mroIn K C (.type "object")=some true
section
variable {X:Cx} {pins:List (Addr×Obj)} {σ:St} {H:Hp} {s:Shared} {a C d:Addr} {fs:List (Str×V)} {A:Around} {E:Value→Shared→Prop}
theorem zlT {b:Bool} {f:Str} {v:V} {Q:Value→Shared→Prop} (I:Inv X pins σ H s) (ha:H a=some (exC C (some d) a)) (hd:H d=some (.xd fs)) (g:ExGa X.K C) (hh:hasDictIn X.K C=true) (no:findIn X.K (.ref C) f=some none) (l:fs.lookup f=some v)
  (h:∀u s',Inv X pins σ H s'→RelV v u→Q u s'):wpAny (model X.prog X.w) A (getAttr (.ref a) f b) Q E s:=by
 obtain ⟨ox,od,J,hl⟩:=zk4 I ha hd
 obtain ⟨o,ho,r⟩:=hl f
 rw [l] at r
 obtain ⟨u,rfl,ru⟩:=RelO.some_of (v:=v) (o:=o) r
 unfold getAttr
 refine wpAny_bind (wpAny_mkText ?_)
 exact zk5 (s:={ s with toks:=s.toks+1 }) I.kIn J g (ziz (s:={ s with toks:=s.toks+1 }) I.kIn J (findObj_own hh no rfl ho) ⟨u,rfl,zfz ru,h u _ (I.tok _) ru⟩)
theorem zoR {c:Value} {b:Bool} {Q:Value→Shared→Prop} (I:Inv X pins σ H s) (ha:H a=some (exC C (some d) a)) (hd:H d=some (.xd fs)) (k:ExIs X.K C) (e:kitOne X.K (.ref C) c=some b) (h:∀tk,Q (.bool b) { s with toks:=tk }) :
  wpAny (model X.prog X.w) A (call (.builtin "isinstance") [.ref a,c]) Q E s:=by
 obtain ⟨ox,od,J,_⟩:=zk4 I ha hd
 have cl:(clsIn X.K C).isSome=true:=by obtain ⟨cd,hc,_⟩:=any_some k.hd;rw [hc];rfl
 exact kia_one (zke k.g cl (findObj_data cl k.ha k.hn k.tk) k.hm) I.kIn J e (fun z=>nomatch z) h
end
end L2
namespace L2
open PySem PySem.Spec PyProof.Rows PySem.W
structure Ste (prog:Program) (w:World) (it src:Addr) (xs:Array Value) (St:Nat→Heap→Prop):Prop where
 at_:∀{k h h'},St k h→(∀o,h.get? it=some o→h'.get? it=some o)→(∀o,h.get? src=some o→h'.get? src=some o)→St k h'
 lt:∀{k h},St k h→it<h.objs.size
 item:∀{A:Around} {E:Value→Shared→Prop} {s:Shared} {k:Nat} {x:Value} {Q:Value→Shared→Prop},St k s.heap→xs[k]?=some x→(∀h',St (k+1) h'→Heap.SameBut it s.heap h'→Q x { s with heap:=h' }) →
  wpAny (model prog w) A (Builtin.SmallTypes.nextOf (.ref it)) Q E s
 stop:∀{A:Around} {E:Value→Shared→Prop} {s:Shared} {k:Nat} {Q:Value→Shared→Prop},A.handled=none→St k s.heap→xs[k]?=none →
  (∀h' e,Heap.ExtBut it s.heap h'→(∃o,h'.get? e=some o∧o.cls=.type "StopIteration")→E (.ref e) { s with heap:=h' })→wpAny (model prog w) A (Builtin.SmallTypes.nextOf (.ref it)) Q E s
def StT (it t:Addr) (xs:Array Value) (k:Nat) (h:Heap):Prop:=IsTupIter h it t k∧IsTup h t xs
theorem zaB {prog:Program} {w:World} {it t:Addr} {xs:Array Value} (ne:t≠it):Ste prog w it t xs (StT it t xs) where
 at_:=fun {k h h'} q k1 k2=>by
  obtain ⟨⟨o,ho,r⟩,⟨o',ho',r'⟩⟩:=q
  exact ⟨⟨o,k1 o ho,r⟩,⟨o',k2 o' ho',r'⟩⟩
 lt:=fun q=>let ⟨⟨_,ho,_⟩,_⟩:=q;Heap.lt_size ho
 item:=fun {A E s k x Q} q hx hQ=>by
  obtain ⟨hit,ht⟩:=q
  obtain ⟨o,ho,hc,hd⟩:=id hit
  obtain ⟨ol,hol,_,nl,hdl⟩:=id ht
  unfold Builtin.SmallTypes.nextOf
  refine wpAny_bind (wpAny_callSpecial?_slot (name:=Str.ofString "__next__") hit.typeIs slot_tupleiter_next (wpAny_call_entry slot_tupleiter_next hit.typeIs entry_tupleiter_next ?_ (args_tupleiter_next _)))
  change wpAny _ _ (field (.ref it) 0 >>= _) _ _ s
  refine wpAny_bind (wpAny_field ho hd (x:=.ref t) rfl ?_)
  rw [if_neg (by simp)]
  change wpAny _ _ (field (.ref it) 1 >>= _) _ _ s
  refine wpAny_bind (wpAny_field ho hd (x:=.int k 0) rfl ?_)
  change wpAny _ _ (seqItems? (.ref t) >>= _) _ _ s
  refine wpAny_bind (wpAny_seqItems hol hdl ?_)
  simp only [hx,Int.toNat_natCast]
  have fl:=Obj.data_mapFields hd (·.setIfInBounds 1 (rawInt (k+1)))
  refine wpAny_bind (wpAny_setField ho hd (by simp) (wpAny_pure ⟨x,rfl,wpAny_pure (hQ _ ⟨⟨_,Heap.get?_update_self _ ho (Obj.isFreed_of_fields fl),(Obj.cls_mapFields ..).trans hc,?_⟩,?_⟩ (Heap.SameBut.update ..))⟩))
  ·rw [fl];simp [rawInt]
  ·exact ht.extBut (Heap.SameBut.update ..).extBut ne
 stop:=fun {A E s k Q} hh q hx hE=>by
  obtain ⟨hit,ht⟩:=q
  obtain ⟨o,ho,hc,hd⟩:=id hit
  obtain ⟨ol,hol,_,nl,hdl⟩:=id ht
  unfold Builtin.SmallTypes.nextOf
  refine wpAny_bind (wpAny_callSpecial?_slot (name:=Str.ofString "__next__") hit.typeIs slot_tupleiter_next (wpAny_call_entry slot_tupleiter_next hit.typeIs entry_tupleiter_next ?_ (args_tupleiter_next _)))
  change wpAny _ _ (field (.ref it) 0 >>= _) _ _ s
  refine wpAny_bind (wpAny_field ho hd (x:=.ref t) rfl ?_)
  rw [if_neg (by simp)]
  change wpAny _ _ (field (.ref it) 1 >>= _) _ _ s
  refine wpAny_bind (wpAny_field ho hd (x:=.int k 0) rfl ?_)
  change wpAny _ _ (seqItems? (.ref t) >>= _) _ _ s
  refine wpAny_bind (wpAny_seqItems hol hdl ?_)
  simp only [hx,Int.toNat_natCast]
  refine wpAny_bind (wpAny_rule (wpAny_bind (wpAny_setField ho hd (by simp) ?_)))
  change wpAny _ _ (newExc (.type "StopIteration") [] >>= _) _ _ _
  refine wpAny_bind ?_
  simp only [newExc,newTuple]
  refine wpAny_bind (wpAny_newObj_type (wpAny_bind (m:=firstArgMember _ _) (wpAny_of_eq (a:=Value.none) (by first|rfl|(simp only [firstArgMember];rfl)) (wpAny_newObj_type ?_ (by size_fits)))) (by size_fits))
  simp only [raiseNew]
  refine wpAny_bind (wpAny_handled ?_)
  first|rw [show A.in1.handled=none from hh]|rw [hh]
  exact wpAny_bind (wpAny_pure (wpAny_throw (hE _ _ (((Heap.SameBut.update ..).extBut.push _).push _) ⟨_,Heap.get?_push_size _ rfl,rfl⟩)))
section
variable {prog:Program} {w:World} {A:Around} {E:Value→Shared→Prop} {s:Shared} {z TI TO i1 i2 t1 t2:Addr} {k:Nat} {xs ys:Array Value} {x y a b:Value} {S1 S2:Nat→Heap→Prop}
theorem Ste.by_same (S:Ste prog w i1 t1 xs S1) {h h':Heap} {c:Addr} (q:S1 k h) (hs:Heap.SameBut c h h') (n1:i1≠c) (n2:t1≠c):S1 k h' :=
 S.at_ q (fun o e=>hs.extBut _ _ n1 e) fun o e=>hs.extBut _ _ n2 e
theorem zev {Q:Value→Shared→Prop} (D:ZipApart z TI TO i1 i2 t1 t2) (U1:Ste prog w i1 t1 xs S1) (U2:Ste prog w i2 t2 ys S2) (hz:IsZip s.heap z TI TO .none) (hTI:IsPair s.heap TI (.ref i1) (.ref i2)) (hTO:IsPair s.heap TO a b)
  (q1:S1 k s.heap) (q2:S2 k s.heap) (hx:xs[k]?=some x) (hy:ys[k]?=some y)
  (hQ:∀h',IsZip h' z TI TO (rawInt s.heap.objs.size)→IsPair h' TO x y→S1 (k+1) h'→S2 (k+1) h'→IsPair h' s.heap.objs.size x y →
   (∀c o,c≠z→c≠TO→c≠i1→c≠i2→s.heap.get? c=some o→h'.get? c=some o)→Q (.ref s.heap.objs.size) { s with heap:=h' }) :
  wpAny (model prog w) A (Builtin.«zip.__next__» ⟨[.ref z],[]⟩) (fun fin s'=>∃v,fin=.done (.ret v)∧Q v s') E s:=by
 change wpAny _ _ (field (.ref z) 2 >>= _) _ _ _
 refine wpAny_bind (wpAny_field hz rfl (x:=.bool false) rfl ?_)
 change wpAny _ _ (field (.ref z) 3 >>= _) _ _ _
 refine wpAny_bind (wpAny_field hz rfl (x:=.ref TI) rfl (wpAny_bind (wpAny_seqItems hTI rfl ?_)))
 change wpAny _ _ (Builtin.SmallTypes.ownedTupleIsFree (.ref z) >>= _) _ _ _
 refine wpAny_bind ?_
 unfold Builtin.SmallTypes.ownedTupleIsFree
 refine wpAny_bind (wpAny_field hz rfl (x:=.none) rfl (wpAny_pure ?_))
 rw [if_pos rfl]
 refine wpAny_bind (wpAny_rule (wpAny_bind (wpAny_field hz rfl (x:=.ref TO) rfl (wpAny_bind (wpAny_setField_rec hz (by simp) fun h1 z1 e1=>?_)))))
 replace z1:IsZip h1 z TI TO .ellipsis:=z1
 refine wpAny_bind ?_
 simp only [List.zipIdx_cons,List.zipIdx_nil,List.forIn_cons,List.forIn_nil]
 refine wpAny_bind (wpAny_bind (wpAny_onRaise ?_))
 change wpAny _ _ (Builtin.SmallTypes.nextOf (.ref i1) >>= _) _ _ _
 refine wpAny_bind (U1.item (U1.by_same q1 e1 D.i1z D.l1z) hx fun h2 p2 e2=>wpAny_pure ?_)
 have o2:IsPair h2 TO a b:=e2.extBut _ _ D.TOi1 (e1.extBut _ _ D.TOz hTO)
 refine wpAny_bind (wpAny_seqItems o2 rfl (wpAny_bind (wpAny_updateSeq_pair o2 fun h3 o3 e3=>?_)))
 replace o3:IsPair h3 TO x b:=o3
 refine wpAny_bind (wpAny_letGo (wpAny_pure (wpAny_bind (wpAny_bind (wpAny_onRaise ?_)))))
 change wpAny _ _ (Builtin.SmallTypes.nextOf (.ref i2) >>= _) _ _ _
 have r3:S2 k h3:=U2.by_same (U2.by_same (U2.by_same q2 e1 D.i2z D.l2z) e2 D.i12.symm D.l2i1) e3 D.TOi2.symm D.l2TO
 refine wpAny_bind (U2.item r3 hy fun h4 p4 e4=>wpAny_pure ?_)
 have o4:IsPair h4 TO x b:=e4.extBut _ _ D.TOi2 o3
 refine wpAny_bind (wpAny_seqItems o4 rfl (wpAny_bind (wpAny_updateSeq_pair o4 fun h5 o5 e5=>?_)))
 replace o5:IsPair h5 TO x y:=o5
 refine wpAny_bind (wpAny_letGo (wpAny_pure (wpAny_pure (wpAny_bind (wpAny_seqItems o5 rfl (wpAny_bind (wpAny_newTuple ?_)))))))
 have sz:h5.objs.size=s.heap.objs.size:=by rw [e5.1,e4.1,e3.1,e2.1,e1.1]
 have z5:IsZip h5 z TI TO .ellipsis:=e5.extBut _ _ D.TOz.symm (e4.extBut _ _ D.i2z.symm (e3.extBut _ _ D.TOz.symm (e2.extBut _ _ D.i1z.symm z1)))
 have k5:∀c o,c≠z→c≠TO→c≠i1→c≠i2→s.heap.get? c=some o→h5.get? c=some o:=fun c o c1 c2 c3 c4 e=>e5.extBut _ _ c2 (e4.extBut _ _ c4 (e3.extBut _ _ c2 (e2.extBut _ _ c3 (e1.extBut _ _ c1 e))))
 have f1:S1 (k+1) h5:=U1.by_same (U1.by_same (U1.by_same p2 e3 D.TOi1.symm D.l1TO) e4 D.i12 D.l1i2) e5 D.TOi1.symm D.l1TO
 have f2:S2 (k+1) h5:=U2.by_same p4 e5 D.TOi2.symm D.l2TO
 change wpAny _ _ (Builtin.SmallTypes.ownedTupleHandOut (.ref z) (.ref h5.objs.size) >>= _) _ _ _
 refine wpAny_bind ?_
 unfold Builtin.SmallTypes.ownedTupleHandOut
 have z6:IsZip (h5.push { cls:=.type "tuple", data:=.seq #[x,y] }) z TI TO .ellipsis:=Heap.get?_push_of_some _ z5
 refine wpAny_bind (wpAny_setField_rec z6 (by simp) fun h7 z7 e7=>?_)
 replace z7:IsZip h7 z TI TO (rawInt h5.objs.size):=z7
 refine wpAny_setField_rec z7 (by simp) fun h8 z8 e8=>?_
 replace z8:IsZip h8 z TI TO (rawInt h5.objs.size):=z8
 have up:∀c o,c≠z→h5.get? c=some o→h8.get? c=some o:=fun c o c1 e=>e8.extBut _ _ c1 (e7.extBut _ _ c1 (Heap.get?_push_of_some _ e))
 have nz:h5.objs.size≠z:=Nat.ne_of_gt (Heap.lt_size z5)
 have pT:IsPair h8 h5.objs.size x y:=e8.extBut _ _ nz (e7.extBut _ _ nz (Heap.get?_push_size _ rfl))
 rw [sz] at z8 pT
 refine wpAny_pure ⟨_,rfl,?_⟩
 change Q (.ref h5.objs.size) _
 rw [sz]
 exact hQ h8 z8 (up _ _ D.TOz o5) (U1.at_ f1 (fun o e=>up _ o D.i1z e) fun o e=>up _ o D.l1z e) (U2.at_ f2 (fun o e=>up _ o D.i2z e) fun o e=>up _ o D.l2z e) pT fun c o c1 c2 c3 c4 e=>up c o c1 (k5 c o c1 c2 c3 c4 e)
theorem zew {Q:Fin→Shared→Prop} (hh:A.handled=none) (D:ZipApart z TI TO i1 i2 t1 t2) (U1:Ste prog w i1 t1 xs S1) (U2:Ste prog w i2 t2 ys S2) (hz:IsZip s.heap z TI TO .none) (hTI:IsPair s.heap TI (.ref i1) (.ref i2)) (hTO:IsPair s.heap TO a b)
  (q1:S1 k s.heap) (q2:S2 k s.heap) (he:xs[k]?=none∨ys[k]?=none)
  (hE:∀h' e,(∀c o,c≠z→c≠TO→c≠i1→c≠i2→s.heap.get? c=some o→h'.get? c=some o)→(∃o,h'.get? e=some o∧o.cls=.type "StopIteration")→E (.ref e) { s with heap:=h' }) :
  wpAny (model prog w) A (Builtin.«zip.__next__» ⟨[.ref z],[]⟩) Q E s:=by
 change wpAny _ _ (field (.ref z) 2 >>= _) _ _ _
 refine wpAny_bind (wpAny_field hz rfl (x:=.bool false) rfl ?_)
 change wpAny _ _ (field (.ref z) 3 >>= _) _ _ _
 refine wpAny_bind (wpAny_field hz rfl (x:=.ref TI) rfl (wpAny_bind (wpAny_seqItems hTI rfl ?_)))
 change wpAny _ _ (Builtin.SmallTypes.ownedTupleIsFree (.ref z) >>= _) _ _ _
 refine wpAny_bind ?_
 unfold Builtin.SmallTypes.ownedTupleIsFree
 refine wpAny_bind (wpAny_field hz rfl (x:=.none) rfl (wpAny_pure ?_))
 rw [if_pos rfl]
 refine wpAny_bind (wpAny_rule (wpAny_bind (wpAny_field hz rfl (x:=.ref TO) rfl (wpAny_bind (wpAny_setField_rec hz (by simp) fun h1 z1 e1=>?_)))))
 replace z1:IsZip h1 z TI TO .ellipsis:=z1
 refine wpAny_bind ?_
 simp only [List.zipIdx_cons,List.zipIdx_nil,List.forIn_cons,List.forIn_nil]
 refine wpAny_bind (wpAny_bind (wpAny_onRaise ?_))
 change wpAny _ _ (Builtin.SmallTypes.nextOf (.ref i1) >>= _) _ _ _
 have p1:=U1.by_same q1 e1 D.i1z D.l1z
 have nez:∀{h:Heap} {e:Addr} {oe:Obj},IsZip h z TI TO .ellipsis→h.get? e=some oe→oe.cls=.type "StopIteration" → e≠z:=fun iz ho hc x=>by
  rw [x,iz] at ho
  cases ho
  simp at hc
 cases hx:xs[k]? with
 | none =>
  refine wpAny_bind (U1.stop hh p1 hx fun h2 e e2 ⟨oe,hoe,hce⟩=>?_)
  have z2:IsZip h2 z TI TO .ellipsis:=e2 _ _ D.i1z.symm z1
  exact wpAny_setField_rec z2 (by simp) fun h3 _ e3=>hE h3 e (fun c o c1 _ c3 _ x=>e3.extBut _ _ c1 (e2 _ _ c3 (e1.extBut _ _ c1 x))) ⟨oe,e3.extBut _ _ (nez z2 hoe hce) hoe,hce⟩
 | some x =>
  have hy:ys[k]?=none:=by
   rcases he with h|h
   ·rw [hx] at h;cases h
   ·exact h
  refine wpAny_bind (U1.item p1 hx fun h2 p2 e2=>wpAny_pure ?_)
  have o2:IsPair h2 TO a b:=e2.extBut _ _ D.TOi1 (e1.extBut _ _ D.TOz hTO)
  refine wpAny_bind (wpAny_seqItems o2 rfl (wpAny_bind (wpAny_updateSeq_pair o2 fun h3 o3 e3=>?_)))
  refine wpAny_bind (wpAny_letGo (wpAny_pure (wpAny_bind (wpAny_bind (wpAny_onRaise ?_)))))
  change wpAny _ _ (Builtin.SmallTypes.nextOf (.ref i2) >>= _) _ _ _
  have r3:S2 k h3:=U2.by_same (U2.by_same (U2.by_same q2 e1 D.i2z D.l2z) e2 D.i12.symm D.l2i1) e3 D.TOi2.symm D.l2TO
  refine wpAny_bind (U2.stop hh r3 hy fun h4 e e4 ⟨oe,hoe,hce⟩=>?_)
  have z4:IsZip h4 z TI TO .ellipsis:=e4 _ _ D.i2z.symm (e3.extBut _ _ D.TOz.symm (e2.extBut _ _ D.i1z.symm z1))
  exact wpAny_setField_rec z4 (by simp) fun h5 _ e5=>hE h5 e (fun c o c1 c2 c3 c4 x=>e5.extBut _ _ c1 (e4 _ _ c4 (e3.extBut _ _ c2 (e2.extBut _ _ c3 (e1.extBut _ _ c1 x))))) ⟨oe,e5.extBut _ _ (nez z4 hoe hce) hoe,hce⟩
end
end L2
namespace L2
open PySem PySem.Spec PyProof.Rows PySem.W
section
variable {X:Cx} {pins:List (Addr×Obj)} {σ:St} {H:Hp} {s:Shared} {h':Heap}
theorem Inv.turnL {ch:List Addr} {t':Nat} (I:Inv X pins σ H s) (hc:∀b∈ch,FpOk X pins H b) (k:∀b o,b∉ch→s.heap.get? b=some o→h'.get? b=some o):Inv X pins σ H { s with heap:=h',toks:=t' }:=by
 have nch:∀b u,H b=some u→b∉ch:=fun b u e z=>by rw [(hc b z).1] at e;cases e
 refine I.step (g':=s.gens) (d':=s.drawn) (ch:=ch) (fun b hb=>?_) (fun b o _ _ nb e _=>k b o nb e) (fun b o _ _ nb e _=>⟨o.slots,k b o nb e⟩) (fun _ _ _ _ n=>n)
  (fun b o nb e=>⟨o,k b o nb e⟩) (fun _ _ e=>e) (fun _ _ _ e=>e) (fun b ps e=>⟨#[],by rw [e];simp⟩) (fun m hm=>?_) (fun b u e=>?_) I.bare
 ·obtain ⟨_,f1,_,f3,f4,f5⟩:=hc b hb
  exact ⟨f3,f1,f4,f5⟩
 ·obtain ⟨o,es,ep,ho,r⟩:=hm
  exact ⟨o,es,ep,k _ o (fun z=>(hc _ z).2.1 rfl) ho,r⟩
 ·refine (I.hok b u e).stay (fun c v hc' q=>k c v ?_ q) (fun _ q=>q) fun _ _ q=>q
  rcases hc' with z|z
  ·rw [z];exact nch b u e
  ·exact nch c _ z
theorem Inv.turnN {ch:List Addr} {T:Addr} {o:HO} {t':Nat} (I:Inv X pins σ H s) (hc:∀b∈ch,FpOk X pins H b) (k:∀b o,b∉ch→s.heap.get? b=some o→h'.get? b=some o) (hT:s.heap.objs.size≤T)
  (new:ObjOk X.prog X.w (upd H T o) h' T o):Inv X pins σ (upd H T o) { s with heap:=h',toks:=t' }:=by
 have fT:H T=none:=I.hok.fresh hT
 have nch:∀b u,H b=some u→b∉ch:=fun b u e z=>by rw [(hc b z).1] at e;cases e
 have nT:∀b u,H b=some u→b≠T:=fun b u e z=>by rw [z,fT] at e;cases e
 refine I.step (g':=s.gens) (d':=s.drawn) (ch:=ch) (fun b hb=>?_) (fun b o _ _ nb e _=>k b o nb e) (fun b o _ _ nb e _=>⟨o.slots,k b o nb e⟩) (fun b u _ e n=>?_)
  (fun b o nb e=>⟨o,k b o nb e⟩) (fun b xs e=>?_) (fun b u v e=>?_) (fun b ps e=>⟨#[],?_⟩) (fun m hm=>?_) (fun b u e=>?_) I.bare
 ·obtain ⟨_,f1,_,f3,f4,f5⟩:=hc b hb
  exact ⟨f3,f1,f4,f5⟩
 ·rw [zu (Nat.ne_of_lt (Nat.lt_of_lt_of_le (Heap.lt_size e) hT))];exact n
 ·rw [zu (nT b _ e)];exact e
 ·rw [zu (nT b _ e)];exact e
 ·rw [zu (nT b _ e),e];simp
 ·obtain ⟨o,es,ep,ho,r⟩:=hm
  exact ⟨o,es,ep,k _ o (fun z=>(hc _ z).2.1 rfl) ho,r⟩
 ·by_cases z:b=T
  ·rw [z] at e ⊢
   rw [zx] at e
   cases e
   exact new
  ·rw [zu z] at e
   refine (I.hok b u e).stay (fun c v hc' q=>k c v ?_ q) (fun c q=>by rw [zu (nT c _ q)];exact q) fun c xs q=>by rw [zu (nT c _ q)];exact q
   rcases hc' with z|z
   ·rw [z];exact nch b u e
   ·exact nch c _ z
end
def Itz (K:Frag) (a b:Addr):It :=
 ⟨fun i H=>∃xs ys x y,SqT K H a xs∧SqT K H b ys∧xs[i]?=some x∧ys[i]?=some y,
  fun i H v H'=>∃T x y,H T=none∧v=.ref T∧H'=upd H T (.tup [x,y])∧(∀xs,SqT K H a xs→xs[i]?=some x)∧∀ys,SqT K H b ys→ys[i]?=some y,
  fun i H=>∃xs ys,SqT K H a xs∧SqT K H b ys∧(xs.length≤i∨ys.length≤i)⟩
def Zst (z TI TO i1 i2 a b:Addr) (k:Nat) (h:Heap):Prop:=IsZip h z TI TO .none∧IsPair h TI (.ref i1) (.ref i2)∧(∃u v,IsPair h TO u v)∧IsTupIter h i1 a k∧IsTupIter h i2 b k
theorem zhM {X:Cx} {pins:List (Addr×Obj)} {σ:St} {H:Hp} {s:Shared} {a c:Addr} {xs:List V} (I:Inv X pins σ H s) (hf:FpOk X pins H c) (hq:SqT X.K H a xs):a≠c:=by
 rintro rfl
 rcases hq with q|⟨o,its,n,hl,_⟩
 ·rcases q with q|⟨ob,q⟩<;>(rw [hf.1] at q;cases q)
 ·have e:=I.ok.mod.kin _ _ hl
  rcases hf.2.2.2.1 with z|z
  ·exact I.ok.noex _ _ e z
  ·exact absurd (Nat.lt_of_lt_of_le (Heap.lt_size (I.ok.bs _ _ e).1) z) (Nat.lt_irrefl _)
structure Five (z TI TO i1 i2:Addr):Prop where
 TIz:TI≠z
 TOz:TO≠z
 i1z:i1≠z
 i2z:i2≠z
 TITO:TI≠TO
 TIi1:TI≠i1
 TIi2:TI≠i2
 TOi1:TO≠i1
 TOi2:TO≠i2
 i12:i1≠i2
theorem zkf {P:Program} {w:World} {K:Frag} {elts:List Expr} {kt:Nat} {pos:Pos} {z TI TO i1 i2 a b:Addr} (V5:Five z TI TO i1 i2):Turn P w K (.Tuple elts kt pos) (Itz K a b) [z,TI,TO,i1,i2] z (Zst z TI TO i1 i2 a b) where
 mem:=by simp
 obj:=fun i h st c hc=>by
  obtain ⟨hz,hTI,⟨u,v,hTO⟩,⟨o1,e1,_,d1⟩,⟨o2,e2,_,d2⟩⟩:=st
  simp only [List.mem_cons,List.not_mem_nil,or_false] at hc
  rcases hc with q|q|q|q|q<;>rw [q]
  ·exact ⟨_,hz,fun v z=>by cases z⟩
  ·exact ⟨_,hTI,fun v z=>by cases z⟩
  ·exact ⟨_,hTO,fun v z=>by cases z⟩
  ·exact ⟨_,e1,fun v z=>by rw [d1] at z;cases z⟩
  ·exact ⟨_,e2,fun v z=>by rw [d2] at z;cases z⟩
 keep:=fun i h h' st k=>by
  obtain ⟨hz,hTI,⟨u,v,hTO⟩,⟨o1,e1,r1⟩,⟨o2,e2,r2⟩⟩:=st
  exact ⟨k z (by simp) _ hz,k TI (by simp) _ hTI,⟨u,v,k TO (by simp) _ hTO⟩,⟨o1,k i1 (by simp) _ e1,r1⟩,⟨o2,k i2 (by simp) _ e2,r2⟩⟩
 item:=by
  intro X hP hw hK hc i pins s σ H E I hf st hg
  subst hP hw hK
  obtain ⟨xs,ys,x,y,hq1,hq2,hx,hy⟩:=hg
  obtain ⟨hz,hTI,⟨u0,v0,hTO⟩,hi1,hi2⟩:=st
  obtain ⟨its1,rv1,p1,_⟩:=I.tuple hq1
  obtain ⟨its2,rv2,p2,_⟩:=I.tuple hq2
  obtain ⟨u,hu,ru⟩:=rv1.get hx
  obtain ⟨v,hv,rv⟩:=rv2.get hy
  have n1:∀c∈[z,TI,TO,i1,i2],a≠c:=fun c h=>zhM I (hf c h) hq1
  have n2:∀c∈[z,TI,TO,i1,i2],b≠c:=fun c h=>zhM I (hf c h) hq2
  have D:ZipApart z TI TO i1 i2 a b:=⟨V5.TIz,V5.TOz,V5.i1z,V5.i2z,V5.TITO,V5.TIi1,V5.TIi2,V5.TOi1,V5.TOi2,V5.i12,n1 z (by simp),n1 TO (by simp),n1 i1 (by simp),n1 i2 (by simp),n2 z (by simp),n2 TO (by simp),n2 i1 (by simp),n2 i2 (by simp)⟩
  have hT:s.TypeIs (.ref z) "zip" := ⟨_,hz,rfl⟩
  unfold pyNext
  refine wpAny_bind (wpAny_attempt (wpAny_callSpecial?_slot (name:=Str.ofString "__next__") hT F.slot_zip_next (wpAny_call_entry F.slot_zip_next hT F.entry_zip_next
   (zev D (zaB D.l1i1) (zaB D.l2i2) hz hTI hTO ⟨hi1,p1⟩ ⟨hi2,p2⟩ (by simpa using hu) (by simpa using hv) fun h1 z1 o1 f1 f2 pT kk=>wpAny_pure ⟨_,rfl,?_⟩) (F.args_zip_next_1 _))))
  refine wpAny_letOwnedTupleGo_zip (s:={ s with heap:=h1 }) z1 fun h2 z2 e2=>?_
  have fr:H s.heap.objs.size=none:=I.hok.fresh (Nat.le_refl _)
  have up:∀c o,c≠z→h1.get? c=some o→h2.get? c=some o:=fun c o n e=>e2.extBut _ _ n e
  have nz:s.heap.objs.size≠z:=Nat.ne_of_gt (Heap.lt_size hz)
  have k2:∀c o,c∉[z,TI,TO,i1,i2]→s.heap.get? c=some o→h2.get? c=some o:=fun c o nc e =>
   up c o (fun q=>nc (by simp [q])) (kk c o (fun q=>nc (by simp [q])) (fun q=>nc (by simp [q])) (fun q=>nc (by simp [q])) (fun q=>nc (by simp [q])) e)
  refine ⟨.ref s.heap.objs.size,upd H s.heap.objs.size (.tup [x,y]),?_,rfl,⟨s.heap.objs.size,x,y,fr,rfl,rfl,fun xs' h'=>by rw [I.tuple_inj h' hq1];exact hx,fun ys' h'=>by rw [I.tuple_inj h' hq2];exact hy⟩,?_,fun c hc'=>?_⟩
  ·exact Inv.turnN (s:=s) (h':=h2) (t':=s.toks) I hf k2 (Nat.le_refl _) ⟨show 2≤sizeLine by decide,[u,v],.cons ru (.cons rv .nil),_,up _ _ nz pT,rfl,_,rfl⟩
  ·exact ⟨z2,up _ _ D.TIz (kk _ _ D.TIz D.TITO D.TIi1 D.TIi2 hTI),⟨_,_,up _ _ D.TOz o1⟩,(let ⟨o,e,r⟩:=f1.1;⟨o,up _ _ D.i1z e,r⟩),(let ⟨o,e,r⟩:=f2.1;⟨o,up _ _ D.i2z e,r⟩)⟩
  ·have q:c≠s.heap.objs.size:=by
    have lt:∃o,s.heap.get? c=some o:=by
     simp only [List.mem_cons,List.not_mem_nil,or_false] at hc'
     rcases hc' with q|q|q|q|q<;>rw [q]
     ·exact ⟨_,hz⟩
     ·exact ⟨_,hTI⟩
     ·exact ⟨_,hTO⟩
     ·exact let ⟨o,e,_⟩:=hi1;⟨o,e⟩
     ·exact let ⟨o,e,_⟩:=hi2;⟨o,e⟩
    obtain ⟨o,e⟩:=lt
    exact Nat.ne_of_lt (Heap.lt_size e)
   rw [zu q]
   exact (hf c hc').1
 done:=by
  intro X hP hw hK hc i pins s σ H E I hf st hg
  subst hP hw hK
  obtain ⟨xs,ys,hq1,hq2,hx⟩:=hg
  obtain ⟨hz,hTI,⟨u0,v0,hTO⟩,hi1,hi2⟩:=st
  obtain ⟨its1,rv1,p1,_⟩:=I.tuple hq1
  obtain ⟨its2,rv2,p2,_⟩:=I.tuple hq2
  have l1:=rv1.length
  have l2:=rv2.length
  have n1:∀c∈[z,TI,TO,i1,i2],a≠c:=fun c h=>zhM I (hf c h) hq1
  have n2:∀c∈[z,TI,TO,i1,i2],b≠c:=fun c h=>zhM I (hf c h) hq2
  have D:ZipApart z TI TO i1 i2 a b:=⟨V5.TIz,V5.TOz,V5.i1z,V5.i2z,V5.TITO,V5.TIi1,V5.TIi2,V5.TOi1,V5.TOi2,V5.i12,n1 z (by simp),n1 TO (by simp),n1 i1 (by simp),n1 i2 (by simp),n2 z (by simp),n2 TO (by simp),n2 i1 (by simp),n2 i2 (by simp)⟩
  have hT:s.TypeIs (.ref z) "zip" := ⟨_,hz,rfl⟩
  unfold pyNext
  refine wpAny_bind (wpAny_attempt (wpAny_callSpecial?_slot (name:=Str.ofString "__next__") hT F.slot_zip_next (wpAny_call_entry F.slot_zip_next hT F.entry_zip_next
   (zew (I.ok.hd hc) D (zaB D.l1i1) (zaB D.l2i2) hz hTI hTO ⟨hi1,p1⟩ ⟨hi2,p2⟩ (hx.imp (fun h=>by simp;omega) fun h=>by simp;omega) fun h1 e kk he=>?_) (F.args_zip_next_1 _))))
  obtain ⟨o,ho,hco⟩:=he
  refine wpAny_bind (wpAny_isInstance (T := "StopIteration") (b:=true) ⟨o,ho,hco⟩ isSubtype_stop ?_)
  exact wpAny_pure ⟨rfl,Inv.turnL (t':=s.toks) I hf fun c o nc e=>kk c o (fun q=>nc (by simp [q])) (fun q=>nc (by simp [q])) (fun q=>nc (by simp [q])) (fun q=>nc (by simp [q])) e⟩
 self:=fun _ _ _ _ _ st h=>wpAny_pyIter_zip st.1 h
end L2
namespace L2
open PySem PySem.Spec PyProof.Rows PySem.W
abbrev zt1 (h:Heap) (a:Addr):Heap:=h.push { cls:=.type "tuple_iterator", data:=.fields #[.ref a,.int 0 0] }
abbrev zt2 (h:Heap) (a b:Addr):Heap:=(zt1 h a).push { cls:=.type "tuple_iterator", data:=.fields #[.ref b,.int 0 0] }
abbrev zt3 (h:Heap) (a b:Addr):Heap:=(zt2 h a b).push { cls:=.type "tuple", data:=.seq #[.ref h.objs.size,.ref (zt1 h a).objs.size] }
abbrev zt4 (h:Heap) (a b:Addr):Heap:=(zt3 h a b).push { cls:=.type "tuple", data:=.seq #[.none,.none] }
abbrev zt5 (h:Heap) (a b:Addr):Heap:=(zt4 h a b).push { cls:=.type "zip", data:=.fields #[.none,.bool false,.bool false,.ref (zt2 h a b).objs.size,.ref (zt3 h a b).objs.size] }
theorem zkg (a b:Addr) (xs ys:Array Value) :
  Meets (Builtin.«zip.__new__» ⟨[.type "zip", .ref a,.ref b],[]⟩) (fun _ R s=>IsTup s.heap a xs∧IsTup s.heap b ys∧R (.ok (.ret (.ref (zt4 s.heap a b).objs.size))) { s with heap:=zt5 s.heap a b }) :=
 .of_wp fun prog w A R s h=>by
  obtain ⟨hp,g,d,tk,os⟩:=s
  obtain ⟨h1,h2,h⟩:=h
  have hsub:=sub_zip
  have H1:IsTup (Shared.heap ⟨hp,g,d,tk,os⟩) a xs:=h1
  have H2:IsTup (Shared.heap ⟨hp.push { cls:=.type "tuple_iterator", data:=.fields #[.ref a,.int 0 0] },g,d,tk,os⟩) b ys:=h2.push _
  wp_walk using iter_tuple H1,iter_tuple H2
  exact ⟨_,rfl,h⟩
section
variable {prog:Program} {w:World} {A:Around} {E:Value→Shared→Prop} {s:Shared}
theorem ziA {a b:Addr} {xs ys:Array Value} {Q:Value→Shared→Prop} (h1:IsTup s.heap a xs) (h2:IsTup s.heap b ys)
  (h:Zst (s.heap.objs.size+4) (s.heap.objs.size+2) (s.heap.objs.size+3) s.heap.objs.size (s.heap.objs.size+1) a b 0 (zt5 s.heap a b)→Q (.ref (s.heap.objs.size+4)) { s with heap:=zt5 s.heap a b }) :
  wpAny (model prog w) A (call (.type "zip") [.ref a,.ref b]) Q E s:=by
 refine callType_new F.called_zip (by decide) (F.typeCall_zip_2 _ _) (F.newCall_zip_2 _ _) (fun obj=>F.args_object_init_3 obj _ _) F.entry_zip_new (zkg a b xs ys) ⟨h1,h2,?_⟩
 have z1:(zt1 s.heap a).objs.size=s.heap.objs.size+1:=Heap.size_push ..
 have z2:(zt2 s.heap a b).objs.size=s.heap.objs.size+2:=by rw [Heap.size_push,z1]
 have z3:(zt3 s.heap a b).objs.size=s.heap.objs.size+3:=by rw [Heap.size_push,z2]
 have z4:(zt4 s.heap a b).objs.size=s.heap.objs.size+4:=by rw [Heap.size_push,z3]
 have g5:(zt5 s.heap a b).get? (zt4 s.heap a b).objs.size=some _:=Heap.get?_push_size _ rfl
 have g4:(zt5 s.heap a b).get? (zt3 s.heap a b).objs.size=some _:=Heap.get?_push_of_some _ (Heap.get?_push_size _ rfl)
 have g3:(zt5 s.heap a b).get? (zt2 s.heap a b).objs.size=some _:=Heap.get?_push_of_some _ (Heap.get?_push_of_some _ (Heap.get?_push_size _ rfl))
 have g2:(zt5 s.heap a b).get? (zt1 s.heap a).objs.size=some _:=Heap.get?_push_of_some _ (Heap.get?_push_of_some _ (Heap.get?_push_of_some _ (Heap.get?_push_size _ rfl)))
 have g1:(zt5 s.heap a b).get? s.heap.objs.size=some _:=Heap.get?_push_of_some _ (Heap.get?_push_of_some _ (Heap.get?_push_of_some _ (Heap.get?_push_of_some _ (Heap.get?_push_size _ rfl))))
 show _∧_
 rw [z2,z3,z4] at g5
 rw [z1,z2] at g3
 rw [z3] at g4
 rw [z1] at g2
 rw [z4]
 exact ⟨⟨_,g5,rfl⟩,h ⟨g5,g3,⟨_,_,g4⟩,⟨_,g1,rfl,rfl⟩,⟨_,g2,rfl,rfl⟩⟩⟩
end
theorem zfc:bootBuiltins "zip" = some (.type "zip"):=by decide +kernel
def iZip (K:Frag) (ta:TA):TI:=fun σ H R=>ta σ H fun vs H1=>∃a b,vs=[.ref a,.ref b]∧(∃xs,SqT K H1 a xs)∧(∃ys,SqT K H1 b ys)∧R (Itz K a b) H1
theorem znF {X:Cx} {elts:List Expr} {kt:Nat} {tp:Pos} {x y:Expr} {ta:TA} {p pos:Pos} (hg:Gl X "zip") (hm:X.mg "zip" = none) (ha:PA X [x,y] ta) (hs:starEach [x,y] X.env=[(false,eval x X.env),(false,eval y X.env)]:=by rfl) (hs2:starEach [y] X.env=[(false,eval y X.env)]:=by rfl) :
  PI X (.Tuple elts kt tp) (.Call (.Name "zip" p) [x,y] [] pos) (iZip X.K ta):=by
 intro pins s σ H R I h
 refine Call_ (zcV I hg hm zfc (PyProof.Rows.callWith_type1 (thn (ha pos pins s σ H _ I h) fun us s1 ⟨vs,H1,I1,r1,q1⟩=>?_) (by rw [hs,hs2]) (by rw [hs2];rfl)))
 obtain ⟨a,b,e,⟨xs,hq1⟩,⟨ys,hq2⟩,q⟩:=q1
 subst e
 obtain ⟨u,v,rfl,ru,rv⟩:=zib r1
 obtain rfl:u=Value.ref a:=ru
 obtain rfl:v=Value.ref b:=rv
 obtain ⟨its1,_,p1,_⟩:=I1.tuple hq1
 obtain ⟨its2,_,p2,_⟩:=I1.tuple hq2
 refine ziA p1 p2 fun st=>wpAny_pyIter_zip st.1 ?_
 have kk:∀c o,s1.heap.get? c=some o→(zt5 s1.heap a b).get? c=some o:=fun c o e=>Heap.get?_push_of_some _ (Heap.get?_push_of_some _ (Heap.get?_push_of_some _ (Heap.get?_push_of_some _ (Heap.get?_push_of_some _ e))))
 refine ⟨_,[s1.heap.objs.size+4,s1.heap.objs.size+2,s1.heap.objs.size+3,s1.heap.objs.size,s1.heap.objs.size+1],_,_,H1,rfl,I1.kept (t':=s1.toks) kk,zkf ?_,st,fun c hc=>?_,q⟩
 ·have ne:∀(n i j:Nat),i≠j→n+i≠n+j:=fun n i j h z=>h (Nat.add_left_cancel z)
  have ne0:∀(n i:Nat),i≠0→n+i≠n:=fun n i h z=>h (by omega)
  exact ⟨ne _ 2 4 (by decide),ne _ 3 4 (by decide),(ne0 _ 4 (by decide)).symm,ne _ 1 4 (by decide),ne _ 2 3 (by decide),ne0 _ 2 (by decide),ne _ 2 1 (by decide),ne0 _ 3 (by decide),ne _ 3 1 (by decide),(ne0 _ 1 (by decide)).symm⟩
 ·have le:s1.heap.objs.size≤c:=by
   simp only [List.mem_cons,List.not_mem_nil,or_false] at hc
   rcases hc with q|q|q|q|q<;>rw [q]<;>first|exact Nat.le_refl _|exact Nat.le_add_right _ _
  exact I1.fpOk le (I1.hok.fresh le)
end L2
namespace L2
open PySem PySem.Spec PyProof.Rows PySem.W
structure KD (X:Cx) (a:Addr):Prop where
 ob:∃es n,X.K.lookup a=some ⟨.type "dict", none,.dict es n,#[]⟩∧KeysLit X.w.params es.toList
 no:(a==sysModules)=false
section
variable {X:Cx}
theorem zoS:IxR X (fun x y H Q=>∃a z u v,x=.ref a∧y=.str z∧KD X a∧nsIn X.K a z=some (some u)∧RelV v u∧Q v H):=by
 intro a b pins s σ H x y v u Q I rx ry h hs
 obtain ⟨p,z,u',v',rfl,rfl,⟨⟨es,n,hl,hk⟩,_⟩,e,rv,q⟩:=h
 obtain rfl:v=Value.ref p:=rx
 obtain ⟨t,rfl⟩:=ry
 obtain ⟨m,F⟩:=I.fr
 exact topItem_K F I.ok.mod.kin hl hk e ⟨v',H,I.tok _,rv,q⟩ hs
theorem zgu:OpR X (compareOp .NotIn) (fun x y H Q=>∃a z r,x=.str z∧y=.ref a∧KD X a∧nsIn X.K a z=some r∧Q (.bl (!r.isSome)) H):=by
 intro pins s σ H x y v u Q I rx ry h
 obtain ⟨p,z,r,rfl,rfl,⟨⟨es,n,hl,hk⟩,no⟩,e,q⟩:=h
 obtain rfl:u=Value.ref p:=ry
 obtain ⟨t,rfl⟩:=rx
 refine wpAny_notIn_of (strKind_is X.prog X.w z t) no (mapOf_K (prog:=X.prog) I.kIn hl hk) ?_
 rw [find_K hl e]
 exact ⟨.bl (!r.isSome),H,I.tok _,rfl,q⟩
end
end L2
namespace L2
open PySem PySem.Spec PyProof.Rows PySem.W
end L2
namespace Mi
open PySem L2 PySem.W
inductive PV where
 | non|bl (b:Bool)|int (i:Int)|str (x:Str)|ty (n:String)
 | tup (xs:List PV)|frl (xs:List PV)|ref (n:Nat)|fn (x:Str)|kd (ks:List Str) (xs:List PV)|exo (c:Str) (ks:List Str) (xs:List PV)
inductive SO where
 | lst (xs:List PV)|dic (ks:List Str) (xs:List PV)|ins (c:Str) (ks:List Str) (xs:List PV)|fdi (ks:List Str) (xs:List PV)
abbrev Sto:=List SO
inductive Res (α:Type) where
 | ok (a:α) (st:Sto)|err (c:Str) (ks:List Str) (xs:List PV) (st:Sto)|stuck
abbrev Mo (α:Type):=Sto→Res α
def Res.bind {α β:Type}:Res α→(α→Mo β)→Res β
 | .ok a st,f=>f a st
 | .err c ks xs st,_=>.err c ks xs st
 | .stuck,_=>.stuck
abbrev PEnv:=List (Option PV)
def KDs (K:Frag) (a:Addr) (ks:List Str) (us:List Value):Prop:=∀z,nsIn K a z=some ((ks.zip us).lookup z)
def FrL (K:Frag) (H:Hp) (a:Addr) (vs:List V):Prop :=
 (∃o,H a=some (.frz o (.lst vs)))∨∃(o:Obj) (its:Array Value) (n:Nat),K.lookup a=some o∧o.cls=.type "list" ∧ o.dict=none∧o.data=.seq its n∧its.size≤sizeLine∧Vals vs its.toList
theorem FrL.sq {K:Frag} {H:Hp} {a:Addr} {vs:List V} (h:FrL K H a vs):SqL K H a vs:=by
 rcases h with ⟨o,h⟩|h
 ·exact .inl (.inr ⟨o,h⟩)
 ·exact .inr h
section
variable (K:Frag) (mg:Str→Option Value)
mutual
def R (ρ:List Addr) (H:Hp):PV→V→Prop
 | .non,v=>v=.non
 | .bl b,v=>v=.bl b
 | .int i,v=>v=.int i
 | .str x,v=>v=.str x
 | .ty n,v=>v=.ty n
 | .tup xs,v=>∃a vs,v=.ref a∧SqT K H a vs∧Rs ρ H xs vs
 | .frl xs,v=>∃a vs,v=.ref a∧FrL K H a vs∧Rs ρ H xs vs
 | .ref n,v=>∃a,v=.ref a∧ρ[n]?=some a
 | .fn x,v=>∃f,v=.ref f∧mg x=some (.ref f)
 | .kd ks xs,v=>∃a us vs,v=.ref a∧KDs K a ks us∧Vals vs us∧Rs ρ H xs vs
 | .exo c ks xs,v=>∃a C d vs,v=.ref a∧mg c=some (.ref C)∧H a=some (exC C (some d) a)∧H d=some (.xd (ks.zip vs))∧Rs ρ H xs vs∧ks.length=vs.length
def Rs (ρ:List Addr) (H:Hp):List PV→List V→Prop
 | [],vs=>vs=[]
 | x::xs,vs=>∃v r,vs=v::r∧R ρ H x v∧Rs ρ H xs r
end
def SoR (ρ:List Addr) (H:Hp):SO→Addr→Prop
 | .lst xs,a=>∃vs,H a=some (.lst vs)∧Rs K mg ρ H xs vs
 | .dic ks xs,a=>∃vs,H a=some (.dK ((ks.map Sum.inr).zip vs))∧Rs K mg ρ H xs vs∧ks.length=vs.length
 | .ins c ks xs,a=>∃C dx vs,mg c=some (.ref C)∧H a=some (.ins C dx (ks.zip vs))∧Rs K mg ρ H xs vs∧ks.length=vs.length
 | .fdi ks xs,a=>∃o vs,H a=some (.frz o (.dK ((ks.map Sum.inr).zip vs)))∧Rs K mg ρ H xs vs∧ks.length=vs.length
structure StR (ρ:List Addr) (H:Hp) (st:Sto):Prop where
 len:ρ.length=st.length
 nd:ρ.Nodup
 at_:∀(n:Nat) so,st[n]?=some so→∃a,ρ[n]?=some a∧SoR K mg ρ H so a
def Imm:HO→Bool
 | .tup _=>true
 | .frz _ _=>true
 | .xd _=>true
 | .ext _=>true
 | _=>false
structure Ext (ρ:List Addr) (H:Hp) (ρ':List Addr) (H':Hp):Prop where
 pre:∃δ,ρ'=ρ++δ
 imm:∀a o,H a=some o→Imm o=true→H' a=some o
def XR (ρ:List Addr) (H:Hp) (c:Str) (ks:List Str) (xs:List PV) (Cv:Value) (d:Option Addr):Prop :=
 ∃C,Cv=.ref C∧mg c=some (.ref C)∧((ks=[]∧d=none)∨∃dd vs,d=some dd∧H dd=some (.xd (ks.zip vs))∧Rs K mg ρ H xs vs∧ks.length=vs.length)
def Out {α:Type} (ρ:List Addr) (H:Hp) (r:Res α) (good:List Addr→Hp→α→Sto→Prop) (E:XK):Prop :=
 match r with
 | .ok x st=>∀ρ' H',Ext ρ H ρ' H'→StR K mg ρ' H' st→good ρ' H' x st
 | .err c ks xs st=>∀ρ' H' C d,Ext ρ H ρ' H'→StR K mg ρ' H' st→XR K mg ρ' H' c ks xs C d→E C d H'
 | .stuck=>False
structure EnvR (ρ:List Addr) (H:Hp) (env:PEnv) (σ:St):Prop where
 len:env.length=σ.length
 at_:∀(i:Nat) x,env[i]?=some (some x)→∃v,σ[i]?=some (some v)∧R K mg ρ H x v
def gV (Q:VK):List Addr→Hp→PV→Sto→Prop:=fun ρ H x _=>∀v,R K mg ρ H x v→Q v H
def gVs (Q:List V→Hp→Prop):List Addr→Hp→List PV→Sto→Prop:=fun ρ H x _=>∀v,Rs K mg ρ H x v→Q v H
def gB (Q:Bool→Hp→Prop):List Addr→Hp→Bool→Sto→Prop:=fun _ H x _=>Q x H
inductive Fl where
 | nx (env:PEnv)|rt (x:PV)|bk (env:PEnv)|ct (env:PEnv)
def gS (D:Ends):List Addr→Hp→Fl→Sto→Prop:=fun ρ H x _ =>
 match x with
 | .nx env=>∀σ,EnvR K mg ρ H env σ→D.nx σ H
 | .rt x=>∀v,R K mg ρ H x v→D.rt v H
 | .bk env=>∀σ,EnvR K mg ρ H env σ→D.bk σ H
 | .ct env=>∀σ,EnvR K mg ρ H env σ→D.ct σ H
end
section
variable {K:Frag} {mg:Str→Option Value} {ρ ρ1 ρ2:List Addr} {H H1 H2:Hp}
theorem Ext.refl:Ext ρ H ρ H:=⟨⟨[],by simp⟩,fun _ _ h _=>h⟩
theorem Ext.trans (a:Ext ρ H ρ1 H1) (b:Ext ρ1 H1 ρ2 H2):Ext ρ H ρ2 H2:=by
 obtain ⟨⟨d,hd⟩,i⟩:=a
 obtain ⟨⟨d',hd'⟩,i'⟩:=b
 exact ⟨⟨d++d',by rw [hd',hd,List.append_assoc]⟩,fun a o h m=>i' a o (i a o h m) m⟩
theorem Ext.get (a:Ext ρ H ρ1 H1) {n:Nat} {p:Addr} (h:ρ[n]?=some p):ρ1[n]?=some p:=by
 obtain ⟨⟨d,hd⟩,_⟩:=a
 rw [hd,List.getElem?_append_left (List.getElem?_eq_some_iff.mp h).1]
 exact h
theorem Ext.sqT (e:Ext ρ H ρ1 H1) {a:Addr} {xs:List V} (h:SqT K H a xs):SqT K H1 a xs:=by
 rcases h with (h|⟨o,h⟩)|h
 ·exact .inl (.inl (e.imm _ _ h rfl))
 ·exact .inl (.inr ⟨o,e.imm _ _ h rfl⟩)
 ·exact .inr h
theorem Ext.frl (e:Ext ρ H ρ1 H1) {a:Addr} {xs:List V} (h:FrL K H a xs):FrL K H1 a xs:=by
 rcases h with ⟨o,h⟩|h
 ·exact .inl ⟨o,e.imm _ _ h rfl⟩
 ·exact .inr h
mutual
theorem R.ext (e:Ext ρ H ρ1 H1):∀(x:PV) {v:V},R K mg ρ H x v→R K mg ρ1 H1 x v
 | .non,_,h=>h
 | .bl _,_,h=>h
 | .int _,_,h=>h
 | .str _,_,h=>h
 | .ty _,_,h=>h
 | .tup xs,_,h=>by
  obtain ⟨a,vs,h1,h2,h3⟩:=h
  exact ⟨a,vs,h1,e.sqT h2,Rs.ext e xs h3⟩
 | .frl xs,_,h=>by
  obtain ⟨a,vs,h1,h2,h3⟩:=h
  exact ⟨a,vs,h1,e.frl h2,Rs.ext e xs h3⟩
 | .ref n,_,h=>by
  obtain ⟨a,h1,h2⟩:=h
  exact ⟨a,h1,e.get h2⟩
 | .fn _,_,h=>h
 | .kd ks xs,_,h=>by
  obtain ⟨a,us,vs,h1,h2,h4,h3⟩:=h
  exact ⟨a,us,vs,h1,h2,h4,Rs.ext e xs h3⟩
 | .exo c ks xs,_,h=>by
  obtain ⟨a,C,d,vs,h1,h2,h3,h4,h5,h6⟩:=h
  exact ⟨a,C,d,vs,h1,h2,e.imm _ _ h3 rfl,e.imm _ _ h4 rfl,Rs.ext e xs h5,h6⟩
theorem Rs.ext (e:Ext ρ H ρ1 H1):∀(xs:List PV) {vs:List V},Rs K mg ρ H xs vs→Rs K mg ρ1 H1 xs vs
 | [],_,h=>h
 | x::xs,_,h=>by
  obtain ⟨v,r,h1,h2,h3⟩:=h
  exact ⟨v,r,h1,R.ext e x h2,Rs.ext e xs h3⟩
end
theorem EnvR.ext (e:Ext ρ H ρ1 H1) {env:PEnv} {σ:St} (h:EnvR K mg ρ H env σ):EnvR K mg ρ1 H1 env σ :=
 ⟨h.len,fun i x hx=>let ⟨v,a,b⟩:=h.at_ i x hx;⟨v,a,R.ext e x b⟩⟩
theorem Rs.len:∀{xs:List PV} {vs:List V},Rs K mg ρ H xs vs→xs.length=vs.length
 | [],_,h=>by cases h;rfl
 | x::xs,_,h=>by
  obtain ⟨v,r,rfl,_,h3⟩:=h
  simp [Rs.len h3]
theorem Rs.get:∀{xs:List PV} {vs:List V} {i:Nat} {x:PV},Rs K mg ρ H xs vs→xs[i]?=some x→∃v,vs[i]?=some v∧R K mg ρ H x v
 | [],_,_,_,_,e=>by simp at e
 | x::xs,_,0,_,h,e=>by
  obtain ⟨v,r,rfl,h2,h3⟩:=h
  simp at e
  subst e
  exact ⟨v,by simp,h2⟩
 | x::xs,_,i+1,y,h,e=>by
  obtain ⟨v,r,rfl,h2,h3⟩:=h
  simp at e
  obtain ⟨v',h4,h5⟩:=Rs.get h3 e
  exact ⟨v',by simpa using h4,h5⟩
theorem Rs.append:∀{xs ys:List PV} {vs ws:List V},Rs K mg ρ H xs vs→Rs K mg ρ H ys ws→Rs K mg ρ H (xs++ys) (vs++ws)
 | [],_,_,_,h,h'=>by cases h;exact h'
 | x::xs,_,_,_,h,h'=>by
  obtain ⟨v,r,rfl,h2,h3⟩:=h
  exact ⟨v,r++_,rfl,h2,Rs.append h3 h'⟩
theorem Rs.take:∀{xs:List PV} {vs:List V} (n:Nat),Rs K mg ρ H xs vs→Rs K mg ρ H (xs.take n) (vs.take n)
 | [],_,n,h=>by cases h;simp [Rs]
 | x::xs,_,0,h=>by simp [Rs]
 | x::xs,_,n+1,h=>by
  obtain ⟨v,r,rfl,h2,h3⟩:=h
  exact ⟨v,_,rfl,h2,Rs.take n h3⟩
theorem Rs.drop:∀{xs:List PV} {vs:List V} (n:Nat),Rs K mg ρ H xs vs→Rs K mg ρ H (xs.drop n) (vs.drop n)
 | [],_,n,h=>by cases h;simp [Rs]
 | x::xs,_,0,h=>h
 | x::xs,_,n+1,h=>by
  obtain ⟨v,r,rfl,h2,h3⟩:=h
  exact Rs.drop n h3
theorem EnvR.set {env:PEnv} {σ:St} {x:PV} {v:V} (h:EnvR K mg ρ H env σ) (i:Nat) (r:R K mg ρ H x v):EnvR K mg ρ H (env.set i (some x)) (σ.set i (some v)):=by
 refine ⟨by simp [h.len],fun j y hy=>?_⟩
 rw [List.getElem?_set] at hy ⊢
 by_cases hij:i=j
 ·subst hij
  by_cases hl:i<env.length
  ·rw [if_pos rfl,if_pos hl] at hy
   rw [if_pos rfl,if_pos (by rw [←h.len];exact hl)]
   cases hy
   exact ⟨v,rfl,r⟩
  ·rw [if_pos rfl,if_neg hl] at hy
   cases hy
 ·rw [if_neg hij] at hy ⊢
  exact h.at_ j y hy
theorem EnvR.unset {env:PEnv} {σ:St} (h:EnvR K mg ρ H env σ) (i:Nat):EnvR K mg ρ H (env.set i none) (σ.set i none):=by
 refine ⟨by simp [h.len],fun j y hy=>?_⟩
 rw [List.getElem?_set] at hy ⊢
 by_cases hij:i=j
 ·subst hij
  by_cases hl:i<env.length
  ·rw [if_pos rfl,if_pos hl] at hy
   cases hy
  ·rw [if_pos rfl,if_neg hl] at hy
   cases hy
 ·rw [if_neg hij] at hy ⊢
  exact h.at_ j y hy
theorem EnvR.cons {env:PEnv} {σ:St} {x:PV} {v:V} (h:EnvR K mg ρ H env σ) (r:R K mg ρ H x v):EnvR K mg ρ H (some x::env) (some v::σ):=by
 refine ⟨by simp [h.len],fun j y hy=>?_⟩
 cases j with
 | zero=>simp at hy;subst hy;exact ⟨v,by simp,r⟩
 | succ j=>simp at hy;simpa using h.at_ j y hy
theorem StR.addr {st:Sto} {n:Nat} {so:SO} (s:StR K mg ρ H st) (e:st[n]?=some so) {a:Addr} (ha:ρ[n]?=some a):SoR K mg ρ H so a:=by
 obtain ⟨b,hb,h⟩:=s.at_ n so e
 rw [ha] at hb
 cases hb
 exact h
theorem SoR.some {so:SO} {a:Addr} (h:SoR K mg ρ H so a):∃o,H a=some o∧True:=by
 cases so with
 | lst xs=>obtain ⟨vs,h,_⟩:=h;exact ⟨_,h,trivial⟩
 | dic ks xs=>obtain ⟨vs,h,_⟩:=h;exact ⟨_,h,trivial⟩
 | ins c ks xs=>obtain ⟨C,dx,vs,_,h,_⟩:=h;exact ⟨_,h,trivial⟩
 | fdi ks xs=>obtain ⟨o,vs,h,_⟩:=h;exact ⟨_,h,trivial⟩
theorem StR.in_ {st:Sto} {n:Nat} {a:Addr} (s:StR K mg ρ H st) (h:ρ[n]?=some a):∃so,st[n]?=some so∧SoR K mg ρ H so a:=by
 have hl:n<st.length:=by rw [←s.len];exact (List.getElem?_eq_some_iff.mp h).1
 refine ⟨st[n],by simp [hl],s.addr (by simp [hl]) h⟩
theorem SoR.ext' {so:SO} {a:Addr} (e:Ext ρ H ρ1 H1) (h:SoR K mg ρ H so a) (k:H1 a=H a):SoR K mg ρ1 H1 so a:=by
 cases so with
 | lst xs=>obtain ⟨vs,h1,h2⟩:=h;exact ⟨vs,by rw [k];exact h1,Rs.ext e xs h2⟩
 | dic ks xs=>obtain ⟨vs,h1,h2,h3⟩:=h;exact ⟨vs,by rw [k];exact h1,Rs.ext e xs h2,h3⟩
 | ins c ks xs=>obtain ⟨C,dx,vs,h0,h1,h2,h3⟩:=h;exact ⟨C,dx,vs,h0,by rw [k];exact h1,Rs.ext e xs h2,h3⟩
 | fdi ks xs=>obtain ⟨o,vs,h1,h2,h3⟩:=h;exact ⟨o,vs,by rw [k];exact h1,Rs.ext e xs h2,h3⟩
theorem Ext.new {p:Addr} {o:HO} (hp:H p=none):Ext ρ H ρ (upd H p o) :=
 ⟨⟨[],by simp⟩,fun a o' h _=>by rw [zu (zae h hp)];exact h⟩
theorem StR.new {st:Sto} {p:Addr} {o:HO} (s:StR K mg ρ H st) (hp:H p=none):StR K mg ρ (upd H p o) st :=
 ⟨s.len,s.nd,fun n so e=>by
  obtain ⟨a,ha,h⟩:=s.at_ n so e
  obtain ⟨o',ho,_⟩:=h.some
  exact ⟨a,ha,h.ext' (Ext.new hp) (zu (zae ho hp))⟩⟩
theorem Ext.push {p:Addr} {o:HO} (hp:H p=none):Ext ρ H (ρ++[p]) (upd H p o) :=
 ⟨⟨[p],rfl⟩,fun a o' h _=>by rw [zu (zae h hp)];exact h⟩
theorem StR.push {st:Sto} {p:Addr} {o:HO} {so:SO} (s:StR K mg ρ H st) (hp:H p=none) (n:SoR K mg (ρ++[p]) (upd H p o) so p):StR K mg (ρ++[p]) (upd H p o) (st++[so]):=by
 refine ⟨by simp [s.len],?_,fun i so' e=>?_⟩
 ·refine List.nodup_append.mpr ⟨s.nd,by simp,fun a ha b hb=>?_⟩
  obtain rfl:b=p:=by simpa using hb
  obtain ⟨n,hn⟩:=List.getElem?_of_mem ha
  obtain ⟨so',_,h⟩:=s.in_ hn
  obtain ⟨o',ho,_⟩:=h.some
  exact zae ho hp
 ·by_cases hi:i<st.length
  ·rw [List.getElem?_append_left hi] at e
   obtain ⟨a,ha,h⟩:=s.at_ i so' e
   obtain ⟨o',ho,_⟩:=h.some
   exact ⟨a,(Ext.push (o:=o) hp).get ha,h.ext' (Ext.push hp) (zu (zae ho hp))⟩
  ·rw [List.getElem?_append_right (by omega)] at e
   have hi':i=st.length:=by
    have:=(List.getElem?_eq_some_iff.mp e).1
    simp at this
    omega
   subst hi'
   simp at e
   subst e
   exact ⟨p,by rw [←s.len];simp,n⟩
theorem Ext.write {a:Addr} {o o':HO} (ha:H a=some o) (hi:Imm o=false):Ext ρ H ρ (upd H a o') :=
 ⟨⟨[],by simp⟩,fun b u h m=>by
  rw [zu]
  ·exact h
  ·intro z;subst z;rw [ha] at h;cases h;rw [hi] at m;cases m⟩
theorem StR.write {st:Sto} {n:Nat} {a:Addr} {o':HO} {so:SO} (s:StR K mg ρ H st) (hn:ρ[n]?=some a) (ew:Ext ρ H ρ (upd H a o')) (h:SoR K mg ρ (upd H a o') so a):StR K mg ρ (upd H a o') (st.set n so):=by
 refine ⟨by simp [s.len],s.nd,fun i so' e=>?_⟩
 rw [List.getElem?_set] at e
 by_cases hij:n=i
 ·subst hij
  rw [if_pos rfl] at e
  split at e
  ·cases e;exact ⟨a,hn,h⟩
  ·cases e
 ·rw [if_neg hij] at e
  obtain ⟨b,hb,q⟩:=s.at_ i so' e
  have ne:b≠a:=by
   intro z
   subst z
   obtain ⟨h1,h2⟩:=List.getElem?_eq_some_iff.mp hn
   obtain ⟨h3,h4⟩:=List.getElem?_eq_some_iff.mp hb
   have pw:=List.pairwise_iff_getElem.mp s.nd
   rcases Nat.lt_trichotomy n i with c|c|c
   ·exact pw n i h1 h3 c (h2.trans h4.symm)
   ·exact hij c
   ·exact pw i n h3 h1 c (h4.trans h2.symm)
  exact ⟨b,hb,q.ext' ew (zu ne)⟩
section
variable {α β:Type} {E:XK} {good:List Addr→Hp→α→Sto→Prop}
theorem Out.ext {r:Res α} (h:Out K mg ρ H r good E) (e:Ext ρ H ρ1 H1):Out K mg ρ1 H1 r good E:=by
 cases r with
 | ok x st=>exact fun ρ' H' e' s=>h ρ' H' (e.trans e') s
 | err c ks xs st=>exact fun ρ' H' C d e' s x=>h ρ' H' C d (e.trans e') s x
 | stuck=>exact h
theorem Out.mono {r:Res α} {good':List Addr→Hp→α→Sto→Prop} (h:Out K mg ρ H r good E) (g:∀ρ' H' x st,Ext ρ H ρ' H'→StR K mg ρ' H' st→good ρ' H' x st→good' ρ' H' x st):Out K mg ρ H r good' E:=by
 cases r with
 | ok x st=>exact fun ρ' H' e' s=>g ρ' H' x st e' s (h ρ' H' e' s)
 | err c ks xs st=>exact h
 | stuck=>exact h
theorem Out.bind {r:Res β} {f:β→Mo α} (h:Out K mg ρ H (r.bind f) good E):Out K mg ρ H r (fun ρ' H' x st=>Out K mg ρ' H' (f x st) good E) E:=by
 cases r with
 | ok x st=>exact fun ρ' H' e' s=>Out.ext h e'
 | err c ks xs st=>exact h
 | stuck=>exact h
theorem Out.then {r:Res β} {f:β→Mo α} {good':List Addr→Hp→β→Sto→Prop} (h:Out K mg ρ H (r.bind f) good E) (g:∀ρ' H' x st,Ext ρ H ρ' H'→StR K mg ρ' H' st→Out K mg ρ' H' (f x st) good E→good' ρ' H' x st):Out K mg ρ H r good' E:=h.bind.mono g
theorem Out.now {x:α} {st:Sto} (h:Out K mg ρ H (.ok x st) good E) (s:StR K mg ρ H st):good ρ H x st:=h ρ H Ext.refl s
end
end
end Mi
namespace Mi
open PySem L2 PySem.W PySem.Spec
abbrev lim:Nat:=1000000
theorem zR {n:Nat} (h:n≤lim):n≤sizeLine:=by rw [sizeLine_eq];show n≤16777216;exact Nat.le_trans h (by decide)
section
variable (K:Frag) (mg:Str→Option Value)
def tM (Er:XK) (f:PEnv→Mo PV):TE:=fun σ H Q=>∃env st ρ,EnvR K mg ρ H env σ∧StR K mg ρ H st∧Out K mg ρ H (f env st) (gV K mg Q) Er
def tMB (Er:XK) (f:PEnv→Mo Bool):TT:=fun σ H Q=>∃env st ρ,EnvR K mg ρ H env σ∧StR K mg ρ H st∧Out K mg ρ H (f env st) (gB Q) Er
def tMA (Er:XK) (f:PEnv→Mo (List PV)):TA:=fun σ H Q=>∃env st ρ,EnvR K mg ρ H env σ∧StR K mg ρ H st∧Out K mg ρ H (f env st) (gVs K mg Q) Er
def sM (Er:XK) (f:PEnv→Mo Fl):TS:=fun D σ H=>∃env st ρ,EnvR K mg ρ H env σ∧StR K mg ρ H st∧Out K mg ρ H (f env st) (gS K mg D) Er
end
def ME (X:Cx) (Er:XK) (e:Expr) (f:PEnv→Mo PV):Prop:=PE X e (tM X.K X.mg Er f)
def MT (X:Cx) (Er:XK) (e:Expr) (f:PEnv→Mo Bool):Prop:=PT X e (tMB X.K X.mg Er f)
def MW (X:Cx) (Er:XK) (e:Expr) (f:PEnv→Mo Bool):Prop:=PW X e (tMB X.K X.mg Er f)
def MA (X:Cx) (Er:XK) (e:List Expr) (f:PEnv→Mo (List PV)):Prop:=PA X e (tMA X.K X.mg Er f)
def MS (X:Cx) (Er:XK) (e:Stmt) (f:PEnv→Mo Fl):Prop:=PS X e (sM X.K X.mg Er f)
def MSs (X:Cx) (Er:XK) (e:List Stmt) (f:PEnv→Mo Fl):Prop:=PSs X e (sM X.K X.mg Er f)
section
variable {X:Cx} {Er:XK} {e a b c:Expr} {es:List Expr} {pos:Pos} {t t':TE}
theorem PE.weak (h:PE X e t) (w:∀σ H Q,t' σ H Q→t σ H Q):PE X e t':=fun pins s σ H Q I q=>h pins s σ H Q I (w σ H Q q)
theorem PT.weak {t t':TT} (h:PT X e t) (w:∀σ H Q,t' σ H Q→t σ H Q):PT X e t':=fun pins s σ H Q I q=>h pins s σ H Q I (w σ H Q q)
theorem PW.weak {t t':TT} (h:PW X e t) (w:∀σ H Q,t' σ H Q→t σ H Q):PW X e t':=fun wh pins s σ H Q I q=>h wh pins s σ H Q I (w σ H Q q)
theorem PA.weak {t t':TA} (h:PA X es t) (w:∀σ H Q,t' σ H Q→t σ H Q):PA X es t':=fun pos pins s σ H Q I q=>h pos pins s σ H Q I (w σ H Q q)
theorem PS.weak {st:Stmt} {t t':TS} (h:PS X st t) (w:∀D σ H,t' D σ H→t D σ H):PS X st t':=fun pins s σ H D I q=>h pins s σ H D I (w D σ H q)
theorem PSs.weak {st:List Stmt} {t t':TS} (h:PSs X st t) (w:∀D σ H,t' D σ H→t D σ H):PSs X st t':=fun pins s σ H D I q=>h pins s σ H D I (w D σ H q)
def mVar (i:Nat):PEnv→Mo PV:=fun env st=>match env[i]? with
 | some (some x)=>.ok x st
 | _=>.stuck
def mC (x:PV):PEnv→Mo PV:=fun _ st=>.ok x st
theorem zc (i:Nat) {x:Str} {pos:Pos} (hN:X.N[i]?=some x:=by rfl) (hv:Vis X.env.scope x:=by first|exact Or.inl rfl|exact Or.inr (Or.inl rfl)|exact Or.inr (Or.inr rfl)) (hd:(x==("__debug__" : Str))=false:=by decide)
  (hcd:(x==("__classdict__" : Str))=false:=by decide):ME X Er (.Name x pos) (mVar i):=PE.weak (zkX hN hv hd hcd) fun σ H Q ⟨env,st,ρ,re,rs,h⟩=>by
 unfold mVar at h
 split at h
 ·rename_i x' hx
  obtain ⟨v,h1,h2⟩:=re.at_ i x' hx
  exact ⟨v,h1,h.now rs v h2⟩
 ·exact h.elim
theorem zeU {x:PV} {v:V} (hp:PE X e (tC v)) (hr:∀ρ H,R X.K X.mg ρ H x v):ME X Er e (mC x):=PE.weak hp fun σ H Q ⟨env,st,ρ,re,rs,h⟩=>h.now rs v (hr ρ H)
theorem zg {i:Int} {j}:ME X Er (.Constant (.int i) j pos) (mC (.int i)):=zeU zm2 fun _ _=>rfl
theorem zD {x:Str} {j}:ME X Er (.Constant (.str x) j pos) (mC (.str x)):=zeU zm4 fun _ _=>rfl
theorem ziB {b:Bool} {j}:ME X Er (.Constant (.bool b) j pos) (mC (.bl b)):=zeU zoE fun _ _=>rfl
theorem zfL {j}:ME X Er (.Constant .none j pos) (mC .non):=zeU zm3 fun _ _=>rfl
theorem zlU {x:Str} {p:PV} {v:V} {u:Value} (hm:X.mg x=some u) (r:RelV v u) (hr:∀ρ H,R X.K X.mg ρ H p v) (hg:Gl X x:=by rfl) (hd:(x==("__debug__" : Str))=false:=by decide):ME X Er (.Name x pos) (mC p):=zeU (zgo hg hm r hd) hr
def OpM (K:Frag) (mg:Str→Option Value) (r:R2) (op:PV→PV→Mo PV):Prop:=∀ρ H st x y v w (Q:VK) (E:XK),StR K mg ρ H st→R K mg ρ H x v→R K mg ρ H y w→Out K mg ρ H (op x y st) (gV K mg Q) E→r v w H Q
def mOp (op:PV→PV→Mo PV) (fa fb:PEnv→Mo PV):PEnv→Mo PV:=fun env st=>(fa env st).bind fun x st1=>(fb env st1).bind fun y st2=>op x y st2
variable {fa fb fc:PEnv→Mo PV}
theorem zkh {r:R2} {op:PV→PV→Mo PV} {K:Frag} {mg:Str→Option Value} (hm:OpM K mg r op) {σ:St} {H:Hp} {Q:VK} (h:tM K mg Er (mOp op fa fb) σ H Q):tOp r (tM K mg Er fa) (tM K mg Er fb) σ H Q:=by
 obtain ⟨env,st,ρ,re,rs,h⟩:=h
 exact ⟨env,st,ρ,re,rs,h.then fun ρ1 H1 x st1 e1 s1 h1 v rv=>⟨env,st1,ρ1,re.ext e1,s1,h1.then fun ρ2 H2 y st2 e2 s2 h2 w rw=>hm ρ2 H2 st2 x y v w Q Er s2 (R.ext e2 x rv) rw h2⟩⟩
theorem zoT {o:Operator} {r:R2} {op:PV→PV→Mo PV} (ho:OpR X (binaryOp o) r) (hm:OpM X.K X.mg r op) (ha:ME X Er a fa) (hb:ME X Er b fb):ME X Er (.BinOp a o b pos) (mOp op fa fb) :=
 PE.weak (zoI ho ha hb) fun σ H Q h=>zkh hm h
theorem znG {o:CmpOp} {r:R2} {op:PV→PV→Mo PV} (ho:OpR X (compareOp o) r) (hm:OpM X.K X.mg r op) (ha:ME X Er a fa) (hb:ME X Er b fb) (hk:behindInMarks o b=false):ME X Er (.Compare a [o] [b] pos) (mOp op fa fb) :=
 PE.weak (zly ho ha hb hk) fun σ H Q h=>zkh hm h
def asB:PV→Mo Bool
 | .bl b,st=>.ok b st
 | _,_=>.stuck
def mB (f:PEnv→Mo PV):PEnv→Mo Bool:=fun env st=>(f env st).bind asB
theorem znH {K:Frag} {mg:Str→Option Value} {ρ:List Addr} {H:Hp} {x:PV} {st:Sto} {Q:Bool→Hp→Prop} (s:StR K mg ρ H st) (h:Out K mg ρ H (asB x st) (gB Q) Er) {v:V} (r:R K mg ρ H x v):∃k,v=.bl k∧Q k H:=by
 unfold asB at h
 split at h
 ·cases r;exact ⟨_,rfl,h.now s⟩
 ·exact h.elim
theorem zfd {α:Type} {K:Frag} {mg:Str→Option Value} {ρ:List Addr} {H:Hp} {x:PV} {st:Sto} {f:Bool→Mo α} {good:List Addr→Hp→α→Sto→Prop} (h:Out K mg ρ H ((asB x st).bind f) good Er):∃k,x=.bl k∧Out K mg ρ H (f k st) good Er:=by
 cases x with
 | bl k=>exact ⟨k,rfl,h⟩
 | _=>exact False.elim h
theorem zoU {f:PEnv→Mo PV} {K:Frag} {mg:Str→Option Value} {σ:St} {H:Hp} {Q:Bool→Hp→Prop} (h:tMB K mg Er (mB f) σ H Q):tM K mg Er f σ H fun x H1=>∃c,x=.bl c∧Q c H1:=by
 obtain ⟨env,st,ρ,re,rs,h⟩:=h
 exact ⟨env,st,ρ,re,rs,h.then fun ρ1 H1 x st1 e1 s1 h1 v rv=>znH s1 h1 rv⟩
theorem znI {o:CmpOp} {r:R2} {op:PV→PV→Mo PV} (ho:OpR X (compareOp o) r) (hm:OpM X.K X.mg r op) (ha:ME X Er a fa) (hb:ME X Er b fb) (hk:behindInMarks o b=false):MT X Er (.Compare a [o] [b] pos) (mB (mOp op fa fb)) :=
 PT.weak (zia ho ha hb hk) fun σ H Q h=>zkh hm (zoU h)
theorem zaC (h:ME X Er e fa) (he:∀whole,isTrue e X.env whole=(do let v ←whole;standAt e.pos;holding [v] (truthy v)):=by intro _;rfl):MT X Er e (mB fa) :=
 PT.weak (zm5 h he) fun σ H Q h=>zoU h
def mChain (op op':PV→PV→Mo PV) (fa fb fc:PEnv→Mo PV):PEnv→Mo PV:=fun env st=>(fa env st).bind fun x st1=>(fb env st1).bind fun y st2=>(op x y st2).bind fun k st3=>(asB k st3).bind fun b st4 =>
 if b=true then (fc env st4).bind fun z st5=>op' y z st5 else .ok (.bl false) st4
theorem zki {r r':R2} {op op':PV→PV→Mo PV} {K:Frag} {mg:Str→Option Value} (hm:OpM K mg r op) (hm':OpM K mg r' op') {σ:St} {H:Hp} {Q:VK} (h:tM K mg Er (mChain op op' fa fb fc) σ H Q):tChain r r' (tM K mg Er fa) (tM K mg Er fb) (tM K mg Er fc) σ H Q:=by
 obtain ⟨env,st,ρ,re,rs,h⟩:=h
 refine ⟨env,st,ρ,re,rs,h.then fun ρ1 H1 x st1 e1 s1 h1 v rv=>⟨env,st1,ρ1,re.ext e1,s1,h1.then fun ρ2 H2 y st2 e2 s2 h2 w rw=>?_⟩⟩
 refine hm ρ2 H2 st2 x y v w _ Er s2 (R.ext e2 x rv) rw (h2.then fun ρ3 H3 z st3 e3 s3 h3 u ru=>?_)
 obtain ⟨b,rfl,h4⟩:=zfd h3
 cases ru
 refine ⟨b,rfl,?_⟩
 cases b with
 | true=>exact ⟨env,st3,ρ3,((re.ext e1).ext e2).ext e3,s3,Out.then (f:=fun z st5=>op' y z st5) h4 fun ρ5 H5 z st5 e5 s5 h5 w' rw'=>hm' ρ5 H5 st5 y z w w' Q Er s5 (R.ext e5 y (R.ext e3 y rw)) rw' h5⟩
 | false=>exact Out.now (x:=PV.bl false) h4 s3 _ rfl
theorem zkj {o o':CmpOp} {r r':R2} {op op':PV→PV→Mo PV} (ho:OpR X (compareOp o) r) (hm:OpM X.K X.mg r op) (ho':OpR X (compareOp o') r') (hm':OpM X.K X.mg r' op') (ha:ME X Er a fa) (hb:ME X Er b fb) (hc:ME X Er c fc)
  (hk:lastMarks [o,o'] [b,c]=false:=by with_unfolding_all rfl):ME X Er (.Compare a [o,o'] [b,c] pos) (mChain op op' fa fb fc):=PE.weak (zjU ho ho' ha hb hc hk) fun σ H Q h=>zki hm hm' h
def UnM (K:Frag) (mg:Str→Option Value) (r:V→Hp→VK→Prop) (op:PV→Mo PV):Prop:=∀ρ H st x v (Q:VK) (E:XK),StR K mg ρ H st→R K mg ρ H x v→Out K mg ρ H (op x st) (gV K mg Q) E→r v H Q
def mUn (op:PV→Mo PV) (fa:PEnv→Mo PV):PEnv→Mo PV:=fun env st=>(fa env st).bind op
theorem zoV {o:UnaryOp} {r:V→Hp→VK→Prop} {op:PV→Mo PV} (ho:UnR X (unaryOp o) r) (hm:UnM X.K X.mg r op) (ha:ME X Er a fa):ME X Er (.UnaryOp o a pos) (mUn op fa) :=
 PE.weak (zoJ ho ha) fun σ H Q ⟨env,st,ρ,re,rs,h⟩=>⟨env,st,ρ,re,rs,h.then fun ρ1 H1 x st1 e1 s1 h1 v rv=>hm ρ1 H1 st1 x v Q Er s1 rv h1⟩
variable {ga gb:PEnv→Mo Bool} {rest:List Expr}
def bAnd (ga gb:PEnv→Mo Bool):PEnv→Mo Bool:=fun env st=>(ga env st).bind fun c st1=>if c=true then gb env st1 else .ok false st1
def bOr (ga gb:PEnv→Mo Bool):PEnv→Mo Bool:=fun env st=>(ga env st).bind fun c st1=>if c=true then .ok true st1 else gb env st1
def bNot (ga:PEnv→Mo Bool):PEnv→Mo Bool:=fun env st=>(ga env st).bind fun c st1=>.ok (!c) st1
theorem ziC (ha:MT X Er a ga):MW X Er (.BoolOp .And [a] pos) ga:=zlu ha
theorem ziD (ha:MT X Er a ga):MW X Er (.BoolOp .Or [a] pos) ga:=zm6 ha
theorem ziE (ha:MT X Er a ga) (hb:MW X Er (.BoolOp .And (b::rest) pos) gb):MW X Er (.BoolOp .And (a::b::rest) pos) (bAnd ga gb) :=
 PW.weak (zm7 ha hb) fun σ H Q ⟨env,st,ρ,re,rs,h⟩=>⟨env,st,ρ,re,rs,h.then fun ρ1 H1 k st1 e1 s1 h1=>by
  cases k with
  | true=>exact ⟨env,st1,ρ1,re.ext e1,s1,h1⟩
  | false=>exact h1.now s1⟩
theorem zlV (ha:MT X Er a ga) (hb:MW X Er (.BoolOp .Or (b::rest) pos) gb):MW X Er (.BoolOp .Or (a::b::rest) pos) (bOr ga gb) :=
 PW.weak (zoF ha hb) fun σ H Q ⟨env,st,ρ,re,rs,h⟩=>⟨env,st,ρ,re,rs,h.then fun ρ1 H1 k st1 e1 s1 h1=>by
  cases k with
  | false=>exact ⟨env,st1,ρ1,re.ext e1,s1,h1⟩
  | true=>exact h1.now s1⟩
theorem znJ {op:BoolOp} (h:MW X Er (.BoolOp op es pos) ga):MT X Er (.BoolOp op es pos) ga:=PW.pt h
theorem zex (ha:MT X Er a ga):MT X Er (.UnaryOp .Not a pos) (bNot ga):=PT.weak (zm8 ha) fun σ H Q ⟨env,st,ρ,re,rs,h⟩=>⟨env,st,ρ,re,rs,h.then fun ρ1 H1 k st1 e1 s1 h1=>h1.now s1⟩
def mAnd (fa fb:PEnv→Mo PV):PEnv→Mo PV:=fun env st=>(fa env st).bind fun x st1=>(asB x st1).bind fun c st2=>if c=true then fb env st2 else .ok (.bl false) st2
def mOr (fa fb:PEnv→Mo PV):PEnv→Mo PV:=fun env st=>(fa env st).bind fun x st1=>(asB x st1).bind fun c st2=>if c=true then .ok (.bl true) st2 else fb env st2
def mNot (fa:PEnv→Mo PV):PEnv→Mo PV:=fun env st=>(fa env st).bind fun x st1=>(asB x st1).bind fun c st2=>.ok (.bl (!c)) st2
theorem ziF {op} (h:ME X Er a fa):ME X Er (.BoolOp op [a] pos) fa:=zm9 h
theorem zk6 (ha:ME X Er a fa) (hb:ME X Er (.BoolOp .And (b::rest) pos) fb):ME X Er (.BoolOp .And (a::b::rest) pos) (mAnd fa fb) :=
 PE.weak (zna ha hb) fun σ H Q ⟨env,st,ρ,re,rs,h⟩=>⟨env,st,ρ,re,rs,h.then fun ρ1 H1 x st1 e1 s1 h1 v rv=>by
  obtain ⟨k,rfl,h1⟩:=zfd h1
  cases rv
  refine ⟨k,rfl,?_⟩
  cases k with
  | true=>exact ⟨env,st1,ρ1,re.ext e1,s1,h1⟩
  | false=>exact Out.now (x:=PV.bl false) h1 s1 _ rfl⟩
theorem znK (ha:ME X Er a fa) (hb:ME X Er (.BoolOp .Or (b::rest) pos) fb):ME X Er (.BoolOp .Or (a::b::rest) pos) (mOr fa fb) :=
 PE.weak (zoG ha hb) fun σ H Q ⟨env,st,ρ,re,rs,h⟩=>⟨env,st,ρ,re,rs,h.then fun ρ1 H1 x st1 e1 s1 h1 v rv=>by
  obtain ⟨k,rfl,h1⟩:=zfd h1
  cases rv
  refine ⟨k,rfl,?_⟩
  cases k with
  | false=>exact ⟨env,st1,ρ1,re.ext e1,s1,h1⟩
  | true=>exact Out.now (x:=PV.bl true) h1 s1 _ rfl⟩
theorem znL (ha:ME X Er a fa):ME X Er (.UnaryOp .Not a pos) (mNot fa) :=
 PE.weak (znb ha) fun σ H Q ⟨env,st,ρ,re,rs,h⟩=>⟨env,st,ρ,re,rs,h.then fun ρ1 H1 x st1 e1 s1 h1 v rv=>by
  obtain ⟨k,rfl,h1⟩:=zfd h1
  cases rv
  exact ⟨k,rfl,Out.now (x:=PV.bl (!k)) h1 s1 _ rfl⟩⟩
def mIf (g:PEnv→Mo Bool) (fa fb:PEnv→Mo PV):PEnv→Mo PV:=fun env st=>(g env st).bind fun c st1=>if c=true then fa env st1 else fb env st1
theorem zlW {c:Expr} (hc:MT X Er c ga) (ha:ME X Er a fa) (hb:ME X Er b fb):ME X Er (.IfExp c a b pos) (mIf ga fa fb) :=
 PE.weak (zjP hc ha hb) fun σ H Q ⟨env,st,ρ,re,rs,h⟩=>⟨env,st,ρ,re,rs,h.then fun ρ1 H1 k st1 e1 s1 h1=>by
  cases k with
  | true=>exact ⟨env,st1,ρ1,re.ext e1,s1,h1⟩
  | false=>exact ⟨env,st1,ρ1,re.ext e1,s1,h1⟩⟩
def aNil:PEnv→Mo (List PV):=fun _ st=>.ok [] st
def aCons (f:PEnv→Mo PV) (fs:PEnv→Mo (List PV)):PEnv→Mo (List PV):=fun env st=>(f env st).bind fun x st1=>(fs env st1).bind fun xs st2=>.ok (x::xs) st2
variable {fs:PEnv→Mo (List PV)}
theorem zf:MA X Er [] aNil:=PA.weak zig fun σ H Q ⟨env,st,ρ,re,rs,h⟩=>h.now rs [] rfl
theorem zb (ha:ME X Er e fa) (hr:MA X Er es fs) (hs:starEach (e::es) X.env=(false,eval e X.env)::starEach es X.env:=by rfl):MA X Er (e::es) (aCons fa fs) :=
 PA.weak (zgr ha hr hs) fun σ H Q ⟨env,st,ρ,re,rs,h⟩=>⟨env,st,ρ,re,rs,h.then fun ρ1 H1 x st1 e1 s1 h1 v rv=>⟨env,st1,ρ1,re.ext e1,s1,h1.then fun ρ2 H2 xs st2 e2 s2 h2 vs rvs =>
  h2.now s2 (v::vs) ⟨v,vs,rfl,R.ext e2 x rv,rvs⟩⟩⟩
def mTup (fs:PEnv→Mo (List PV)):PEnv→Mo PV:=fun env st=>(fs env st).bind fun xs st1=>if xs.length≤lim then .ok (.tup xs) st1 else .stuck
def mLst (fs:PEnv→Mo (List PV)):PEnv→Mo PV:=fun env st=>(fs env st).bind fun xs st1=>if xs.length≤lim then .ok (.ref st1.length) (st1++[.lst xs]) else .stuck
theorem R.tup_of {K:Frag} {mg:Str→Option Value} {ρ:List Addr} {H:Hp} {xs:List PV} {vs:List V} {p:Addr} (r:Rs K mg ρ H xs vs) (hp:H p=none):R K mg ρ (upd H p (.tup vs)) (.tup xs) (.ref p) :=
 ⟨p,vs,rfl,SqT.of zx,Rs.ext (Ext.new hp) xs r⟩
theorem zV {x1} (h:MA X Er es fs):ME X Er (.Tuple es x1 pos) (mTup fs) :=
 PE.weak (znq h) fun σ H Q ⟨env,st,ρ,re,rs,h⟩=>⟨env,st,ρ,re,rs,h.then fun ρ1 H1 xs st1 e1 s1 h1 vs rv=>by
  split at h1
  ·rename_i hl
   exact ⟨by rw [←rv.len];exact zR hl,fun p hp=>h1 ρ1 _ (Ext.new hp) (s1.new hp) _ (R.tup_of rv hp)⟩
  ·exact h1.elim⟩
theorem Out.newList {K:Frag} {mg:Str→Option Value} {ρ:List Addr} {H:Hp} {st:Sto} {xs:List PV} {vs:List V} {p:Addr} {Q:VK} (h:Out K mg ρ H (.ok (.ref st.length) (st++[.lst xs])) (gV K mg Q) Er) (s:StR K mg ρ H st) (r:Rs K mg ρ H xs vs) (hp:H p=none):Q (.ref p) (upd H p (.lst vs)) :=
 h (ρ++[p]) _ (Ext.push hp) (s.push hp ⟨vs,zx,Rs.ext (Ext.push hp) xs r⟩) _ ⟨p,rfl,by rw [←s.len];simp⟩
theorem zey (h:MA X Er es fs):ME X Er (.List es pos) (mLst fs) :=
 PE.weak (znr h) fun σ H Q ⟨env,st,ρ,re,rs,h⟩=>⟨env,st,ρ,re,rs,h.then fun ρ1 H1 xs st1 e1 s1 h1 vs rv=>by
  split at h1
  ·rename_i hl
   exact ⟨by rw [←rv.len];exact zR hl,fun p hp=>Out.newList h1 s1 rv hp⟩
  ·exact h1.elim⟩
theorem zoW {r:R2} {op:PV→PV→Mo PV} (ho:IxR X r) (hm:OpM X.K X.mg r op) (ha:ME X Er a fa) (hb:ME X Er b fb) (hs:PlainIx b:=by exact fun _ _=>rfl):ME X Er (.Subscript a b pos) (mOp op fa fb) :=
 PE.weak (znv ho ha hb hs) fun σ H Q h=>zkh hm h
end
end Mi
namespace HT
open PySem PySem.Spec PyProof.Rows
section
variable {prog:Program} {w:World} {A:Around} {E:Value→Shared→Prop} {s:Shared}
theorem getItem_tuple_all {t sl:Addr} {items:Array Value} {vl vu:Value} {lo hi:Option Int} {Q:Value→Shared→Prop} (ht:IsTup s.heap t items) (hs:s.heap.IsSliceOf sl vl vu .none) (pl:IsPart vl lo) (pu:IsPart vu hi)
  (hw:sIx items.size 0 lo=0∧sIx items.size items.size hi=items.size) (h:Q (.ref t) s)
  (hsz:items.size≤sizeLine):wpAny (model prog w) A (getItem (.ref t) (.ref sl)) Q E s:=by
 obtain ⟨os,hos,hcs,hds⟩:=id hs
 have hTs:s.TypeIs (.ref sl) "slice" := ⟨os,hos,hcs⟩
 unfold getItem
 try with_reducible refine wpAny_holding ?_
 first|refine wpAny_bind (wpAny_pure ?_)|skip
 refine wpAny_bind (wpAny_sequenceKey ht.typeIs (by decide) ?_)
 refine wpAny_bind (wpAny_callSpecial?_slot (name:=Str.ofString "__getitem__") ht.typeIs PyProof.Rows.slot_tuple_getitem
  (wpAny_call_entry PyProof.Rows.slot_tuple_getitem ht.typeIs entry_tuple_getitem ?_ (args_tuple_getitem _ _)))
 show wpAny _ _ (Builtin.Tuple.tupleItemsOf (.ref t) >>= _) _ _ s
 refine wpAny_bind (tupleItemsOf_ ht ?_)
 refine wpAny_bind (wpAny_typeOf hTs ?_)
 rw [if_pos (by decide)]
 refine wpAny_bind (zcn hs pl pu ?_)
 have hyes:(((sIx items.size 0 lo:Nat):Int)==0&&(1:Int)==1&&(sIx items.size items.size hi-sIx items.size 0 lo)==items.size)=true:=by
  rw [hw.1,hw.2];simp
 show wpAny _ _ (if (((sIx items.size 0 lo:Nat):Int)==0&&(1:Int)==1&&(sIx items.size items.size hi-sIx items.size 0 lo)==items.size)=true then _ else _) _ _ s
 rw [if_pos hyes]
 unfold Builtin.Tuple.tupleIsExact
 refine wpAny_bind (wpAny_bind (wpAny_typeOf ht.typeIs (wpAny_pure ?_)))
 rw [if_pos (by decide)]
 exact wpAny_bind (wpAny_rule (wpAny_pure ⟨_,rfl,wpAny_pure h⟩))
theorem cat_tup0 {t b:Addr} {ws:List Value} {Q:Value→Shared→Prop} (ht:IsTup s.heap t #[]) (hb:IsTup s.heap b ws.toArray) (h1:Q (.ref b) s):wpAny (model prog w) A (binaryOp .Add (.ref t) (.ref b)) Q E s:=by
 obtain ⟨⟨cls,dd,data,sl⟩,ho,hc,n,hd⟩:=id ht
 obtain ⟨⟨cls2,dd2,data2,sl2⟩,ho2,hc2,n2,hd2⟩:=id hb
 simp only at hc hd hc2 hd2
 subst hc hd hc2 hd2
 exact concat_meets ⟨_,ho,rfl⟩ ⟨_,ho2,rfl⟩ noFill_tuple_add seq_tuple_add PySem.F.slot_tuple_add PySem.F.entry_tuple_add (PySem.F.args_tuple_add_2 _ _)
   (tuple_addW0 t b #[] ws.toArray n n2 dd dd2 sl sl2 (by simp)) ⟨ho,ho2,h1⟩
end
end HT
namespace Mi
open PySem L2 PySem.W PySem.Spec
section
variable {X:Cx} {Er:XK} {K:Frag} {mg:Str→Option Value}
def BinOk (X:Cx) (o:Operator) (op:PV→PV→Mo PV):Prop:=∃r,OpR X (binaryOp o) r∧OpM X.K X.mg r op
def CmpOk (X:Cx) (o:CmpOp) (op:PV→PV→Mo PV):Prop:=∃r,OpR X (compareOp o) r∧OpM X.K X.mg r op
def IxOk (X:Cx) (op:PV→PV→Mo PV):Prop:=∃r,IxR X r∧OpM X.K X.mg r op
def UnOk (X:Cx) (o:UnaryOp) (op:PV→Mo PV):Prop:=∃r,UnR X (unaryOp o) r∧UnM X.K X.mg r op
variable {a b c e:Expr} {es:List Expr} {pos:Pos} {fa fb fc:PEnv→Mo PV} {fs:PEnv→Mo (List PV)}
theorem zF {o:Operator} {op:PV→PV→Mo PV} (h:BinOk X o op) (ha:ME X Er a fa) (hb:ME X Er b fb):ME X Er (.BinOp a o b pos) (mOp op fa fb):=let ⟨_,h1,h2⟩:=h;zoT h1 h2 ha hb
theorem zez {o:CmpOp} {op:PV→PV→Mo PV} (h:CmpOk X o op) (ha:ME X Er a fa) (hb:ME X Er b fb) (hk:behindInMarks o b=false:=by first|exact nomark _|with_unfolding_all rfl):ME X Er (.Compare a [o] [b] pos) (mOp op fa fb):=let ⟨_,h1,h2⟩:=h;znG h1 h2 ha hb hk
theorem zP {o:CmpOp} {op:PV→PV→Mo PV} (h:CmpOk X o op) (ha:ME X Er a fa) (hb:ME X Er b fb) (hk:behindInMarks o b=false:=by first|exact nomark _|with_unfolding_all rfl):MT X Er (.Compare a [o] [b] pos) (mB (mOp op fa fb)):=let ⟨_,h1,h2⟩:=h;znI h1 h2 ha hb hk
theorem zlX {o o':CmpOp} {op op':PV→PV→Mo PV} (h:CmpOk X o op) (h':CmpOk X o' op') (ha:ME X Er a fa) (hb:ME X Er b fb) (hc:ME X Er c fc)
  (hk:lastMarks [o,o'] [b,c]=false:=by with_unfolding_all rfl):ME X Er (.Compare a [o,o'] [b,c] pos) (mChain op op' fa fb fc):=let ⟨_,h1,h2⟩:=h;let ⟨_,h3,h4⟩:=h';zkj h1 h2 h3 h4 ha hb hc hk
theorem zak {op:PV→PV→Mo PV} (h:IxOk X op) (ha:ME X Er a fa) (hb:ME X Er b fb) (hs:PlainIx b:=by exact fun _ _=>rfl):ME X Er (.Subscript a b pos) (mOp op fa fb):=let ⟨_,h1,h2⟩:=h;zoW h1 h2 ha hb hs
theorem znM {o:UnaryOp} {op:PV→Mo PV} (h:UnOk X o op) (ha:ME X Er a fa):ME X Er (.UnaryOp o a pos) (mUn op fa):=let ⟨_,h1,h2⟩:=h;zoV h1 h2 ha
theorem Out.ifp {α:Type} {ρ:List Addr} {H:Hp} {p:Prop} [Decidable p] {r:Res α} {good:List Addr→Hp→α→Sto→Prop} (h:Out K mg ρ H (if p then r else .stuck) good Er):p∧Out K mg ρ H r good Er:=by
 split at h
 ·rename_i hp;exact ⟨hp,h⟩
 ·exact False.elim h
def withL {α:Type} (st:Sto) (n:Nat) (k:List PV→Res α):Res α:=match st[n]? with
 | some (.lst xs)=>k xs
 | _=>.stuck
def withD {α:Type} (st:Sto) (n:Nat) (k:List Str→List PV→Res α):Res α:=match st[n]? with
 | some (.dic ks xs)=>k ks xs
 | _=>.stuck
def withI {α:Type} (st:Sto) (n:Nat) (k:Str→List Str→List PV→Res α):Res α:=match st[n]? with
 | some (.ins c ks xs)=>k c ks xs
 | _=>.stuck
theorem zE {α:Type} {ρ:List Addr} {H:Hp} {st:Sto} {n:Nat} {k:List PV→Res α} {good:List Addr→Hp→α→Sto→Prop} (h:Out K mg ρ H (withL st n k) good Er):∃xs,st[n]?=some (.lst xs)∧Out K mg ρ H (k xs) good Er:=by
 unfold withL at h
 split at h
 ·rename_i xs e;exact ⟨xs,e,h⟩
 ·exact False.elim h
theorem zfM {α:Type} {ρ:List Addr} {H:Hp} {st:Sto} {n:Nat} {k:List Str→List PV→Res α} {good:List Addr→Hp→α→Sto→Prop} (h:Out K mg ρ H (withD st n k) good Er):∃ks xs,st[n]?=some (.dic ks xs)∧Out K mg ρ H (k ks xs) good Er:=by
 unfold withD at h
 split at h
 ·rename_i ks xs e;exact ⟨ks,xs,e,h⟩
 ·exact False.elim h
theorem zdl {α:Type} {ρ:List Addr} {H:Hp} {st:Sto} {n:Nat} {k:Str→List Str→List PV→Res α} {good:List Addr→Hp→α→Sto→Prop} (h:Out K mg ρ H (withI st n k) good Er):∃c ks xs,st[n]?=some (.ins c ks xs)∧Out K mg ρ H (k c ks xs) good Er:=by
 unfold withI at h
 split at h
 ·rename_i c ks xs e;exact ⟨c,ks,xs,e,h⟩
 ·exact False.elim h
def opI (C:Int→Int→Bool) (g:Int→Int→Int):PV→PV→Mo PV
 | .int i,.int j,st=>if C i j=true then .ok (.int (g i j)) st else .stuck
 | _,_,_=>.stuck
theorem zfN {C:Int→Int→Bool} {g:Int→Int→Int} {P:Int→Int→Prop} (hC:∀i j,C i j=true→P i j):OpM K mg (rI P fun i j=>.int (g i j)) (opI C g):=by
 intro ρ H st x y v w Q E s rx ry h
 cases x with
 | int i =>
  cases y with
  | int j =>
   cases rx;cases ry
   obtain ⟨c,h⟩:=Out.ifp h
   exact ⟨i,j,rfl,rfl,hC i j c,h.now s _ rfl⟩
  | _=>exact False.elim h
 | _=>exact False.elim h
abbrev c0:Int→Int→Bool:=fun _ _=>true
theorem zlY {g:Int→Int→V} {f:Value→Value→Sem Value} (h:OpR X f (rI0 g)):OpR X f (rI (fun _ _=>True) g):=fun pins s σ H x y v u Q I rx ry ⟨i,j,h1,h2,_,q⟩=>h pins s σ H x y v u Q I rx ry ⟨i,j,h1,h2,q⟩
abbrev oSub:=opI c0 fun i j=>i-j
abbrev cMul:Int→Int→Bool:=fun i j=>(decide (-(2 ^ 64)<i)&&decide (i<2 ^ 64))||(decide (-(2 ^ 64)<j)&&decide (j<2 ^ 64))
abbrev oMul:=opI cMul fun i j=>i*j
abbrev cPow:Int→Int→Bool:=fun i j=>decide (0≤j)&&decide (j≤1000000)&&decide (i.natAbs<2 ^ 64)
abbrev oPow:=opI cPow fun i j=>i ^ j.toNat
abbrev cNz:Int→Int→Bool:=fun _ j=>decide (j≠0)
def modP (i j:Int):Int:=if 0<j then i%j else i.fmod j
abbrev oMod:=opI cNz modP
abbrev cDv:Int→Int→Bool:=fun _ j=>decide (j≠0)&&decide (j.natAbs<2 ^ 200)
def divP (i j:Int):Int:=if 0<j then i/j else i.fdiv j
abbrev oDiv:=opI cDv divP
theorem zlZ (i j:Int):modP i j=i.fmod j:=by
 unfold modP;split
 ·rename_i h;rw [Int.fmod_eq_emod_of_nonneg _ (by omega)]
 ·rfl
theorem zl0 (i j:Int):divP i j=i.fdiv j:=by
 unfold divP;split
 ·rename_i h;rw [Int.fdiv_eq_ediv_of_nonneg _ (by omega)]
 ·rfl
theorem zfO:BinOk X .Sub oSub:=⟨_,zlY zni,zfN fun _ _ _=>trivial⟩
theorem zoX:BinOk X .Mult oMul:=⟨_,znj,zfN fun i j h=>by simpa [cMul,CMul] using h⟩
theorem zl6:BinOk X .Pow oPow:=⟨_,znk,zfN fun i j h=>by simp [cPow] at h;exact ⟨h.1.1,h.1.2,h.2⟩⟩
theorem zce:BinOk X .Mod oMod:=⟨_,zlx,by
 have h:(fun i j=>V.int (i.fmod j))=fun i j=>V.int (modP i j):=by funext i j;rw [zlZ]
 rw [h];exact zfN fun i j h=>by simpa [cNz] using h⟩
theorem zl7 {y:Int} (h:y.natAbs<2 ^ 200):y.natAbs.log2<9000:=by
 by_cases h0:y.natAbs=0
 ·rw [h0];decide
 ·have:=(Nat.log2_lt h0).mpr h
  omega
theorem zkk:OpR X (binaryOp .FloorDiv) (rI (fun _ j=>j≠0∧j.natAbs<2 ^ 200) fun i j=>.int (i.fdiv j)):=L2.opI fun _ _ _ _ _ _ _ hc q=>PyProof.Rows.floordiv_int hc.1 q (.inl (PyProof.noPylong_of_log2 (zl7 hc.2)))
theorem zdK:BinOk X .FloorDiv oDiv:=⟨_,zkk,by
 have h:(fun i j=>V.int (i.fdiv j))=fun i j=>V.int (divP i j):=by funext i j;rw [zl0]
 rw [h];exact zfN fun i j h=>by simpa [cDv] using h⟩
def oNeg:PV→Mo PV
 | .int i,st=>.ok (.int (-i)) st
 | _,_=>.stuck
theorem ziG:UnOk X .USub oNeg:=⟨_,znl,by
 intro ρ H st x v Q E s rx h
 cases x with
 | int i=>cases rx;exact ⟨i,rfl,Out.now (x:=PV.int (-i)) h s _ rfl⟩
 | _=>exact False.elim h⟩
def oAdd:PV→PV→Mo PV
 | .int i,.int j,st=>.ok (.int (i+j)) st
 | .str x,.str y,st=>if x.length+y.length≤lim then .ok (.str (x++y)) st else .stuck
 | .tup xs,.tup ys,st=>if xs.length+ys.length≤lim then .ok (.tup (xs++ys)) st else .stuck
 | .ref n,.ref m,st=>withL st n fun xs=>withL st m fun ys=>if xs.length+ys.length≤lim then .ok (.ref st.length) (st++[.lst (xs++ys)]) else .stuck
 | _,_,_=>.stuck
def zoY (K:Frag):R2:=fun x y H Q=>∃a b ys,x=.ref a∧y=.ref b∧SqT K H a []∧SqT K H b ys∧Q (.ref b) H
theorem zl8:OpR X (binaryOp .Add) (zoY X.K):=by
 intro pins s σ H x y v u Q I rx ry h
 obtain ⟨a,b,ys,rfl,rfl,h1,h2,q⟩:=h
 cases rx;cases ry
 obtain ⟨i1,r1,p1,_⟩:=I.tuple h1
 obtain ⟨i2,r2,p2,_⟩:=I.tuple h2
 cases r1
 exact HT.cat_tup0 p1 p2 ⟨.ref b,H,I,rfl,q⟩
theorem zcw:BinOk X .Add oAdd:=⟨_,znh.or (zhC.or (zl8.or (zlG.or znB))),by
 intro ρ H st x y v w Q E s rx ry h
 cases x with
 | int i =>
  cases y with
  | int j=>cases rx;cases ry;exact .inl ⟨i,j,rfl,rfl,Out.now (x:=PV.int (i+j)) h s _ rfl⟩
  | _=>exact False.elim h
 | str i =>
  cases y with
  | str j =>
   cases rx;cases ry
   obtain ⟨c,h⟩:=Out.ifp h
   exact .inr (.inl ⟨i,j,rfl,rfl,zR c,h.now s _ rfl⟩)
  | _=>exact False.elim h
 | tup xs =>
  cases y with
  | tup ys =>
   obtain ⟨p,vs,rfl,h1,h2⟩:=rx
   obtain ⟨q,ws,rfl,h3,h4⟩:=ry
   obtain ⟨c,h⟩:=Out.ifp h
   cases xs with
   | nil =>
    cases h2
    exact .inr (.inr (.inl ⟨p,q,ws,rfl,rfl,h1,h3,h.now s _ ⟨q,ws,rfl,h3,h4⟩⟩))
   | cons x0 xs0 =>
    refine .inr (.inr (.inr (.inl ⟨p,q,vs,ws,rfl,rfl,h1,h3,?_,?_,fun e=>?_,fun _ l hl=>?_⟩)))
    ·obtain ⟨v0,r0,e0,_⟩:=h2;rw [e0];simp
    ·rw [←h2.len,←h4.len];exact zR c
    ·subst e
     have:ys=[]:=by have:=h4.len;simpa using this
     subst this
     exact h.now s _ ⟨p,vs,rfl,h1,by simpa using h2⟩
    ·exact h ρ _ (Ext.new hl) (s.new hl) _ (R.tup_of (h2.append h4) hl)
  | _=>exact False.elim h
 | ref n =>
  cases y with
  | ref m =>
   obtain ⟨p,rfl,hp⟩:=rx
   obtain ⟨q,rfl,hq⟩:=ry
   obtain ⟨xs,e1,h⟩:=zE h
   obtain ⟨ys,e2,h⟩:=zE h
   obtain ⟨c,h⟩:=Out.ifp h
   obtain ⟨vs,h1,h2⟩:=s.addr e1 hp
   obtain ⟨ws,h3,h4⟩:=s.addr e2 hq
   exact .inr (.inr (.inr (.inr ⟨p,q,vs,ws,rfl,rfl,h1,h3,by rw [←h2.len,←h4.len];exact zR c,fun l hl=>Out.newList h s (h2.append h4) hl⟩)))
  | _=>exact False.elim h
 | _=>exact False.elim h⟩
def opB (g:Int→Int→Bool):PV→PV→Mo PV
 | .int i,.int j,st=>.ok (.bl (g i j)) st
 | _,_,_=>.stuck
theorem ziH {g:Int→Int→Bool}:OpM K mg (rI0 fun i j=>.bl (g i j)) (opB g):=by
 intro ρ H st x y v w Q E s rx ry h
 cases x with
 | int i =>
  cases y with
  | int j=>cases rx;cases ry;exact ⟨i,j,rfl,rfl,Out.now (x:=PV.bl (g i j)) h s _ rfl⟩
  | _=>exact False.elim h
 | _=>exact False.elim h
abbrev oLt:=opB fun i j=>decide (i<j)
abbrev oLe:=opB fun i j=>decide (i≤j)
abbrev oGt:=opB fun i j=>decide (j<i)
theorem zjM:CmpOk X .Lt oLt:=⟨_,zoL,ziH⟩
theorem zqe:CmpOk X .LtE oLe:=⟨_,zoM,ziH⟩
theorem zpC:CmpOk X .Gt oGt:=⟨_,zoN,ziH⟩
def isNon:PV→Bool
 | .non=>true
 | _=>false
def oIs:PV→PV→Mo PV
 | x,.non,st=>.ok (.bl (isNon x)) st
 | _,_,_=>.stuck
theorem zl9 {ρ:List Addr} {H:Hp} {x:PV} {v:V} (r:R K mg ρ H x v):decide (v=.non)=isNon x:=by
 cases x with
 | non=>cases r;rfl
 | bl _=>cases r;rfl
 | int _=>cases r;rfl
 | str _=>cases r;rfl
 | ty _=>cases r;rfl
 | tup _=>obtain ⟨_,_,rfl,_⟩:=r;rfl
 | frl _=>obtain ⟨_,_,rfl,_⟩:=r;rfl
 | ref _=>obtain ⟨_,rfl,_⟩:=r;rfl
 | fn _=>obtain ⟨_,rfl,_⟩:=r;rfl
 | kd _ _=>obtain ⟨_,_,_,rfl,_⟩:=r;rfl
 | exo _ _ _=>obtain ⟨_,_,_,_,rfl,_⟩:=r;rfl
theorem zqf:CmpOk X .Is oIs:=⟨_,znn,by
 intro ρ H st x y v w Q E s rx ry h
 cases y with
 | non=>cases ry;exact ⟨rfl,by rw [zl9 rx];exact Out.now (x:=PV.bl (isNon x)) h s _ rfl⟩
 | _=>exact False.elim h⟩
theorem zma {ρ:List Addr} {H:Hp} {xs:List PV} {vs:List V} {i:Int} {x:PV} (r:Rs K mg ρ H xs vs) (h:atI xs i=some x):∃v,atI vs i=some v∧R K mg ρ H x v:=by
 unfold atI at h ⊢
 rw [←r.len]
 cases hj:ixN xs.length i with
 | none=>rw [hj] at h;cases h
 | some j =>
  rw [hj] at h
  obtain ⟨v,h1,h2⟩:=r.get (show xs[j]?=some x from h)
  exact ⟨v,h1,h2⟩
def optR:Option PV→Mo PV
 | some x,st=>.ok x st
 | none,_=>.stuck
def oIx:PV→PV→Mo PV
 | .tup xs,.int i,st=>optR (atI xs i) st
 | .frl xs,.int i,st=>optR (atI xs i) st
 | .str z,.int i,st=>if z.length≤lim then optR ((atI z.cps.toList i).map fun c=>.str ⟨#[c]⟩) st else .stuck
 | .ref n,.int i,st=>withL st n fun xs=>optR (atI xs i) st
 | _,_,_=>.stuck
theorem zbF {ρ:List Addr} {H:Hp} {o:Option PV} {st:Sto} {good} (h:Out K mg ρ H (optR o st) good Er):∃x,o=some x∧Out K mg ρ H (.ok x st) good Er:=by
 cases o with
 | some x=>exact ⟨x,rfl,h⟩
 | none=>exact False.elim h
theorem zoZ:IxOk X oIx:=⟨_,zny,by
 intro ρ H st x y v w Q E s rx ry h
 cases x with
 | tup xs =>
  cases y with
  | int i =>
   cases ry
   obtain ⟨p,vs,rfl,h1,h2⟩:=rx
   obtain ⟨x,e,h⟩:=zbF h
   obtain ⟨v,h3,h4⟩:=zma h2 e
   exact .inr (.inl ⟨p,vs,i,v,rfl,rfl,h1,h3,h.now s _ h4⟩)
  | _=>exact False.elim h
 | frl xs =>
  cases y with
  | int i =>
   cases ry
   obtain ⟨p,vs,rfl,h1,h2⟩:=rx
   obtain ⟨x,e,h⟩:=zbF h
   obtain ⟨v,h3,h4⟩:=zma h2 e
   exact .inl ⟨p,vs,i,v,rfl,rfl,h1.sq,h3,h.now s _ h4⟩
  | _=>exact False.elim h
 | str z =>
  cases y with
  | int i =>
   cases ry;cases rx
   obtain ⟨c,h⟩:=Out.ifp h
   obtain ⟨x,e,h⟩:=zbF h
   cases hc:atI z.cps.toList i with
   | none=>rw [hc] at e;cases e
   | some k =>
    rw [hc] at e
    cases e
    exact .inr (.inr ⟨z,i,k,rfl,rfl,zR c,hc,h.now s _ rfl⟩)
  | _=>exact False.elim h
 | ref n =>
  cases y with
  | int i =>
   cases ry
   obtain ⟨p,rfl,hp⟩:=rx
   obtain ⟨xs,e1,h⟩:=zE h
   obtain ⟨vs,h1,h2⟩:=s.addr e1 hp
   obtain ⟨x,e,h⟩:=zbF h
   obtain ⟨v,h3,h4⟩:=zma h2 e
   exact .inl ⟨p,vs,i,v,rfl,rfl,SqL.of h1,h3,h.now s _ h4⟩
  | _=>exact False.elim h
 | _=>exact False.elim h⟩
end
end Mi
namespace Mi
open PySem L2 PySem.W PySem.Spec
mutual
def plain:PV→Bool
 | .non=>true
 | .bl _=>true
 | .int _=>true
 | .str _=>true
 | .tup xs=>plains xs
 | _=>false
def plains:List PV→Bool
 | []=>true
 | x::xs=>plain x&&plains xs
end
mutual
def dep:PV→Nat
 | .tup xs=>deps xs+1
 | _=>0
def deps:List PV→Nat
 | []=>0
 | x::xs=>max (dep x) (deps xs)
end
mutual
def eqP:PV→PV→Bool
 | .non,.non=>true
 | .bl a,.bl b=>a==b
 | .bl a,.int b=>(if a then 1 else 0)==b
 | .int a,.bl b=>a==(if b then 1 else 0)
 | .int a,.int b=>a==b
 | .str a,.str b=>a==b
 | .tup xs,.tup ys=>eqPs xs ys
 | _,_=>false
def eqPs:List PV→List PV→Bool
 | [],[]=>true
 | x::xs,y::ys=>eqP x y&&eqPs xs ys
 | _,_=>false
end
section
variable {X:Cx} {Er:XK} {K:Frag} {mg:Str→Option Value} {ρ:List Addr} {pins:List (Addr×Obj)} {σ:L2.St} {H:Hp} {s:Shared}
mutual
theorem zk7 (I:Inv X pins σ H s):∀(x y:PV) {v:V},plain x=true→plain y=true→R X.K mg ρ H x v→R X.K mg ρ H y v→eqP x y=true
 | .non,y,v,_,py,rx,ry=>by
  cases rx
  cases y with
  | non=>rfl
  | tup ys=>obtain ⟨_,_,e,_⟩:=ry;cases e
  | bl _=>cases ry
  | int _=>cases ry
  | str _=>cases ry
  | _=>cases py
 | .bl a,y,v,_,py,rx,ry=>by
  cases rx
  cases y with
  | bl b=>cases ry;simp [eqP]
  | tup ys=>obtain ⟨_,_,e,_⟩:=ry;cases e
  | non=>cases ry
  | int _=>cases ry
  | str _=>cases ry
  | _=>cases py
 | .int a,y,v,_,py,rx,ry=>by
  cases rx
  cases y with
  | int b=>cases ry;simp [eqP]
  | tup ys=>obtain ⟨_,_,e,_⟩:=ry;cases e
  | non=>cases ry
  | bl _=>cases ry
  | str _=>cases ry
  | _=>cases py
 | .str a,y,v,_,py,rx,ry=>by
  cases rx
  cases y with
  | str b=>cases ry;simp [eqP]
  | tup ys=>obtain ⟨_,_,e,_⟩:=ry;cases e
  | non=>cases ry
  | bl _=>cases ry
  | int _=>cases ry
  | _=>cases py
 | .tup xs,y,v,px,py,rx,ry=>by
  obtain ⟨a,vs,rfl,h1,h2⟩:=rx
  cases y with
  | tup ys =>
   obtain ⟨b,ws,e,h3,h4⟩:=ry
   cases e
   have:=I.tuple_inj h1 h3
   subst this
   exact ziI I xs ys px py h2 h4
  | non=>cases ry
  | bl _=>cases ry
  | int _=>cases ry
  | str _=>cases ry
  | _=>cases py
 | .ty _,_,_,px,_,_,_=>by cases px
 | .frl _,_,_,px,_,_,_=>by cases px
 | .ref _,_,_,px,_,_,_=>by cases px
 | .fn _,_,_,px,_,_,_=>by cases px
 | .kd _ _,_,_,px,_,_,_=>by cases px
 | .exo _ _ _,_,_,px,_,_,_=>by cases px
theorem ziI (I:Inv X pins σ H s):∀(xs ys:List PV) {vs:List V},plains xs=true→plains ys=true→Rs X.K mg ρ H xs vs→Rs X.K mg ρ H ys vs→eqPs xs ys=true
 | [],ys,vs,_,py,rx,ry=>by
  cases rx
  cases ys with
  | nil=>rfl
  | cons y ys=>obtain ⟨_,_,e,_⟩:=ry;cases e
 | x::xs,ys,vs,px,py,rx,ry=>by
  obtain ⟨v,r,rfl,h1,h2⟩:=rx
  cases ys with
  | nil=>cases ry
  | cons y ys =>
   obtain ⟨v',r',e,h3,h4⟩:=ry
   cases e
   simp only [plains,Bool.and_eq_true] at px py
   simp only [eqPs,Bool.and_eq_true]
   exact ⟨zk7 I x y px.1 py.1 h1 h3,ziI I xs ys px.2 py.2 h2 h4⟩
end
def eqJp (xs ys:List PV) (j:Nat):Bool:=match xs[j]?,ys[j]? with
 | some x,some y=>eqP x y
 | _,_=>true
theorem zeV:∀(xs ys:List PV),((List.range (min xs.length ys.length)).all (eqJp xs ys)&&xs.length==ys.length)=eqPs xs ys
 | [],[]=>rfl
 | [],y::ys=>by simp [eqPs]
 | x::xs,[]=>by simp [eqPs]
 | x::xs,y::ys=>by
  have ih:=zeV xs ys
  have e1:min (x::xs).length (y::ys).length=min xs.length ys.length+1:=by simp only [List.length_cons];omega
  have e2:((x::xs).length==(y::ys).length)=(xs.length==ys.length):=by
   rw [Bool.eq_iff_iff];simp
  rw [e1,e2,List.range_succ_eq_map,List.all_cons,List.all_map]
  have e3:(eqJp (x::xs) (y::ys)∘Nat.succ)=eqJp xs ys:=by
   funext j
   simp [eqJp]
  rw [e3,Bool.and_assoc,ih]
  simp [eqPs,eqJp]
theorem deps_mem:∀{xs:List PV} {i:Nat} {x:PV},xs[i]?=some x→dep x≤deps xs
 | [],_,_,e=>by simp at e
 | y::xs,0,x,e=>by simp at e;subst e;simp only [deps];omega
 | y::xs,i+1,x,e=>by
  simp at e
  have:=deps_mem e
  simp only [deps];omega
theorem zdL:∀{xs:List PV} {i:Nat} {x:PV},plains xs=true→xs[i]?=some x→plain x=true
 | [],_,_,_,e=>by simp at e
 | y::xs,0,x,p,e=>by simp at e;subst e;simp only [plains,Bool.and_eq_true] at p;exact p.1
 | y::xs,i+1,x,p,e=>by
  simp at e
  simp only [plains,Bool.and_eq_true] at p
  exact zdL p.2 e
theorem ziJ (A:Around):A.in1.units=A.units+1:=rfl
theorem ziK (I:Inv X pins σ H s):∀(n:Nat) (x y:PV) {v w:V} {u u':Value} (A:Around),dep x≤n→plain x=true→plain y=true→R X.K mg ρ H x v→R X.K mg ρ H y w→RelV v u→RelV w u'→A.units+n<cLine →
  SeqAt.EqAt A s u u' (eqP x y)∧SeqAt.RcAt A s u u' (eqP x y)∧SeqAt.RcNeAt A s u u' (!eqP x y):=by
 intro n
 induction n with
 | zero =>
  intro x y v w u u' A hd px py rx ry rv rw hu
  cases x with
  | tup xs=>simp only [dep] at hd;omega
  | non =>
   cases rx;cases rv
   cases y with
   | non=>cases ry;cases rw;exact ⟨.same _,.none_none,.none_none⟩
   | bl b=>cases ry;cases rw;exact ⟨.none_bool b,.none_bool b,.none_bool b⟩
   | int b=>cases ry;obtain ⟨t,rfl⟩:=rw;exact ⟨.none_int b t,.none_int b t,.none_int b t⟩
   | str b=>cases ry;obtain ⟨t,rfl⟩:=rw;exact ⟨.none_str b t,.none_str b t,.none_str b t⟩
   | tup ys =>
    obtain ⟨p,ws,rfl,h1,h2⟩:=ry
    cases rw
    obtain ⟨its,_,pl,_⟩:=I.tuple h1
    exact ⟨.none_tuple pl (by omega),.none_tuple pl (by omega),.none_tuple pl (by omega)⟩
   | _=>cases py
  | bl a =>
   cases rx;cases rv
   cases y with
   | non=>cases ry;cases rw;exact ⟨.bool_none a,.bool_none a,.bool_none a⟩
   | bl b=>cases ry;cases rw;exact ⟨.bool_bool a b,.bool_bool a b,.bool_bool a b⟩
   | int b=>cases ry;obtain ⟨t,rfl⟩:=rw;exact ⟨.bool_int a b t,.bool_int a b t,.bool_int a b t⟩
   | str b=>cases ry;obtain ⟨t,rfl⟩:=rw;exact ⟨.bool_str a b t,.bool_str a b t,.bool_str a b t⟩
   | tup ys =>
    obtain ⟨p,ws,rfl,h1,h2⟩:=ry
    cases rw
    obtain ⟨its,_,pl,_⟩:=I.tuple h1
    exact ⟨.bool_tuple a pl (by omega),.bool_tuple a pl (by omega),.bool_tuple a pl (by omega)⟩
   | _=>cases py
  | int a =>
   cases rx;obtain ⟨t0,rfl⟩:=rv
   cases y with
   | non=>cases ry;cases rw;exact ⟨.int_none a t0,.int_none a t0,.int_none a t0⟩
   | bl b=>cases ry;cases rw;exact ⟨.int_bool a t0 b,.int_bool a t0 b,.int_bool a t0 b⟩
   | int b=>cases ry;obtain ⟨t,rfl⟩:=rw;exact ⟨.int_int a t0 b t,.int_int a t0 b t,.int_int a t0 b t⟩
   | str b=>cases ry;obtain ⟨t,rfl⟩:=rw;exact ⟨.int_str a t0 b t,.int_str a t0 b t,.int_str a t0 b t⟩
   | tup ys =>
    obtain ⟨p,ws,rfl,h1,h2⟩:=ry
    cases rw
    obtain ⟨its,_,pl,_⟩:=I.tuple h1
    exact ⟨.int_tuple a t0 pl (by omega),.int_tuple a t0 pl (by omega),.int_tuple a t0 pl (by omega)⟩
   | _=>cases py
  | str a =>
   cases rx;obtain ⟨t0,rfl⟩:=rv
   cases y with
   | non=>cases ry;cases rw;exact ⟨.str_none a t0,.str_none a t0,.str_none a t0⟩
   | bl b=>cases ry;cases rw;exact ⟨.str_bool a t0 b,.str_bool a t0 b,.str_bool a t0 b⟩
   | int b=>cases ry;obtain ⟨t,rfl⟩:=rw;exact ⟨.str_int a t0 b t,.str_int a t0 b t,.str_int a t0 b t⟩
   | str b=>cases ry;obtain ⟨t,rfl⟩:=rw;exact ⟨.str_str a t0 b t,.str_str a t0 b t,.str_str a t0 b t⟩
   | tup ys =>
    obtain ⟨p,ws,rfl,h1,h2⟩:=ry
    cases rw
    obtain ⟨its,_,pl,_⟩:=I.tuple h1
    exact ⟨.str_tuple a t0 pl (by omega),.str_tuple a t0 pl (by omega),.str_tuple a t0 pl (by omega)⟩
   | _=>cases py
  | _=>cases px
 | succ n ih =>
  intro x y v w u u' A hd px py rx ry rv rw hu
  cases x with
  | tup xs =>
   obtain ⟨a,vs,rfl,h1,h2⟩:=id rx
   cases rv
   obtain ⟨its,r1,p1,_⟩:=I.tuple h1
   cases y with
   | non=>cases ry;cases rw;exact ⟨.tuple_none p1 (by omega),.tuple_none p1 (by omega),.tuple_none p1 (by omega)⟩
   | bl b=>cases ry;cases rw;exact ⟨.tuple_bool b p1 (by omega),.tuple_bool b p1 (by omega),.tuple_bool b p1 (by omega)⟩
   | int b=>cases ry;obtain ⟨t,rfl⟩:=rw;exact ⟨.tuple_int b t p1 (by omega),.tuple_int b t p1 (by omega),.tuple_int b t p1 (by omega)⟩
   | str b=>cases ry;obtain ⟨t,rfl⟩:=rw;exact ⟨.tuple_str b t p1 (by omega),.tuple_str b t p1 (by omega),.tuple_str b t p1 (by omega)⟩
   | tup ys =>
    obtain ⟨b,ws,rfl,h3,h4⟩:=id ry
    cases rw
    obtain ⟨its2,r2,p2,_⟩:=I.tuple h3
    have l1:=h2.len
    have l2:=h4.len
    have l3:=r1.length
    have l4:=r2.length
    have item:∀j (g1:j<its.toArray.size) (g2:j<its2.toArray.size),SeqAt.EqAt A.in1 s its.toArray[j] its2.toArray[j] (eqJp xs ys j):=fun j g1 g2=>by
     have k1:j<xs.length:=by rw [l1,l3];simpa using g1
     have k2:j<ys.length:=by rw [l2,l4];simpa using g2
     obtain ⟨v1,e1,rr1⟩:=h2.get (List.getElem?_eq_getElem k1)
     obtain ⟨v2,e2,rr2⟩:=h4.get (List.getElem?_eq_getElem k2)
     obtain ⟨u1,f1,ru1⟩:=r1.get e1
     obtain ⟨u2,f2,ru2⟩:=r2.get e2
     have w1:its.toArray[j]=u1:=by
      obtain ⟨_,z⟩:=List.getElem?_eq_some_iff.mp f1
      simpa using z
     have w2:its2.toArray[j]=u2:=by
      obtain ⟨_,z⟩:=List.getElem?_eq_some_iff.mp f2
      simpa using z
     have ej:eqJp xs ys j=eqP xs[j] ys[j]:=by
      unfold eqJp
      rw [List.getElem?_eq_getElem k1,List.getElem?_eq_getElem k2]
     rw [w1,w2,ej]
     have hdj:=deps_mem (List.getElem?_eq_getElem k1)
     simp only [dep] at hd
     exact (ih xs[j] ys[j] A.in1 (by omega) (zdL px (List.getElem?_eq_getElem k1)) (zdL py (List.getElem?_eq_getElem k2)) rr1 rr2 ru1 ru2 (by rw [ziJ];omega)).1
    have eall:((List.range (min its.toArray.size its2.toArray.size)).all (eqJp xs ys)&&its.toArray.size==its2.toArray.size)=eqP (.tup xs) (.tup ys):=by
     have e:=zeV xs ys
     rw [l1,l2,l3,l4] at e
     simpa [eqP] using e
    have rc:SeqAt.RcAt A s (.ref a) (.ref b) (eqP (.tup xs) (.tup ys)):=by
     rw [←eall]
     exact SeqAt.RcAt.tuples (show s.heap.IsTuple a its.toArray from p1) (show s.heap.IsTuple b its2.toArray from p2) (by omega) item
    refine ⟨?_,rc,?_⟩
    ·by_cases hab:a=b
     ·subst hab
      rw [zk7 I (.tup xs) (.tup ys) px py rx ry]
      exact .same _
     ·exact .of_refs hab rc
    ·rw [←eall]
     exact SeqAt.RcNeAt.tuples (show s.heap.IsTuple a its.toArray from p1) (show s.heap.IsTuple b its2.toArray from p2) (by omega) item
   | _=>cases py
  | non=>exact ih _ y A (Nat.zero_le _) px py rx ry rv rw (by omega)
  | bl a=>exact ih _ y A (Nat.zero_le _) px py rx ry rv rw (by omega)
  | int a=>exact ih _ y A (Nat.zero_le _) px py rx ry rv rw (by omega)
  | str a=>exact ih _ y A (Nat.zero_le _) px py rx ry rv rw (by omega)
  | _=>cases px
def oEq:PV→PV→Mo PV:=fun x y st=>if plain x=true∧plain y=true∧dep x≤150 then .ok (.bl (eqP x y)) st else .stuck
def oNe:PV→PV→Mo PV:=fun x y st=>if plain x=true∧plain y=true∧dep x≤150 then .ok (.bl (!eqP x y)) st else .stuck
def rEqP (K:Frag) (mg:Str→Option Value) (f:Bool→Bool):R2:=fun v w H Q=>∃ρ x y,plain x=true∧plain y=true∧dep x≤150∧R K mg ρ H x v∧R K mg ρ H y w∧Q (.bl (f (eqP x y))) H
theorem znN (hu:X.A.units+200<cLine):OpR X (compareOp .Eq) (rEqP X.K X.mg id):=by
 intro pins s σ H x y v u Q I rx ry h
 obtain ⟨ρ,a,b,pa,pb,hd,ra,rb,q⟩:=h
 exact PySem.EqBoolInt.of_rc (ziK I 150 a b X.A hd pa pb ra rb rx ry (by omega)).2.1 ⟨.bl _,H,I,rfl,q⟩
theorem znO (hu:X.A.units+200<cLine):OpR X (compareOp .NotEq) (rEqP X.K X.mg not):=by
 intro pins s σ H x y v u Q I rx ry h
 obtain ⟨ρ,a,b,pa,pb,hd,ra,rb,q⟩:=h
 exact PySem.EqBoolInt.of_rcne (ziK I 150 a b X.A hd pa pb ra rb rx ry (by omega)).2.2 ⟨.bl _,H,I,rfl,q⟩
theorem zdH (hu:X.A.units+200<cLine):CmpOk X .Eq oEq:=⟨_,znN hu,fun ρ H st x y v w Q E s rx ry h=>by
 obtain ⟨⟨p1,p2,p3⟩,h⟩:=Out.ifp h
 exact ⟨ρ,x,y,p1,p2,p3,rx,ry,h.now s _ rfl⟩⟩
theorem zo0 (hu:X.A.units+200<cLine):CmpOk X .NotEq oNe:=⟨_,znO hu,fun ρ H st x y v w Q E s rx ry h=>by
 obtain ⟨⟨p1,p2,p3⟩,h⟩:=Out.ifp h
 exact ⟨ρ,x,y,p1,p2,p3,rx,ry,h.now s _ rfl⟩⟩
end
end Mi
namespace Mi
open PySem L2 PySem.W PySem.Spec
section
variable {X:Cx} {Er:XK} {K:Frag} {mg:Str→Option Value} {a b c e:Expr} {es:List Expr} {pos:Pos} {fa fb fc:PEnv→Mo PV} {fs:PEnv→Mo (List PV)}
def tMO (K:Frag) (mg:Str→Option Value) (Er:XK) (f:PEnv→Mo (Option Int)):TO:=fun σ H Q=>∃env st ρ,EnvR K mg ρ H env σ∧StR K mg ρ H st∧Out K mg ρ H (f env st) (fun _ H' o _=>Q o H') Er
def MO (X:Cx) (Er:XK) (e:Option Expr) (f:PEnv→Mo (Option Int)):Prop:=PO X e (tMO X.K X.mg Er f)
def pNone:PEnv→Mo (Option Int):=fun _ st=>.ok none st
def asI:PV→Mo (Option Int)
 | .int i,st=>.ok (some i) st
 | _,_=>.stuck
def pSome (f:PEnv→Mo PV):PEnv→Mo (Option Int):=fun env st=>(f env st).bind asI
theorem PO.weak {o:Option Expr} {t t':TO} (h:PO X o t) (w:∀σ H Q,t' σ H Q→t σ H Q):PO X o t':=fun pins s σ H Q I q=>h pins s σ H Q I (w σ H Q q)
theorem zgv:MO X Er none pNone:=PO.weak zlE fun σ H Q ⟨env,st,ρ,re,rs,h⟩=>h.now rs
theorem zeA (h:ME X Er e fa):MO X Er (some e) (pSome fa):=PO.weak (zlF h) fun σ H Q ⟨env,st,ρ,re,rs,h⟩=>⟨env,st,ρ,re,rs,h.then fun ρ1 H1 x st1 e1 s1 h1 v rv=>by
 cases x with
 | int i=>cases rv;exact ⟨i,rfl,Out.now (x:=some i) h1 s1⟩
 | _=>exact False.elim h1⟩
def cutP (xs:List PV) (lo hi:Option Int):List PV:=(xs.drop (HT.sIx xs.length 0 lo)).take (HT.sIx xs.length xs.length hi-HT.sIx xs.length 0 lo)
def oSl:PV→Option Int→Option Int→Mo PV
 | .tup xs,lo,hi,st=>.ok (.tup (cutP xs lo hi)) st
 | .frl xs,lo,hi,st=>.ok (.ref st.length) (st++[.lst (cutP xs lo hi)])
 | .ref n,lo,hi,st=>withL st n fun xs=>.ok (.ref st.length) (st++[.lst (cutP xs lo hi)])
 | .str z,lo,hi,st=>if z.length≤lim then .ok (.str (Txt.slice z lo hi)) st else .stuck
 | _,_,_,_=>.stuck
theorem Rs.cut {ρ:List Addr} {H:Hp} {xs:List PV} {vs:List V} (r:Rs K mg ρ H xs vs) (lo hi:Option Int):Rs K mg ρ H (cutP xs lo hi) (cutV vs lo hi):=by
 unfold cutP cutV
 rw [r.len]
 exact (r.drop _).take _
def rSlA (K:Frag):V→Option Int→Option Int→Hp→VK→Prop:=fun x lo hi H Q=>∃a xs,x=.ref a∧SqT K H a xs∧(HT.sIx xs.length 0 lo=0∧HT.sIx xs.length xs.length hi=xs.length)∧Q (.ref a) H
theorem zmb:SlR X (rSlA X.K):=by
 intro pins s σ H x v vl vu lo hi sl Q I rx hs pl pu h
 obtain ⟨a,xs,rfl,hx,hw,q⟩:=h
 cases rx
 obtain ⟨its,r,ht,hz⟩:=I.tuple hx
 have hlen:its.toArray.size=xs.length:=by rw [List.size_toArray];exact r.length.symm
 refine ⟨"tuple", _,PyProof.Rows.slot_tuple_getitem.lookup,ht.typeIs,?_⟩
 exact HT.getItem_tuple_all ht hs pl pu (by rw [hlen];exact hw) ⟨.ref a,H,I,rfl,q⟩ (by rw [hlen];exact hz)
def mSl (fa:PEnv→Mo PV) (fl fu:PEnv→Mo (Option Int)):PEnv→Mo PV:=fun env st=>(fa env st).bind fun x st1=>(fl env st1).bind fun l st2=>(fu env st2).bind fun u st3=>oSl x l u st3
theorem zfe {lo hi:Option Expr} {fl fu:PEnv→Mo (Option Int)} {p2:Pos} (ha:ME X Er a fa) (hl:MO X Er lo fl) (hu:MO X Er hi fu):ME X Er (.Subscript a (.Slice lo hi none p2) pos) (mSl fa fl fu) :=
 PE.weak (zj2 (znu.or (zmb.or (zlJ.or znC))) ha hl hu) fun σ H Q ⟨env,st,ρ,re,rs,h⟩=>⟨env,st,ρ,re,rs,h.then fun ρ1 H1 x st1 e1 s1 h1 v rv=>⟨env,st1,ρ1,re.ext e1,s1,h1.then fun ρ2 H2 l st2 e2 s2 h2 =>
  ⟨env,st2,ρ2,(re.ext e1).ext e2,s2,h2.then fun ρ3 H3 u st3 e3 s3 h3=>by
  have rv:=R.ext e3 x (R.ext e2 x rv)
  cases x with
  | tup xs =>
   obtain ⟨p,vs,rfl,k1,k2⟩:=rv
   by_cases hw:HT.sIx vs.length 0 l=0∧HT.sIx vs.length vs.length u=vs.length
   ·refine .inr (.inl ⟨p,vs,rfl,k1,hw,Out.now (x:=PV.tup (cutP xs l u)) h3 s3 _ ⟨p,vs,rfl,k1,?_⟩⟩)
    have:cutP xs l u=xs:=by
     unfold cutP
     rw [k2.len,hw.1,hw.2]
     simp [←k2.len]
    rw [this];exact k2
   ·exact .inl ⟨p,vs,rfl,k1,hw,fun q hq=>h3 ρ3 _ (Ext.new hq) (s3.new hq) _ (R.tup_of (k2.cut l u) hq)⟩
  | frl xs =>
   obtain ⟨p,vs,rfl,k1,k2⟩:=rv
   exact .inr (.inr (.inl ⟨p,vs,rfl,k1.sq,fun q hq=>Out.newList (xs:=cutP xs l u) h3 s3 (k2.cut l u) hq⟩))
  | ref n =>
   obtain ⟨p,rfl,hp⟩:=rv
   obtain ⟨xs,k0,h3⟩:=zE h3
   obtain ⟨vs,k1,k2⟩:=s3.addr k0 hp
   exact .inr (.inr (.inl ⟨p,vs,rfl,SqL.of k1,fun q hq=>Out.newList (xs:=cutP xs l u) h3 s3 (k2.cut l u) hq⟩))
  | str z =>
   cases rv
   obtain ⟨k0,h3⟩:=Out.ifp h3
   exact .inr (.inr (.inr ⟨z,rfl,zR k0,h3.now s3 _ rfl⟩))
  | _=>exact False.elim h3⟩⟩⟩
def CallM (K:Frag) (mg:Str→Option Value) (r:List V→Hp→VK→Prop) (op:List PV→Mo PV):Prop:=∀ρ H st xs vs (Q:VK) (E:XK),StR K mg ρ H st→Rs K mg ρ H xs vs→Out K mg ρ H (op xs st) (gV K mg Q) E→r vs H Q
def BltOk (X:Cx) (f:Value) (op:List PV→Mo PV):Prop:=∃r,CallR X f r∧CallM X.K X.mg r op
def mCall (op:List PV→Mo PV) (fs:PEnv→Mo (List PV)):PEnv→Mo PV:=fun env st=>(fs env st).bind op
theorem zat {x:Str} {id:String} {op:List PV→Mo PV} {p:Pos} (h:BltOk X (.builtin id) op) (hm:X.mg x=none) (hv:bootBuiltins x=some (.builtin id)) (ha:MA X Er (e::es) fs) (hg:Gl X x:=by rfl) (hn:x ≠ "__name__" := by decide) (hdb:(x==("__debug__" : Str))=false:=by decide)
  (he:starEach (e::es) X.env=(false,eval e X.env)::starEach es X.env:=by rfl) (hpl:(backTo pos (starEach es X.env)).any (·.1)=false:=by rfl):ME X Er (.Call (.Name x p) (e::es) [] pos) (mCall op fs):=by
 obtain ⟨r,h1,h2⟩:=h
 exact PE.weak (zj0 h1 hg hm hv ha hn hdb he hpl) fun σ H Q ⟨env,st,ρ,re,rs,h⟩=>⟨env,st,ρ,re,rs,h.then fun ρ1 H1 xs st1 e1 s1 k vs rv=>h2 ρ1 H1 st1 xs vs Q Er s1 rv k⟩
theorem zd5 {x:Str} {T:String} {op:List PV→Mo PV} {p:Pos} (h:BltOk X (.type T) op) (hm:X.mg x=none) (hv:bootBuiltins x=some (.type T)) (ha:MA X Er (e::es) fs) (hg:Gl X x:=by rfl) (hn:x ≠ "__name__" := by decide) (hdb:(x==("__debug__" : Str))=false:=by decide)
  (he:starEach (e::es) X.env=(false,eval e X.env)::starEach es X.env:=by rfl) (hpl:(backTo pos (starEach es X.env)).any (·.1)=false:=by rfl):ME X Er (.Call (.Name x p) (e::es) [] pos) (mCall op fs):=by
 obtain ⟨r,h1,h2⟩:=h
 exact PE.weak (zii h1 hg hm hv ha hn hdb he hpl) fun σ H Q ⟨env,st,ρ,re,rs,h⟩=>⟨env,st,ρ,re,rs,h.then fun ρ1 H1 xs st1 e1 s1 k vs rv=>h2 ρ1 H1 st1 xs vs Q Er s1 rv k⟩
theorem zgZ {x:Str} {n:String} (hm:X.mg x=none) (hv:bootBuiltins x=some (.type n)) (hg:Gl X x:=by rfl) (hn:x ≠ "__name__" := by decide) (hd:(x==("__debug__" : Str))=false:=by decide):ME X Er (.Name x pos) (mC (.ty n)) :=
 zeU (zlt (v:=.ty n) hg hm hv rfl hn hd) fun _ _=>rfl
theorem Rs.one {ρ:List Addr} {H:Hp} {x:PV} {vs:List V} (r:Rs K mg ρ H [x] vs):∃v,vs=[v]∧R K mg ρ H x v:=by
 obtain ⟨v,r',rfl,h,h'⟩:=r
 cases h'
 exact ⟨v,rfl,h⟩
theorem Rs.two {ρ:List Addr} {H:Hp} {x y:PV} {vs:List V} (r:Rs K mg ρ H [x,y] vs):∃v w,vs=[v,w]∧R K mg ρ H x v∧R K mg ρ H y w:=by
 obtain ⟨v,r',rfl,h,h'⟩:=r
 obtain ⟨w,rfl,h2⟩:=Rs.one h'
 exact ⟨v,w,rfl,h,h2⟩
def oLen:List PV→Mo PV
 | [.tup xs],st=>.ok (.int xs.length) st
 | [.frl xs],st=>.ok (.int xs.length) st
 | [.str z],st=>if z.length≤lim then .ok (.int z.length) st else .stuck
 | [.ref n],st=>withL st n fun xs=>.ok (.int xs.length) st
 | _,_=>.stuck
theorem zdm:BltOk X (.builtin "len") oLen:=⟨_,zjW,fun ρ H st xs vs Q E s r h=>by
 match xs,r,h with
 | [.tup ys],r,h =>
  obtain ⟨v,rfl,p,ws,rfl,h1,h2⟩:=Rs.one r
  exact ⟨_,ws.length,rfl,.inr ⟨ws,h1,rfl⟩,by rw [←h2.len];exact Out.now (x:=PV.int ys.length) h s _ rfl⟩
 | [.frl ys],r,h =>
  obtain ⟨v,rfl,p,ws,rfl,h1,h2⟩:=Rs.one r
  exact ⟨_,ws.length,rfl,.inl ⟨ws,h1.sq,rfl⟩,by rw [←h2.len];exact Out.now (x:=PV.int ys.length) h s _ rfl⟩
 | [.str z],r,h =>
  obtain ⟨v,rfl,rfl⟩:=Rs.one r
  obtain ⟨c,h⟩:=Out.ifp h
  exact ⟨_,z.length,rfl,⟨zR c,rfl⟩,h.now s _ rfl⟩
 | [.ref n],r,h =>
  obtain ⟨v,rfl,p,rfl,hp⟩:=Rs.one r
  obtain ⟨ys,e,h⟩:=zE h
  obtain ⟨ws,h1,h2⟩:=s.addr e hp
  exact ⟨_,ws.length,rfl,.inl ⟨ws,SqL.of h1,rfl⟩,by rw [←h2.len];exact h.now s _ rfl⟩
 | [],r,h=>exact False.elim h
 | [.non],r,h=>exact False.elim h
 | [.bl _],r,h=>exact False.elim h
 | [.int _],r,h=>exact False.elim h
 | [.ty _],r,h=>exact False.elim h
 | [.fn _],r,h=>exact False.elim h
 | [.kd _ _],r,h=>exact False.elim h
 | [.exo _ _ _],r,h=>exact False.elim h
 | x::y::r',r,h=>cases x<;>exact False.elim h⟩
def oInt:List PV→Mo PV
 | [.int i],st=>.ok (.int i) st
 | [.bl k],st=>.ok (.int (if k then 1 else 0)) st
 | _,_=>.stuck
theorem znP:BltOk X (.type "int") oInt:=⟨_,zid,fun ρ H st xs vs Q E s r h=>by
 match xs,r,h with
 | [.int i],r,h =>
  obtain ⟨v,rfl,rfl⟩:=Rs.one r
  exact .inl ⟨i,rfl,Out.now (x:=PV.int i) h s _ rfl⟩
 | [.bl k],r,h =>
  obtain ⟨v,rfl,rfl⟩:=Rs.one r
  exact .inr ⟨k,rfl,Out.now (x:=PV.int (if k then 1 else 0)) h s _ rfl⟩
 | [],r,h=>exact False.elim h
 | [.non],r,h=>exact False.elim h
 | [.str _],r,h=>exact False.elim h
 | [.tup _],r,h=>exact False.elim h
 | [.frl _],r,h=>exact False.elim h
 | [.ref _],r,h=>exact False.elim h
 | [.ty _],r,h=>exact False.elim h
 | [.fn _],r,h=>exact False.elim h
 | [.kd _ _],r,h=>exact False.elim h
 | [.exo _ _ _],r,h=>exact False.elim h
 | x::y::r',r,h=>cases x<;>exact False.elim h⟩
def oList:List PV→Mo PV
 | [.tup xs],st=>.ok (.ref st.length) (st++[.lst xs])
 | [.frl xs],st=>.ok (.ref st.length) (st++[.lst xs])
 | [.ref n],st=>withL st n fun xs=>.ok (.ref st.length) (st++[.lst xs])
 | _,_=>.stuck
theorem znQ:BltOk X (.type "list") oList:=⟨_,zfF,fun ρ H st xs vs Q E s r h=>by
 match xs,r,h with
 | [.tup ys],r,h =>
  obtain ⟨v,rfl,p,ws,rfl,h1,h2⟩:=Rs.one r
  exact ⟨p,ws,rfl,.inr h1,fun l hl=>Out.newList (xs:=ys) h s h2 hl⟩
 | [.frl ys],r,h =>
  obtain ⟨v,rfl,p,ws,rfl,h1,h2⟩:=Rs.one r
  exact ⟨p,ws,rfl,.inl h1.sq,fun l hl=>Out.newList (xs:=ys) h s h2 hl⟩
 | [.ref n],r,h =>
  obtain ⟨v,rfl,p,rfl,hp⟩:=Rs.one r
  obtain ⟨ys,e,h⟩:=zE h
  obtain ⟨ws,h1,h2⟩:=s.addr e hp
  exact ⟨p,ws,rfl,.inl (SqL.of h1),fun l hl=>Out.newList (xs:=ys) h s h2 hl⟩
 | [],r,h=>exact False.elim h
 | [.non],r,h=>exact False.elim h
 | [.bl _],r,h=>exact False.elim h
 | [.int _],r,h=>exact False.elim h
 | [.str _],r,h=>exact False.elim h
 | [.ty _],r,h=>exact False.elim h
 | [.fn _],r,h=>exact False.elim h
 | [.kd _ _],r,h=>exact False.elim h
 | [.exo _ _ _],r,h=>exact False.elim h
 | x::y::r',r,h=>cases x<;>exact False.elim h⟩
def oTuple:List PV→Mo PV
 | [.tup xs],st=>.ok (.tup xs) st
 | [.frl xs],st=>.ok (.tup xs) st
 | [.ref n],st=>withL st n fun xs=>.ok (.tup xs) st
 | _,_=>.stuck
theorem zeB:BltOk X (.type "tuple") oTuple:=⟨_,ze9,fun ρ H st xs vs Q E s r h=>by
 match xs,r,h with
 | [.tup ys],r,h =>
  obtain ⟨v,rfl,p,ws,rfl,h1,h2⟩:=Rs.one r
  exact ⟨p,ws,rfl,.inr ⟨h1,Out.now (x:=PV.tup ys) h s _ ⟨p,ws,rfl,h1,h2⟩⟩⟩
 | [.frl ys],r,h =>
  obtain ⟨v,rfl,p,ws,rfl,h1,h2⟩:=Rs.one r
  exact ⟨p,ws,rfl,.inl ⟨h1.sq,fun l hl=>h ρ _ (Ext.new hl) (s.new hl) _ (R.tup_of h2 hl)⟩⟩
 | [.ref n],r,h =>
  obtain ⟨v,rfl,p,rfl,hp⟩:=Rs.one r
  obtain ⟨ys,e,h⟩:=zE h
  obtain ⟨ws,h1,h2⟩:=s.addr e hp
  exact ⟨p,ws,rfl,.inl ⟨SqL.of h1,fun l hl=>h ρ _ (Ext.new hl) (s.new hl) _ (R.tup_of h2 hl)⟩⟩
 | [],r,h=>exact False.elim h
 | [.non],r,h=>exact False.elim h
 | [.bl _],r,h=>exact False.elim h
 | [.int _],r,h=>exact False.elim h
 | [.str _],r,h=>exact False.elim h
 | [.ty _],r,h=>exact False.elim h
 | [.fn _],r,h=>exact False.elim h
 | [.kd _ _],r,h=>exact False.elim h
 | [.exo _ _ _],r,h=>exact False.elim h
 | x::y::r',r,h=>cases x<;>exact False.elim h⟩
def tyb (T n:String):Option Bool :=
 if T = "int" then (if n = "int" then some true else if n = "bool" ∨ n = "str" ∨ n = "tuple" ∨ n = "dict" ∨ n = "list" then some false else none)
 else if T = "bool" then (if n = "int" ∨ n = "bool" then some true else if n = "str" ∨ n = "tuple" ∨ n = "dict" ∨ n = "list" then some false else none)
 else if T = "str" then (if n = "str" then some true else if n = "int" ∨ n = "bool" ∨ n = "tuple" ∨ n = "dict" ∨ n = "list" then some false else none)
 else if T = "tuple" then (if n = "tuple" then some true else if n = "int" ∨ n = "bool" ∨ n = "str" ∨ n = "dict" ∨ n = "list" then some false else none)
 else if T = "list" then (if n = "list" then some true else if n = "int" ∨ n = "bool" ∨ n = "str" ∨ n = "dict" ∨ n = "tuple" then some false else none)
 else if T = "dict" then (if n = "dict" then some true else if n = "int" ∨ n = "bool" ∨ n = "str" ∨ n = "list" ∨ n = "tuple" then some false else none)
 else if T = "NoneType" then (if n = "int" ∨ n = "bool" ∨ n = "str" ∨ n = "list" ∨ n = "tuple" ∨ n = "dict" then some false else none)
 else none
theorem zmc (K:Frag) {T n:String} {b:Bool} (h:tyb T n=some b):PySem.W.kitOne K (.type T) (.type n)=some b:=by
 unfold tyb at h
 split at h
 ·rename_i e;subst e
  split at h
  ·rename_i e;subst e;cases h;first|rfl|kernel_rfl
  ·split at h
   ·rename_i e;cases h;rcases e with e|e|e|e|e<;>subst e<;>first|rfl|kernel_rfl
   ·cases h
 ·split at h
  ·rename_i e;subst e
   split at h
   ·rename_i e;cases h;rcases e with e|e<;>subst e<;>first|rfl|kernel_rfl
   ·split at h
    ·rename_i e;cases h;rcases e with e|e|e|e<;>subst e<;>first|rfl|kernel_rfl
    ·cases h
  ·split at h
   ·rename_i e;subst e
    split at h
    ·rename_i e;subst e;cases h;first|rfl|kernel_rfl
    ·split at h
     ·rename_i e;cases h;rcases e with e|e|e|e|e<;>subst e<;>first|rfl|kernel_rfl
     ·cases h
   ·split at h
    ·rename_i e;subst e
     split at h
     ·rename_i e;subst e;cases h;first|rfl|kernel_rfl
     ·split at h
      ·rename_i e;cases h;rcases e with e|e|e|e|e<;>subst e<;>first|rfl|kernel_rfl
      ·cases h
    ·split at h
     ·rename_i e;subst e
      split at h
      ·rename_i e;subst e;cases h;first|rfl|kernel_rfl
      ·split at h
       ·rename_i e;cases h;rcases e with e|e|e|e|e<;>subst e<;>first|rfl|kernel_rfl
       ·cases h
     ·split at h
      ·rename_i e;subst e
       split at h
       ·rename_i e;subst e;cases h;first|rfl|kernel_rfl
       ·split at h
        ·rename_i e;cases h;rcases e with e|e|e|e|e<;>subst e<;>first|rfl|kernel_rfl
        ·cases h
      ·split at h
       ·rename_i e;subst e
        split at h
        ·rename_i e;cases h;rcases e with e|e|e|e|e|e<;>subst e<;>first|rfl|kernel_rfl
        ·cases h
       ·cases h
end
end Mi
namespace Mi
open PySem L2 PySem.W PySem.Spec
def spM (K:Frag) (mg:Str→Option Value) (m:List PV→Mo PV):Sp:=fun vs H Q E=>∃xs st ρ,Rs K mg ρ H xs vs∧StR K mg ρ H st∧Out K mg ρ H (m xs st) (gV K mg Q) E
section
variable (P:Program) (w:World) (K:Frag) (mg:Str→Option Value) (base:Heap)
def FOk (x:Str) (k:Nat) (m:List PV→Mo PV):Prop:=∃f fd ps,mg x=some (.ref f)∧keepIn K (.ref f)=true∧Binds K fd ps []∧FnOk P w K mg base (CXe P w) k f fd ps (spM K mg m)
def MOk (c name:Str) (k:Nat) (m:List PV→Mo PV):Prop:=∃C f fd ps,mg c=some (.ref C)∧Cls K C∧Meth K C name f∧Binds K fd ps []∧FnOk P w K mg base (CXe P w) k f fd ps (spM K mg m)
def NOk (c:Str) (k:Nat) (m:List PV→Mo PV):Prop:=∃C f fd ps,mg c=some (.ref C)∧Mk K C f∧Binds K fd ps []∧FnOk P w K mg base (CXe P w) k f fd ps (spM K mg m)
def XOk (c fld:Str):Prop:=∃C f fd,mg c=some (.ref C)∧ExMk K C f∧FnOk P w K mg base (CXe P w) 1 f fd ["self", fld] (znE C fld)∧Binds K fd ["self", fld] []
end
section
variable {X:Cx} {Er:XK} {K:Frag} {mg:Str→Option Value} {a b c e o:Expr} {es:List Expr} {pos p apos:Pos} {fa fb fc fo:PEnv→Mo PV} {fs:PEnv→Mo (List PV)} {k:Nat} {x:Str} {m:List PV→Mo PV}
theorem zH (C:FOk X.prog X.w X.K X.mg X.base x k m) (hr:Room k X.A) (ht:zaL X Er) (ha:MA X Er (e::es) fs) (hg:Gl X x:=by rfl) (hdb:(x==("__debug__" : Str))=false:=by decide)
  (he:starEach (e::es) X.env=(false,eval e X.env)::starEach es X.env:=by rfl) (hpl:(backTo pos (starEach es X.env)).any (·.1)=false:=by rfl):ME X Er (.Call (.Name x p) (e::es) [] pos) (mCall m fs):=by
 obtain ⟨f,fd,ps,hm,hk,hb,F⟩:=C
 exact PE.weak (zlC F hr hg hm hk hb .nil (zdJ ht) ha hdb he hpl) fun σ H Q ⟨env,st,ρ,re,rs,h⟩=>⟨env,st,ρ,re,rs,h.then fun ρ1 H1 xs st1 e1 s1 k vs rv=>by
  show spM X.K X.mg m (vs++[]) H1 Q Er
  rw [List.append_nil]
  exact ⟨xs,st1,ρ1,rv,s1,k⟩⟩
def mCallV (tab:Str→Option (List PV→Mo PV)) (ff:PEnv→Mo PV) (fs:PEnv→Mo (List PV)):PEnv→Mo PV:=fun env st=>(ff env st).bind fun f st1=>match f with
 | .fn x=>match tab x with
  | some m=>(fs env st1).bind m
  | none=>.stuck
 | _=>.stuck
theorem zmd {tab:Str→Option (List PV→Mo PV)} {ff:PEnv→Mo PV} (ht:∀y m,tab y=some m→FOk X.prog X.w X.K X.mg X.base y k m) (hf:ME X Er (.Name x p) ff) (hr:Room k X.A) (hT:zaL X Er) (ha:MA X Er (e::es) fs)
  (he:starEach (e::es) X.env=(false,eval e X.env)::starEach es X.env:=by rfl) (hpl:(backTo pos (starEach es X.env)).any (·.1)=false:=by rfl):ME X Er (.Call (.Name x p) (e::es) [] pos) (mCallV tab ff fs) :=
 PE.weak (zkd (CX:=CXe X.prog X.w) hf hr (zdJ hT) ha he hpl) fun σ H Q ⟨env,st,ρ,re,rs,h⟩=>⟨env,st,ρ,re,rs,h.then fun ρ1 H1 f st1 e1 s1 h1 v rv=>by
  cases f with
  | fn y =>
   cases hy:tab y with
   | none=>simp only [hy] at h1;exact False.elim h1
   | some m =>
    simp only [hy] at h1
    obtain ⟨f,rfl,hm⟩:=rv
    obtain ⟨f',fd,ps,hm',hk,hb,F⟩:=ht y m hy
    rw [hm] at hm'
    cases hm'
    exact ⟨f,_,rfl,⟨fd,ps,F,hk,hb⟩,env,st1,ρ1,re.ext e1,s1,Out.then h1 fun ρ2 H2 xs st2 e2 s2 h2 vs rvs=>⟨xs,st2,ρ2,rvs,s2,h2⟩⟩
  | _=>exact False.elim h1⟩
theorem zdn {ρ:List Addr} {H:Hp} {f:Str}:∀{ks:List Str} {xs:List PV} {vs:List V} {x:PV},Rs K mg ρ H xs vs→(ks.zip xs).lookup f=some x→∃v,(ks.zip vs).lookup f=some v∧R K mg ρ H x v
 | [],_,_,_,_,h=>by simp at h
 | k::ks,[],_,_,_,h=>by simp at h
 | k::ks,y::xs,_,x,r,h=>by
  obtain ⟨v,r',rfl,h1,h2⟩:=r
  simp only [List.zip_cons_cons,List.lookup_cons] at h ⊢
  split at h
  ·cases h;exact ⟨v,rfl,h1⟩
  ·exact zdn h2 h
theorem zcf {f:Str} {β:Type}:∀{ks:List Str} {vs:List β},f∉ks→(ks.zip vs).lookup f=none
 | [],_,_=>by simp
 | k::ks,[],_=>by simp
 | k::ks,v::vs,h=>by
  simp only [List.mem_cons,not_or] at h
  simp only [List.zip_cons_cons,List.lookup_cons]
  have:(f==k)=false:=by simpa using h.1
  rw [this]
  exact zcf h.2
def tMethD (X:Cx) (name:Str) (k:Nat) (E:XK) (ta:TE) (t:TA):TE:=fun σ H Q=>ta σ H fun x H1=>∃a C dx fs f fd ps sp,x=.ref a∧H1 a=some (.ins C dx fs)∧fs.lookup name=none∧Cls X.K C∧Meth X.K C name f∧Binds X.K fd ps []∧FnOk X.prog X.w X.K X.mg X.base (CXe X.prog X.w) k f fd ps sp ∧
 t σ H1 fun vs H2=>sp (x::vs) H2 Q E
theorem zkl {pl:Sem Bool} {name:Str} {ta:TE} {t:TA} {E:XK} (he:PE X o ta) (hr:Room k X.A) (hx:Passes (CXe X.prog X.w) X E) (ha:PA X (e::es) t)
  (hst:starEach (e::es) X.env=(false,eval e X.env)::starEach es X.env:=by rfl) (hpl:(backTo pos (starEach es X.env)).any (·.1)=false:=by rfl)
  (ht:eval (.Call (.Attribute o name apos) (e::es) [] pos) X.env=(do
   let ov ←eval o X.env
   standAt apos.atName
   let (f,first) ←holding [ov] (getMethod ov name pl)
   callWith pos f first (backTo pos (starEach (e::es) X.env)) (backToKw pos (keywordEach [] X.env))):=by rfl) :
  PE X (.Call (.Attribute o name apos) (e::es) [] pos) (tMethD X name k E ta t):=by
 intro pins s σ H Q I h
 refine PySem.W.methodCall_KW (pl:=pl) (thn (he pins s σ H _ I h) fun u s1 ⟨x,H1,I1,rx,a,C,dx,fs,f,fd,ps,sp,ex,ea,l,c,hm,hb,F,q⟩=>?_) ht
 subst ex
 obtain rfl:u=Value.ref a:=rx
 refine zdI I1 ea c hm l ?_
 refine PySem.W.callWith_K (first:=[.ref a]) (h₀:=X.base) I.ok.mod.kin hm.kp (thn (ha pos pins s1 σ H1 _ I1 q) fun us s2 ⟨vs,H2,I2,r,q2⟩=>⟨I2.kIn,?_⟩) hst hpl
 exact zgR (us:=.ref a::us) (vs:=.ref a::vs) F hr hb .nil hx I2 (.cons rfl r) (by rw [List.append_nil];exact q2)
theorem ziL {pl:Sem Bool} {name:Str} {ta:TE} {E:XK} (he:PE X o ta) (hr:Room k X.A) (hx:Passes (CXe X.prog X.w) X E)
  (ht:eval (.Call (.Attribute o name apos) [] [] pos) X.env=(do
   let ov ←eval o X.env
   standAt apos.atName
   let (f,first) ←holding [ov] (getMethod ov name pl)
   callWith pos f first (backTo pos (starEach [] X.env)) (backToKw pos (keywordEach [] X.env))):=by rfl) :
  PE X (.Call (.Attribute o name apos) [] [] pos) (tMethD X name k E ta tNil):=by
 intro pins s σ H Q I h
 refine PySem.W.methodCall_KW (pl:=pl) (thn (he pins s σ H _ I h) fun u s1 ⟨x,H1,I1,rx,a,C,dx,fs,f,fd,ps,sp,ex,ea,l,c,hm,hb,F,q⟩=>?_) ht
 subst ex
 obtain rfl:u=Value.ref a:=rx
 refine zdI I1 ea c hm l ?_
 exact PySem.W.callWith_K0 (first:=[.ref a]) I1.kIn hm.kp (zgR (us:=[.ref a]) (vs:=[.ref a]) F hr hb .nil hx I1 (.cons rfl .nil) (by rw [List.append_nil];exact q))
def methAt (name:Str) (tab:Str→Option (List PV→Mo PV)) (o:PV) (st:Sto) (k:Nat→(List PV→Mo PV)→Res PV):Res PV:=match o with
 | .ref n=>withI st n fun c ks _=>if name∈ks then .stuck else match tab c with
  | some m=>k n m
  | none=>.stuck
 | _=>.stuck
def mMeth (name:Str) (tab:Str→Option (List PV→Mo PV)) (fo:PEnv→Mo PV) (fs:PEnv→Mo (List PV)):PEnv→Mo PV:=fun env st=>(fo env st).bind fun o st1=>methAt name tab o st1 fun n m=>(fs env st1).bind fun ys st2=>m (.ref n::ys) st2
theorem zdM {name:Str} {tab:Str→Option (List PV→Mo PV)} {o:PV} {st:Sto} {kk:Nat→(List PV→Mo PV)→Res PV} {ρ:List Addr} {H:Hp} {good} (h:Out K mg ρ H (methAt name tab o st kk) good Er) :
  ∃n c ks xs m,o=.ref n∧st[n]?=some (.ins c ks xs)∧name∉ks∧tab c=some m∧Out K mg ρ H (kk n m) good Er:=by
 cases o with
 | ref n =>
  obtain ⟨c,ks,xs,e,h⟩:=zdl h
  split at h
  ·exact False.elim h
  ·rename_i hn
   cases hc:tab c with
   | none=>rw [hc] at h;exact False.elim h
   | some m=>rw [hc] at h;exact ⟨n,c,ks,xs,m,rfl,e,hn,hc,h⟩
 | _=>exact False.elim h
theorem zb1 {pl:Sem Bool} {name:Str} {tab:Str→Option (List PV→Mo PV)} (hT:∀c m,tab c=some m→MOk X.prog X.w X.K X.mg X.base c name k m) (ho:ME X Er o fo) (hr:Room k X.A) (ht:zaL X Er) (ha:MA X Er (e::es) fs)
  (hst:starEach (e::es) X.env=(false,eval e X.env)::starEach es X.env:=by rfl) (hpl:(backTo pos (starEach es X.env)).any (·.1)=false:=by rfl)
  (hev:eval (.Call (.Attribute o name apos) (e::es) [] pos) X.env=(do
   let ov ←eval o X.env
   standAt apos.atName
   let (f,first) ←holding [ov] (getMethod ov name pl)
   callWith pos f first (backTo pos (starEach (e::es) X.env)) (backToKw pos (keywordEach [] X.env))):=by rfl) :
  ME X Er (.Call (.Attribute o name apos) (e::es) [] pos) (mMeth name tab fo fs) :=
 PE.weak (zkl (pl:=pl) ho hr (zdJ ht) ha hst hpl hev) fun σ H Q ⟨env,st,ρ,re,rs,h⟩=>⟨env,st,ρ,re,rs,h.then fun ρ1 H1 x st1 e1 s1 h1 v rv=>by
  obtain ⟨n,c,ks,xs,m,rfl,hn,hk,hc,h1⟩:=zdM h1
  obtain ⟨C,f,fd,ps,hC,cl,hm,hb,F⟩:=hT c m hc
  obtain ⟨p,rfl,hp⟩:=rv
  obtain ⟨C',dx,vs,hC',hH,hR,hl⟩:=s1.addr hn hp
  rw [hC] at hC'
  cases hC'
  exact ⟨p,C,dx,_,f,fd,ps,_,rfl,hH,zcf hk,cl,hm,hb,F,env,st1,ρ1,re.ext e1,s1,Out.then h1 fun ρ2 H2 ys st2 e2 s2 h2 ws rws=>⟨.ref n::ys,st2,ρ2,⟨_,_,rfl,⟨p,rfl,e2.get hp⟩,rws⟩,s2,h2⟩⟩⟩
theorem zff {pl:Sem Bool} {name:Str} {tab:Str→Option (List PV→Mo PV)} (hT:∀c m,tab c=some m→MOk X.prog X.w X.K X.mg X.base c name k m) (ho:ME X Er o fo) (hr:Room k X.A) (ht:zaL X Er)
  (hev:eval (.Call (.Attribute o name apos) [] [] pos) X.env=(do
   let ov ←eval o X.env
   standAt apos.atName
   let (f,first) ←holding [ov] (getMethod ov name pl)
   callWith pos f first (backTo pos (starEach [] X.env)) (backToKw pos (keywordEach [] X.env))):=by rfl) :
  ME X Er (.Call (.Attribute o name apos) [] [] pos) (mMeth name tab fo aNil) :=
 PE.weak (ziL (pl:=pl) ho hr (zdJ ht) hev) fun σ H Q ⟨env,st,ρ,re,rs,h⟩=>⟨env,st,ρ,re,rs,h.then fun ρ1 H1 x st1 e1 s1 h1 v rv=>by
  obtain ⟨n,c,ks,xs,m,rfl,hn,hk,hc,h1⟩:=zdM h1
  obtain ⟨C,f,fd,ps,hC,cl,hm,hb,F⟩:=hT c m hc
  obtain ⟨p,rfl,hp⟩:=rv
  obtain ⟨C',dx,vs,hC',hH,hR,hl⟩:=s1.addr hn hp
  rw [hC] at hC'
  cases hC'
  exact ⟨p,C,dx,_,f,fd,ps,_,rfl,hH,zcf hk,cl,hm,hb,F,⟨[.ref n],st1,ρ1,⟨_,_,rfl,⟨p,rfl,hp⟩,rfl⟩,s1,h1⟩⟩⟩
def newI (c:Str) (m:List PV→Mo PV) (ys:List PV):Mo PV:=fun st=>(m (.ref st.length::ys) (st++[.ins c [] []])).bind fun r st2=>if isNon r=true then .ok (.ref st.length) st2 else .stuck
theorem zkm {x:PV} (h:isNon x=true):x=.non:=by cases x<;>first|rfl|cases h
theorem zme {cn:Str} {C f:Addr} {ρ:List Addr} {H:Hp} {st:Sto} {ys:List PV} {vs:List V} {Q:VK} (hC:mg cn=some (.ref C)) (s:StR K mg ρ H st) (r:Rs K mg ρ H ys vs) (h:Out K mg ρ H (newI cn m ys st) (gV K mg Q) Er) :
  ∀x dx,H x=none→H dx=none→dx≠x→spM K mg m (.ref x::vs) (upd (upd H dx (.own x)) x (.ins C dx [])) (fun v H2=>v=.non∧Q (.ref x) H2) Er:=fun x dx hx hdx ne=>by
 have hx':upd H dx (.own x) x=none:=by rw [zu (Ne.symm ne)];exact hx
 have s1:=s.new (o:=.own x) hdx
 have e1:Ext ρ H ρ (upd H dx (.own x)):=Ext.new hdx
 have e2:Ext ρ H (ρ++[x]) (upd (upd H dx (.own x)) x (.ins C dx [])):=e1.trans (Ext.push hx')
 have s2:StR K mg (ρ++[x]) (upd (upd H dx (.own x)) x (.ins C dx [])) (st++[.ins cn [] []]):=s1.push hx' ⟨C,dx,[],hC,zx,rfl,rfl⟩
 have gx:(ρ++[x])[st.length]?=some x:=by rw [←s.len];simp
 refine ⟨.ref st.length::ys,_,ρ++[x],⟨_,_,rfl,⟨x,rfl,gx⟩,Rs.ext e2 ys r⟩,s2,Out.then (Out.ext h e2) fun ρ3 H3 r3 st3 e3 s3 h3 v rv=>?_⟩
 obtain ⟨hn,h3⟩:=Out.ifp h3
 obtain rfl:=zkm hn
 exact ⟨rv,h3.now s3 _ ⟨x,rfl,e3.get gx⟩⟩
theorem zg0 {cn:Str} (C:NOk X.prog X.w X.K X.mg X.base cn k m) (hr:Room (k+1) X.A) (ht:zaL X Er) (ha:MA X Er (e::es) fs) (hg:Gl X cn:=by rfl) (hdb:(cn==("__debug__" : Str))=false:=by decide)
  (he:starEach (e::es) X.env=(false,eval e X.env)::starEach es X.env:=by rfl) (hpl:(backTo pos (starEach es X.env)).any (·.1)=false:=by rfl):ME X Er (.Call (.Name cn p) (e::es) [] pos) (mCall (newI cn m) fs):=by
 obtain ⟨C,f,fd,ps,hm,M,hb,F⟩:=C
 exact PE.weak (zlD M F hr hg hm hb .nil (zdJ ht) ha hdb he hpl) fun σ H Q ⟨env,st,ρ,re,rs,h⟩=>⟨env,st,ρ,re,rs,h.then fun ρ1 H1 xs st1 e1 s1 k vs rv x dx hx hdx ne=>by
  rw [List.append_nil]
  exact zme (f:=f) hm s1 rv k x dx hx hdx ne⟩
def fldAt (f:Str) (ins exc:Str→Bool):PV→Mo PV
 | .ref n,st=>withI st n fun c ks xs=>if ins c=true then optR ((ks.zip xs).lookup f) st else .stuck
 | .exo c ks xs,st=>if exc c=true then optR ((ks.zip xs).lookup f) st else .stuck
 | _,_=>.stuck
structure FldF (K:Frag) (mg:Str→Option Value) (f:Str) (ins exc:Str→Bool):Prop where
 i:∀c,ins c=true→∃C,mg c=some (.ref C)∧Cls K C∧NoAttr K C f
 x:∀c,exc c=true→∃C,mg c=some (.ref C)∧ExGa K C∧hasDictIn K C=true∧findIn K (.ref C) f=some none
def tFldB (K:Frag) (ta:TE) (f:Str):TE:=fun σ H Q=>ta σ H fun x H1=>(∃a C dx fs v,x=.ref a∧H1 a=some (.ins C dx fs)∧Cls K C∧NoAttr K C f∧fs.lookup f=some v∧Q v H1) ∨
 ∃a C d fs v,x=.ref a∧H1 a=some (exC C (some d) a)∧H1 d=some (.xd fs)∧ExGa K C∧hasDictIn K C=true∧findIn K (.ref C) f=some none∧fs.lookup f=some v∧Q v H1
theorem zmf {f:Str} {ta:TE} (he:PE X e ta) (hb:attributeBase e f X.env (eval e X.env)=eval e X.env):PE X (.Attribute e f pos) (tFldB X.K ta f):=by
 intro pins s σ H Q I h
 refine zlB hb (thn (he pins s σ H _ I h) fun u s1 ⟨x,H1,I1,rx,h1⟩=>?_)
 rcases h1 with ⟨a,C,dx,fs,v,ex,ea,c,n,l,q⟩|⟨a,C,dx,fs,v,ex,ea,ed,g,hh,no,l,q⟩
 ·subst ex
  obtain rfl:u=Value.ref a:=rx
  exact zeR I1 ea c n l fun u' s2 I2 ru=>⟨v,H1,I2,ru,q⟩
 ·subst ex
  obtain rfl:u=Value.ref a:=rx
  exact zlT I1 ea ed g hh no l fun u' s2 I2 ru=>⟨v,H1,I2,ru,q⟩
theorem zcx {f:Str} {ins exc:Str→Bool} (F:FldF X.K X.mg f ins exc) (he:ME X Er e fa) (hb:attributeBase e f X.env (eval e X.env)=eval e X.env:=by rfl):ME X Er (.Attribute e f pos) (mUn (fldAt f ins exc) fa) :=
 PE.weak (zmf he hb) fun σ H Q ⟨env,st,ρ,re,rs,h⟩=>⟨env,st,ρ,re,rs,h.then fun ρ1 H1 x st1 e1 s1 h1 v rv=>by
  cases x with
  | ref n =>
   obtain ⟨c,ks,xs,hn,h1⟩:=zdl h1
   obtain ⟨hc,h1⟩:=Out.ifp h1
   obtain ⟨y,hy,h1⟩:=zbF h1
   obtain ⟨p,rfl,hp⟩:=rv
   obtain ⟨C',dx,vs,hC',hH,hR,hl⟩:=s1.addr hn hp
   obtain ⟨C,hC,cl,na⟩:=F.i c hc
   rw [hC] at hC'
   cases hC'
   obtain ⟨v,hv,rv⟩:=zdn hR hy
   exact .inl ⟨p,_,dx,_,v,rfl,hH,cl,na,hv,h1.now s1 _ rv⟩
  | exo c ks xs =>
   obtain ⟨hc,h1⟩:=Out.ifp h1
   obtain ⟨y,hy,h1⟩:=zbF h1
   obtain ⟨a,C',d,vs,rfl,hC',hH,hd,hR,hl⟩:=rv
   obtain ⟨C,hC,g,hh,no⟩:=F.x c hc
   rw [hC] at hC'
   cases hC'
   obtain ⟨v,hv,rv⟩:=zdn hR hy
   exact .inr ⟨a,_,d,_,v,rfl,hH,hd,g,hh,no,hv,h1.now s1 _ rv⟩
  | _=>exact False.elim h1⟩
def soCls:Option SO→Option (String ⊕ (Bool×Str))
 | some (.lst _)=>some (.inl "list")
 | some (.dic _ _)=>some (.inl "dict")
 | some (.ins c _ _)=>some (.inr (false,c))
 | some (.fdi _ _)=>none
 | none=>none
def clsP (st:Sto):PV→Option (String ⊕ (Bool×Str))
 | .non=>some (.inl "NoneType")
 | .bl _=>some (.inl "bool")
 | .int _=>some (.inl "int")
 | .str _=>some (.inl "str")
 | .tup _=>some (.inl "tuple")
 | .ref n=>soCls st[n]?
 | .exo c _ _=>some (.inr (true,c))
 | _=>none
def optB (o:Option Bool):Mo PV:=fun st=>match o with
 | some b=>.ok (.bl b) st
 | none=>.stuck
theorem zei {ρ:List Addr} {H:Hp} {o:Option Bool} {st:Sto} {good} (h:Out K mg ρ H (optB o st) good Er):∃b,o=some b∧Out K mg ρ H (.ok (.bl b) st) good Er:=by
 cases o with
 | some x=>exact ⟨x,rfl,h⟩
 | none=>exact False.elim h
structure IsT where
 isx:Str→Bool
 sub:Str→Str→Option Bool
 subT:Str→String→Option Bool
 tyC:String→Str→Option Bool
def isiA (t:IsT) (st:Sto):PV→Option (String ⊕ (Bool×Str))→Mo PV
 | .ty n,some (.inl T),st=>optB (tyb T n) st
 | .ty n,some (.inr (f,c)),st=>if t.isx c=f then optB (t.subT c n) st else .stuck
 | .fn B,some (.inl T),st=>optB (t.tyC T B) st
 | .fn B,some (.inr (f,c)),st=>if t.isx c=f then optB (t.sub c B) st else .stuck
 | _,_,_=>.stuck
def oIsi (t:IsT):List PV→Mo PV
 | [x,y],st=>isiA t st y (clsP st x) st
 | _,_=>.stuck
structure InIs (K:Frag) (C:Addr):Prop where
 cl:Cls K C
 ha:findIn K (.ref C) "__class__" = some (some (.builtin "object.__class__"))
 hn:specialIn K (.builtin "object.__class__") "__get__" = some (some (.builtin "getset_descriptor.__get__"))
 tk:takesIn K (.builtin "object.__class__")=some true
 hm:mroIn K C (.type "object")=some true
structure IsF (K:Frag) (mg:Str→Option Value) (t:IsT):Prop where
 s:∀c B b,t.sub c B=some b→∃C D,mg c=some (.ref C)∧mg B=some (.ref D)∧kitOne K (.ref C) (.ref D)=some b
 tt:∀c n b,t.subT c n=some b→∃C,mg c=some (.ref C)∧kitOne K (.ref C) (.type n)=some b
 u:∀T B b,t.tyC T B=some b→∃D,mg B=some (.ref D)∧kitOne K (.type T) (.ref D)=some b
 x:∀c C,t.isx c=true→mg c=some (.ref C)→((∃B b,t.sub c B=some b)∨∃n b,t.subT c n=some b)→ExIs K C
 i:∀c C,t.isx c=false→mg c=some (.ref C)→((∃B b,t.sub c B=some b)∨∃n b,t.subT c n=some b)→InIs K C
inductive TyA (K:Frag) (H:Hp):V→Value→Prop where
 | of {v:V} {t:Value} (h:TyOf K H v t):TyA K H v t
 | tup {a:Addr} {vs:List V} (h:SqT K H a vs):TyA K H (.ref a) (.type "tuple")
 | exc {a C d:Addr} {fs:List (Str×V)} (ha:H a=some (exC C (some d) a)) (hd:H d=some (.xd fs)) (k:ExIs K C):TyA K H (.ref a) (.ref C)
theorem zmg {pins:List (Addr×Obj)} {σ:L2.St} {H:Hp} {s:Shared} {v:V} {u t c:Value} {b:Bool} {Q:Value→Shared→Prop} {A:Around} {E:Value→Shared→Prop} (I:Inv X pins σ H s) (r:RelV v u) (ty:TyA X.K H v t) (e:kitOne X.K t c=some b) (h:∀tk,Q (.bool b) { s with toks:=tk }) :
  wpAny (model X.prog X.w) A (call (.builtin "isinstance") [u,c]) Q E s:=by
 cases ty with
 | of ty=>exact zif I r ty e h
 | @tup a vs hq =>
  obtain rfl:u=Value.ref a:=r
  obtain ⟨its,_,p,_⟩:=I.tuple hq
  obtain ⟨o,h1,h2,_⟩:=p
  exact PySem.W.kia_one PySem.W.kitx_tuple I.kIn ⟨o,h1,h2⟩ e (fun z=>nomatch z) h
 | @exc a C d fs ha hd k =>
  obtain rfl:u=Value.ref a:=r
  exact zoR I ha hd k e h
theorem ziM:CallR X (.builtin "isinstance") (fun xs H Q=>∃v w t c b,xs=[v,w]∧TyA X.K H v t∧RelV w c∧(∀c',RelV w c'→c'=c)∧kitOne X.K t c=some b∧Q (.bl b) H):=by
 intro pins s σ H xs us Q I r h
 obtain ⟨v,w,t,c,b,rfl,ty,rw,un,e,q⟩:=h
 obtain ⟨u,w',rfl,ru,rw'⟩:=zib r
 obtain rfl:=un w' rw'
 exact zmg I ru ty e fun tk=>⟨.bl b,H,I.tok _,rfl,q⟩
theorem ziN {ρ:List Addr} {H:Hp} {st:Sto} {x:PV} {v:V} {T:String} (s:StR K mg ρ H st) (r:R K mg ρ H x v) (h:clsP st x=some (.inl T)):TyA K H v (.type T):=by
 cases x with
 | non=>cases h;cases r;exact .of .non
 | bl b=>cases h;cases r;exact .of (.bl b)
 | int i=>cases h;cases r;exact .of (.int i)
 | str z=>cases h;cases r;exact .of (.str z)
 | tup xs=>cases h;obtain ⟨a,vs,rfl,h1,_⟩:=r;exact .tup h1
 | frl xs=>cases h
 | ref n =>
  obtain ⟨a,rfl,ha⟩:=r
  have h:soCls st[n]?=some (.inl T):=h
  cases e:st[n]? with
  | none=>rw [e] at h;cases h
  | some so =>
   rw [e] at h
   cases so with
   | lst xs=>cases h;obtain ⟨vs,h1,_⟩:=s.addr e ha;exact .of (.lst h1)
   | dic ks xs=>cases h;obtain ⟨vs,h1,_⟩:=s.addr e ha;exact .of (.dK h1)
   | ins c ks xs=>cases h
   | fdi ks xs=>cases h
 | ty _=>cases h
 | fn _=>cases h
 | kd _ _=>cases h
 | exo _ _ _=>cases h
theorem zg1 {ρ:List Addr} {H:Hp} {st:Sto} {x:PV} {v:V} {f:Bool} {c:Str} (hx:∀C,f=true→mg c=some (.ref C)→ExIs K C) (hi:∀C,f=false→mg c=some (.ref C)→InIs K C) (s:StR K mg ρ H st) (r:R K mg ρ H x v) (h:clsP st x=some (.inr (f,c))):∃C,mg c=some (.ref C)∧TyA K H v (.ref C):=by
 cases x with
 | ref n =>
  obtain ⟨a,rfl,ha⟩:=r
  have h:soCls st[n]?=some (.inr (f,c)):=h
  cases e:st[n]? with
  | none=>rw [e] at h;cases h
  | some so =>
   rw [e] at h
   cases so with
   | lst xs=>cases h
   | dic ks xs=>cases h
   | fdi ks xs=>cases h
   | ins c' ks xs =>
    cases h
    obtain ⟨C,dx,vs,hC,hH,_⟩:=s.addr e ha
    have q:=hi C rfl hC
    exact ⟨C,hC,.of (.ins hH q.cl q.ha q.hn q.tk q.hm)⟩
 | exo c' ks xs =>
  cases h
  obtain ⟨a,C,d,vs,rfl,hC,hH,hd,_⟩:=r
  exact ⟨C,hC,.exc hH hd (hx C rfl hC)⟩
 | non=>cases h
 | bl _=>cases h
 | int _=>cases h
 | str _=>cases h
 | tup _=>cases h
 | frl _=>cases h
 | ty _=>cases h
 | fn _=>cases h
 | kd _ _=>cases h
theorem zdo {t:IsT} (F:IsF X.K X.mg t):BltOk X (.builtin "isinstance") (oIsi t):=⟨_,ziM,fun ρ H st xs vs Q E s r h=>by
 match xs,r,h with
 | [x,y],r,h =>
  obtain ⟨v,w,rfl,rx,ry⟩:=Rs.two r
  have h:Out X.K X.mg ρ H (isiA t st y (clsP st x) st) (gV X.K X.mg Q) E:=h
  cases hc:clsP st x with
  | none=>rw [hc] at h;cases y<;>exact False.elim h
  | some cc =>
   rw [hc] at h
   cases cc with
   | inl T =>
    cases y with
    | ty n =>
     cases ry
     obtain ⟨b,hb,h⟩:=zei h
     exact ⟨v,_,_,_,b,rfl,ziN s rx hc,rfl,fun c' h=>h,zmc X.K hb,h.now s _ rfl⟩
    | fn B =>
     obtain ⟨D,rfl,hD⟩:=ry
     obtain ⟨b,hb,h⟩:=zei h
     obtain ⟨D',hD',k⟩:=F.u T B b hb
     rw [hD] at hD'
     cases hD'
     exact ⟨v,_,_,_,b,rfl,ziN s rx hc,rfl,fun c' h=>h,k,h.now s _ rfl⟩
    | _=>exact False.elim h
   | inr fc =>
    obtain ⟨f,c⟩:=fc
    cases y with
    | ty n =>
     cases ry
     obtain ⟨hf,h⟩:=Out.ifp h
     obtain ⟨b,hb,h⟩:=zei h
     obtain ⟨C,hC,k⟩:=F.tt c n b hb
     obtain ⟨C',hC',ty⟩:=zg1 (fun C e hC=>F.x c C (hf.trans e) hC (.inr ⟨n,b,hb⟩)) (fun C e hC=>F.i c C (hf.trans e) hC (.inr ⟨n,b,hb⟩)) s rx hc
     rw [hC] at hC'
     cases hC'
     exact ⟨v,_,_,_,b,rfl,ty,rfl,fun c' h=>h,k,h.now s _ rfl⟩
    | fn B =>
     obtain ⟨D,rfl,hD⟩:=ry
     obtain ⟨hf,h⟩:=Out.ifp h
     obtain ⟨b,hb,h⟩:=zei h
     obtain ⟨C,D',hC,hD',k⟩:=F.s c B b hb
     rw [hD] at hD'
     cases hD'
     obtain ⟨C',hC',ty⟩:=zg1 (fun C e hC=>F.x c C (hf.trans e) hC (.inl ⟨B,b,hb⟩)) (fun C e hC=>F.i c C (hf.trans e) hC (.inl ⟨B,b,hb⟩)) s rx hc
     rw [hC] at hC'
     cases hC'
     exact ⟨v,_,_,_,b,rfl,ty,rfl,fun c' h=>h,k,h.now s _ rfl⟩
    | _=>exact False.elim h
 | [],r,h=>exact False.elim h
 | [_],r,h=>exact False.elim h
 | _::_::_::_,r,h=>exact False.elim h⟩
end
end Mi
namespace Mi
open PySem L2 PySem.W PySem.Spec
section
variable {X:Cx} {Er:XK} {K:Frag} {mg:Str→Option Value} {a b c e o:Expr} {es:List Expr} {st:Stmt} {sts:List Stmt} {pos p apos pos':Pos} {fa fb fc fo:PEnv→Mo PV} {fs:PEnv→Mo (List PV)} {k:Nat} {x:Str} {m:List PV→Mo PV}
variable {g g' gb:PEnv→Mo Fl} {ga:PEnv→Mo Bool}
theorem Out.fl {ρ:List Addr} {H:Hp} {st:Sto} {D:Ends} {fl:Fl} {E:XK} (h:Out K mg ρ H (.ok fl st) (gS K mg D) E) (s:StR K mg ρ H st):gS K mg D ρ H fl st:=h.now s
def sNext:PEnv→Mo Fl:=fun env st=>.ok (.nx env) st
def flowOn (g:PEnv→Mo Fl):Fl→Mo Fl
 | .nx env,st=>g env st
 | fl,st=>.ok fl st
def sSeq (g g':PEnv→Mo Fl):PEnv→Mo Fl:=fun env st=>(g env st).bind (flowOn g')
theorem zB:MSs X Er [] sNext:=PSs.weak zlv fun D σ H ⟨env,st,ρ,re,rs,h⟩=>h.now rs σ re
theorem ze (h1:MS X Er st g) (h2:MSs X Er sts g'):MSs X Er (st::sts) (sSeq g g') :=
 PSs.weak (zjQ h1 h2) fun D σ H ⟨env,st,ρ,re,rs,h⟩=>⟨env,st,ρ,re,rs,h.then fun ρ1 H1 fl st1 e1 s1 h1=>by
  cases fl with
  | nx env1=>exact fun σ1 re1=>⟨env1,st1,ρ1,re1,s1,h1⟩
  | rt v=>exact Out.fl (D:=D) (fl:=.rt v) (E:=Er) h1 s1
  | bk env1=>exact Out.fl (D:=D) (fl:=.bk env1) (E:=Er) h1 s1
  | ct env1=>exact Out.fl (D:=D) (fl:=.ct env1) (E:=Er) h1 s1⟩
theorem zh (h1:MS X Er st g):MSs X Er [st] g:=zgp h1
def sSet (i:Nat) (f:PEnv→Mo PV):PEnv→Mo Fl:=fun env st=>(f env st).bind fun x st1=>.ok (.nx (env.set i (some x))) st1
theorem zL (i:Nat) {x:Str} (he:ME X Er e fa) (hN:X.N.Nodup) (hi:X.N[i]?=some x:=by rfl) (hx:Loc X.env.scope x:=by first|exact Or.inl rfl|exact Or.inr rfl) (hs:swapsWith e (some (.Name x pos')) pos.line X.env=pure false:=by rfl)
  (hf:X.fn x=true∨X.env.scope.names.lookup x=some .local:=by first|exact .inl rfl|exact .inr rfl|assumption):MS X Er (.Assign [.Name x pos'] e pos) (sSet i fa) :=
 PS.weak (zne hN hi hx he hs hf) fun D σ H ⟨env,st,ρ,re,rs,h⟩=>⟨env,st,ρ,re,rs,h.then fun ρ1 H1 x st1 e1 s1 h1 v rv=>h1.now s1 _ ((re.ext e1).set i rv)⟩
def sExpr (f:PEnv→Mo PV):PEnv→Mo Fl:=fun env st=>(f env st).bind fun _ st1=>.ok (.nx env) st1
theorem zaD (he:ME X Er e fa) (hs:swapsWith e none pos.line X.env=pure false:=by rfl):MS X Er (.Expr e pos) (sExpr fa) :=
 PS.weak (zlw he hs) fun D σ H ⟨env,st,ρ,re,rs,h⟩=>⟨env,st,ρ,re,rs,h.then fun ρ1 H1 x st1 e1 s1 h1 v rv=>h1.now s1 _ (re.ext e1)⟩
def sRet (f:PEnv→Mo PV):PEnv→Mo Fl:=fun env st=>(f env st).bind fun x st1=>.ok (.rt x) st1
theorem zw (he:ME X Er e fa):MS X Er (.Return (some e) pos) (sRet fa) :=
 PS.weak (znc he) fun D σ H ⟨env,st,ρ,re,rs,h⟩=>⟨env,st,ρ,re,rs,h.then fun ρ1 H1 x st1 e1 s1 h1 v rv=>h1.now s1 _ rv⟩
def sIf (t:PEnv→Mo Bool) (g g':PEnv→Mo Fl):PEnv→Mo Fl:=fun env st=>(t env st).bind fun c st1=>if c=true then g env st1 else g' env st1
theorem zW {A B:List Stmt} (hc:MT X Er c ga) (ha:MSs X Er A g) (hb:MSs X Er B g'):MS X Er (.If c A B pos) (sIf ga g g') :=
 PS.weak (zoH hc ha hb) fun D σ H ⟨env,st,ρ,re,rs,h⟩=>⟨env,st,ρ,re,rs,h.then fun ρ1 H1 k st1 e1 s1 h1=>by
  cases k with
  | true=>exact ⟨env,st1,ρ1,re.ext e1,s1,h1⟩
  | false=>exact ⟨env,st1,ρ1,re.ext e1,s1,h1⟩⟩
def ipAdd:PV→PV→Mo PV
 | .int i,.int j,st=>.ok (.int (i+j)) st
 | _,_,_=>.stuck
def sAug (i:Nat) (op:PV→PV→Mo PV) (f:PEnv→Mo PV):PEnv→Mo Fl:=fun env st=>(mVar i env st).bind fun x st0=>(f env st0).bind fun y st1=>(op x y st1).bind fun z st2=>.ok (.nx (env.set i (some z))) st2
def IpOk (X:Cx) (o:Operator) (op:PV→PV→Mo PV):Prop:=∃r,PIp X o r∧OpM X.K X.mg r op
theorem ziO:IpOk X .Add ipAdd:=⟨_,zng,by
 intro ρ H st x y v w Q E s rx ry h
 cases x with
 | int i =>
  cases y with
  | int j=>cases rx;cases ry;exact ⟨i,j,rfl,rfl,Out.now (x:=PV.int (i+j)) h s _ rfl⟩
  | _=>exact False.elim h
 | _=>exact False.elim h⟩
theorem zk8 (i:Nat) {x:Str} {o:Operator} {op:PV→PV→Mo PV} (ho:IpOk X o op) (he:ME X Er e fa) (hN:X.N.Nodup) (hi:X.N[i]?=some x:=by rfl) (hx:Loc X.env.scope x:=by first|exact Or.inl rfl|exact Or.inr rfl)
  (hf:X.fn x=true∨X.env.scope.names.lookup x=some .local:=by first|exact .inl rfl|exact .inr rfl|assumption):MS X Er (.AugAssign (.Name x pos') o e pos) (sAug i op fa):=by
 obtain ⟨r,h1,h2⟩:=ho
 refine PS.weak (znf hN hi hx he h1 hf) fun D σ H ⟨env,st,ρ,re,rs,h⟩=>?_
 unfold sAug mVar at h
 cases hx:env[i]? with
 | none=>simp only [hx] at h;exact False.elim h
 | some q =>
  cases q with
  | none=>simp only [hx] at h;exact False.elim h
  | some x0 =>
   simp only [hx] at h
   obtain ⟨v,hv,rv⟩:=re.at_ i x0 hx
   exact ⟨v,hv,env,st,ρ,re,rs,Out.then (f:=fun y st1=>(op x0 y st1).bind fun z st2=>Res.ok (Fl.nx (env.set i (some z))) st2) (good:=gS X.K X.mg D) h fun ρ1 H1 y st1 e1 s1 k1 w rw=>h2 ρ1 H1 st1 x0 y v w _ Er s1 (R.ext e1 x0 rv) rw (k1.then fun ρ2 H2 z st2 e2 s2 k2 u ru=>k2.now s2 _ (((re.ext e1).ext e2).set i ru))⟩
def putK (f:Str) (x:PV):List Str→List PV→List Str×List PV
 | k::ks,y::ys=>if k=f then (k::ks,x::ys) else (k::(putK f x ks ys).1,y::(putK f x ks ys).2)
 | _,_=>([f],[x])
theorem ziP {ρ:List Addr} {H:Hp} {f:Str} {x:PV} {v:V} (r:R K mg ρ H x v):∀{ks:List Str} {xs:List PV} {vs:List V},ks.length=vs.length→Rs K mg ρ H xs vs→∃ws,putF f v (ks.zip vs)=(putK f x ks xs).1.zip ws∧Rs K mg ρ H (putK f x ks xs).2 ws∧(putK f x ks xs).1.length=ws.length
 | [],xs,vs,hl,h=>by
  have:vs=[]:=by cases vs with|nil=>rfl|cons=>simp at hl
  subst this
  have:xs=[]:=by cases xs with|nil=>rfl|cons=>obtain ⟨_,_,e,_⟩:=h;cases e
  subst this
  exact ⟨[v],rfl,⟨v,[],rfl,r,rfl⟩,rfl⟩
 | k::ks,xs,vs,hl,h=>by
  cases vs with
  | nil=>simp at hl
  | cons v0 vs =>
   cases xs with
   | nil=>cases h
   | cons y ys =>
    obtain ⟨v0',r',e,h1,h2⟩:=h
    cases e
    simp only [putK,List.zip_cons_cons,putF]
    by_cases hk:k=f
    ·rw [if_pos hk,if_pos hk]
     exact ⟨v::vs,rfl,⟨v,vs,rfl,r,h2⟩,by simpa using hl⟩
    ·rw [if_neg hk,if_neg hk]
     obtain ⟨ws,e1,e2,e3⟩:=ziP r (by simpa using hl) h2
     exact ⟨v0::ws,by rw [e1];rfl,⟨v0,ws,rfl,h1,e2⟩,by simp [e3]⟩
def putAt (f:Str) (ins:Str→Bool) (x:PV):PV→Mo Unit
 | .ref n,st=>withI st n fun c ks xs=>if ins c=true∧ks.length<1000 then .ok () (st.set n (.ins c (putK f x ks xs).1 (putK f x ks xs).2)) else .stuck
 | _,_=>.stuck
def sFld (f:Str) (ins:Str→Bool) (fo fv:PEnv→Mo PV):PEnv→Mo Fl:=fun env st=>(fv env st).bind fun x st1=>(fo env st1).bind fun o st2=>(putAt f ins x o st2).bind fun _ st3=>.ok (.nx env) st3
theorem zcy {f:Str} {ins exc:Str→Bool} (F:FldF X.K X.mg f ins exc) (ho:ME X Er o fo) (he:ME X Er e fa) (hs:swapsWith e (some (.Attribute o f pos')) pos.line X.env=pure false:=by rfl):MS X Er (.Assign [.Attribute o f pos'] e pos) (sFld f ins fo fa) :=
 PS.weak (zno ho he hs) fun D σ H ⟨env,st,ρ,re,rs,h⟩=>⟨env,st,ρ,re,rs,h.then fun ρ1 H1 x st1 e1 s1 h1 v rv=>⟨env,st1,ρ1,re.ext e1,s1,h1.then fun ρ2 H2 y st2 e2 s2 h2 w rw=>by
  cases y with
  | ref n =>
   cases hn:st2[n]? with
   | none=>simp only [putAt,withI,hn] at h2;exact False.elim h2
   | some so =>
    cases so with
    | lst _=>simp only [putAt,withI,hn] at h2;exact False.elim h2
    | dic _ _=>simp only [putAt,withI,hn] at h2;exact False.elim h2
    | fdi _ _=>simp only [putAt,withI,hn] at h2;exact False.elim h2
    | ins c ks xs =>
     simp only [putAt,withI,hn] at h2
     by_cases hc:ins c=true∧ks.length<1000
     ·rw [if_pos hc] at h2
      obtain ⟨p,rfl,hp⟩:=rw
      obtain ⟨C',dx,vs,hC',hH,hR,hl⟩:=s2.addr hn hp
      obtain ⟨C,hC,cl,na⟩:=F.i c hc.1
      rw [hC] at hC'
      cases hC'
      obtain ⟨ws,k1,k2,k3⟩:=ziP (f:=f) (R.ext e2 x rv) hl hR
      refine ⟨p,_,dx,_,rfl,hH,cl,na,?_,?_⟩
      ·rw [List.length_zip,←hl];have:=hc.2;omega
      ·have ew:Ext ρ2 H2 ρ2 (upd H2 p (.ins C' dx (putF f v (ks.zip vs)))):=Ext.write hH rfl
       exact h2 ρ2 _ ew (s2.write hp ew ⟨_,dx,ws,hC,by rw [zx,k1],Rs.ext ew _ k2,k3⟩) σ (((re.ext e1).ext e2).ext ew)
     ·rw [if_neg hc] at h2;exact False.elim h2
  | _=>exact False.elim h2⟩⟩
def MG (X:Cx) (Er:XK) (e:Expr) (g:PV→PEnv→Option PEnv):Prop:=PG X e fun v σ H Q=>∃x env env' ρ,R X.K X.mg ρ H x v∧EnvR X.K X.mg ρ H env σ∧g x env=some env'∧∀σ',EnvR X.K X.mg ρ H env' σ'→Q σ' H
theorem PG.weak {t t':TG} (h:PG X e t) (w:∀v σ H Q,t' v σ H Q→t v σ H Q):PG X e t':=fun pins s σ H v u Q I r q=>h pins s σ H v u Q I r (w v σ H Q q)
def gN (i:Nat):PV→PEnv→Option PEnv:=fun x env=>some (env.set i (some x))
theorem ziQ (i:Nat) {x:Str} (hN:X.N.Nodup) (hi:X.N[i]?=some x:=by rfl) (hx:Loc X.env.scope x:=by first|exact Or.inl rfl|exact Or.inr rfl) (hf:X.fn x=true∨X.env.scope.names.lookup x=some .local:=by first|exact .inl rfl|exact .inr rfl|assumption):MG X Er (.Name x pos) (gN i) :=
 PG.weak (zc3 hN hi hx hf) fun v σ H Q ⟨x,env,env',ρ,rx,re,hg,q⟩=>by
  cases hg
  exact q _ (re.set i rx)
def g2 (i j:Nat):PV→PEnv→Option PEnv
 | .tup [x,y],env=>some ((env.set i (some x)).set j (some y))
 | _,_=>none
theorem znR {i j:Nat} {x:PV} {env env':PEnv} (h:g2 i j x env=some env'):∃y z,x=.tup [y,z]∧env'=(env.set i (some y)).set j (some z):=by
 unfold g2 at h
 split at h
 ·cases h;exact ⟨_,_,rfl,rfl⟩
 ·cases h
theorem zox (i j:Nat) {x y:Str} {kt:Nat} {px py:Pos} (hc:X.calm=true) (hN:X.N.Nodup) (hi:X.N[i]?=some x:=by rfl) (hj:X.N[j]?=some y:=by rfl) (hx:Loc X.env.scope x:=by first|exact Or.inl rfl|exact Or.inr rfl) (hy:Loc X.env.scope y:=by first|exact Or.inl rfl|exact Or.inr rfl)
  (hf:X.fn x=true∨X.env.scope.names.lookup x=some .local:=by first|exact .inl rfl|exact .inr rfl|assumption) (hf':X.fn y=true∨X.env.scope.names.lookup y=some .local:=by first|exact .inl rfl|exact .inr rfl|assumption):MG X Er (.Tuple [.Name x px,.Name y py] kt pos) (g2 i j) :=
 PG.weak (znd (n:=2) hc (zef (zc3 hN hi hx hf) (zef (zc3 hN hj hy hf') zh5))) fun v σ H Q ⟨x,env,env',ρ,rx,re,hg,q⟩=>by
  obtain ⟨y,z,rfl,rfl⟩:=znR hg
  obtain ⟨a,vs,rfl,h1,h2⟩:=rx
  obtain ⟨u,w,rfl,r1,r2⟩:=Rs.two h2
  exact ⟨a,_,rfl,h1,rfl,u,[w],rfl,w,[],rfl,rfl,q _ ((re.set i r1).set j r2)⟩
def g3 (i j k:Nat):PV→PEnv→Option PEnv
 | .tup [x,y,z],env=>some (((env.set i (some x)).set j (some y)).set k (some z))
 | _,_=>none
def sTo (g:PV→PEnv→Option PEnv) (f:PEnv→Mo PV):PEnv→Mo Fl:=fun env st=>(f env st).bind fun x st1=>match g x env with
 | some env'=>.ok (.nx env') st1
 | none=>.stuck
theorem zo1 {tg:Expr} {gt:PV→PEnv→Option PEnv} (hg:MG X Er tg gt) (he:ME X Er e fa) (hs:swapsWithSole [tg] e pos.line X.env=pure false:=by rfl) (hw:swappedStores [tg] e X.env=pure none:=by rfl)
  (h1:(assignEach [tg] X.env).map (·.2)=[assign tg X.env]:=by rfl):MS X Er (.Assign [tg] e pos) (sTo gt fa) :=
 PS.weak (zkY he hg hs hw h1) fun D σ H ⟨env,st,ρ,re,rs,h⟩=>⟨env,st,ρ,re,rs,h.then fun ρ1 H1 x st1 e1 s1 h1 v rv=>by
  cases hx:gt x env with
  | none=>simp only [hx] at h1;exact False.elim h1
  | some env' =>
   simp only [hx] at h1
   exact ⟨x,env,env',ρ1,rv,re.ext e1,hx,fun σ' r'=>Out.now (x:=Fl.nx env') h1 s1 σ' r'⟩⟩
inductive Sq where
 | im (xs:List PV)|rf (n:Nat)
def Walk (K:Frag) (mg:Str→Option Value) (J:It) (ρ:List Addr) (H:Hp):Sq→Prop
 | .im xs=>(∀i ρ' H',Ext ρ H ρ' H'→i<xs.length→J.go i H')∧(∀i ρ' H',Ext ρ H ρ' H'→xs.length≤i→J.stop i H') ∧
  ∀i ρ' H' st v H2,Ext ρ H ρ' H'→StR K mg ρ' H' st→i<xs.length→J.yld i H' v H2→∃x,xs[i]?=some x∧Ext ρ' H' ρ' H2∧StR K mg ρ' H2 st∧R K mg ρ' H2 x v
 | .rf n=>∃a,ρ[n]?=some a∧J=Itl K a
def MI (X:Cx) (Er:XK) (tg iter:Expr) (src:PEnv→Mo Sq):Prop:=PI X tg iter fun σ H R=>∃env st ρ,EnvR X.K X.mg ρ H env σ∧StR X.K X.mg ρ H st∧Out X.K X.mg ρ H (src env st) (fun ρ' H' q st'=>∀J,Walk X.K X.mg J ρ' H' q→R J H') Er
def forL (g:PV→PEnv→Option PEnv) (body:PEnv→Mo Fl):List PV→PEnv→Mo Fl
 | [],env,st=>.ok (.nx env) st
 | x::xs,env,st=>match g x env with
  | none=>.stuck
  | some env1=>(body env1 st).bind fun fl st2=>match fl with
   | .nx e=>forL g body xs e st2
   | .ct e=>forL g body xs e st2
   | .bk e=>.ok (.nx e) st2
   | .rt v=>.ok (.rt v) st2
def forR (g:PV→PEnv→Option PEnv) (body:PEnv→Mo Fl) (n:Nat):Nat→Nat→PEnv→Mo Fl
 | 0,_,_,_=>.stuck
 | m+1,i,env,st=>withL st n fun xs=>match xs[i]? with
  | none=>.ok (.nx env) st
  | some x=>match g x env with
   | none=>.stuck
   | some env1=>(body env1 st).bind fun fl st2=>match fl with
    | .nx e=>forR g body n m (i+1) e st2
    | .ct e=>forR g body n m (i+1) e st2
    | .bk e=>.ok (.nx e) st2
    | .rt v=>.ok (.rt v) st2
def forS (g:PV→PEnv→Option PEnv) (body:PEnv→Mo Fl):Sq→PEnv→Mo Fl
 | .im xs=>forL g body xs
 | .rf n=>forR g body n (lim+1) 0
def sFor (src:PEnv→Mo Sq) (g:PV→PEnv→Option PEnv) (body:PEnv→Mo Fl):PEnv→Mo Fl:=fun env st=>(src env st).bind fun q st1=>forS g body q env st1
theorem ziR {tg iter:Expr} {src:PEnv→Mo Sq} {gt:PV→PEnv→Option PEnv} (hp:PassesOwn (model X.prog X.w) X.A X.env X.xe) (hc:X.calm=true) (hi:MI X Er tg iter src) (hg:MG X Er tg gt) (hb:MSs X Er sts gb)
  (hs:∀x,foldedSetIterable iter X.env x=pure x:=by intro _;rfl):MS X Er (.For tg iter sts [] pos) (sFor src gt gb) :=
 PS.weak (zh9 hp hc hi hg hb hs) fun D σ H ⟨env,st,ρ,re,rs,h⟩=>⟨env,st,ρ,re,rs,h.then fun ρ0 H0 q st0 e0 s0 h0 J wk=>by
  cases q with
  | im xs =>
   obtain ⟨w1,w2,w3⟩:=wk
   refine ⟨fun i m σ H=>m=xs.length-i∧i≤xs.length∧∃env st ρ,EnvR X.K X.mg ρ H env σ∧StR X.K X.mg ρ H st∧Ext ρ0 H0 ρ H∧Out X.K X.mg ρ H (forL gt gb (xs.drop i) env st) (gS X.K X.mg D) Er,⟨xs.length,by simp,Nat.zero_le _,env,st0,ρ0,re.ext e0,s0,Ext.refl,h0⟩,?_⟩
   rintro i m σ H ⟨rfl,hi,env,st,ρ,re,rs,ex,h⟩
   by_cases hlt:i<xs.length
   ·refine .inr ⟨w1 i ρ H ex hlt,_,fun σ' H' p'=>⟨xs.length-(i+1),by omega,rfl,hlt,p'⟩,fun v H' y=>?_⟩
    obtain ⟨x,hx,ex2,s2,rx⟩:=w3 i ρ H st v H' ex rs hlt y
    have hd:xs.drop i=x::xs.drop (i+1):=by
     rw [List.drop_eq_getElem_cons hlt]
     have:=(List.getElem?_eq_some_iff.mp hx).2
     rw [this]
    rw [hd] at h
    cases hgx:gt x env with
    | none=>simp only [forL,hgx] at h;exact False.elim h
    | some env1 =>
     simp only [forL,hgx] at h
     refine ⟨x,env,env1,ρ,rx,re.ext ex2,hgx,fun σ1 r1=>⟨env1,st,ρ,r1,s2,Out.then (Out.ext h ex2) fun ρ3 H3 fl st3 e3 s3 h3=>?_⟩⟩
     cases fl with
     | nx e=>exact fun σ4 r4=>⟨e,st3,ρ3,r4,s3,(ex.trans ex2).trans e3,h3⟩
     | ct e=>exact fun σ4 r4=>⟨e,st3,ρ3,r4,s3,(ex.trans ex2).trans e3,h3⟩
     | bk e=>exact Out.fl (D:=D) (fl:=.nx e) (E:=Er) h3 s3
     | rt v=>exact Out.fl (D:=D) (fl:=.rt v) (E:=Er) h3 s3
   ·have e:i=xs.length:=by omega
    subst e
    rw [List.drop_length] at h
    exact .inl ⟨w2 _ ρ H ex (Nat.le_refl _),Out.now (x:=Fl.nx env) h rs σ re⟩
  | rf n =>
   obtain ⟨a,ha,rfl⟩:=wk
   refine ⟨fun i m σ H=>∃env st ρ,EnvR X.K X.mg ρ H env σ∧StR X.K X.mg ρ H st∧ρ[n]?=some a∧Out X.K X.mg ρ H (forR gt gb n m i env st) (gS X.K X.mg D) Er,⟨lim+1,env,st0,ρ0,re.ext e0,s0,ha,h0⟩,?_⟩
   rintro i m σ H ⟨env,st,ρ,re,rs,ha,h⟩
   cases m with
   | zero=>exact False.elim h
   | succ m =>
    obtain ⟨xs,hn,h⟩:=zE h
    obtain ⟨vs,hH,hR⟩:=rs.addr hn ha
    cases hx:xs[i]? with
    | none =>
     simp only [hx] at h
     have:vs.length≤i:=by rw [←hR.len];exact List.getElem?_eq_none_iff.mp hx
     exact .inl ⟨⟨vs,SqL.of hH,this⟩,Out.now (x:=Fl.nx env) h rs σ re⟩
    | some x =>
     simp only [hx] at h
     obtain ⟨v,hv,rv⟩:=hR.get hx
     refine .inr ⟨⟨vs,v,SqL.of hH,hv⟩,_,fun σ' H' p'=>⟨m,Nat.lt_succ_self m,p'⟩,fun v' H' y=>?_⟩
     obtain ⟨e1,y⟩:=y
     subst e1
     have e2:=y vs (SqL.of hH)
     rw [hv] at e2
     cases e2
     cases hgx:gt x env with
     | none=>simp only [hgx] at h;exact False.elim h
     | some env1 =>
      simp only [hgx] at h
      refine ⟨x,env,env1,ρ,rv,re,hgx,fun σ1 r1=>⟨env1,st,ρ,r1,rs,Out.then h fun ρ3 H3 fl st3 e3 s3 h3=>?_⟩⟩
      cases fl with
      | nx e=>exact fun σ4 r4=>⟨e,st3,ρ3,r4,s3,e3.get ha,h3⟩
      | ct e=>exact fun σ4 r4=>⟨e,st3,ρ3,r4,s3,e3.get ha,h3⟩
      | bk e=>exact Out.fl (D:=D) (fl:=.nx e) (E:=Er) h3 s3
      | rt v=>exact Out.fl (D:=D) (fl:=.rt v) (E:=Er) h3 s3⟩
end
end Mi
namespace Mi
open PySem L2 PySem.W PySem.Spec
section
variable {X:Cx} {Er:XK} {K:Frag} {mg:Str→Option Value} {a b c e o tg:Expr} {es:List Expr} {st:Stmt} {sts:List Stmt} {pos p apos pos':Pos} {fa fb fc fo:PEnv→Mo PV} {fs:PEnv→Mo (List PV)} {k:Nat} {x:Str} {m:List PV→Mo PV}
variable {g g' gb:PEnv→Mo Fl} {ga:PEnv→Mo Bool}
theorem PI.weak {t t':TI} (h:PI X tg e t) (w:∀σ H Q,t' σ H Q→t σ H Q):PI X tg e t':=fun pins s σ H Q I q=>h pins s σ H Q I (w σ H Q q)
def iSeq (K:Frag) (tl:TE):TI:=fun σ H R=>tl σ H fun x H1=>(∃a,x=.ref a∧(∃xs,SqL K H1 a xs)∧R (Itl K a) H1)∨(∃a,x=.ref a∧(∃xs,SqT K H1 a xs)∧R (Itt K a) H1)∨∃z,x=.str z∧R (Its z) H1
theorem znS {l:Expr} {tl:TE} (hl:PE X l tl):PI X tg l (iSeq X.K tl):=by
 intro pins s σ H R I h
 refine thn (hl pins s σ H _ I h) fun v s1 ⟨x,H1,I1,r1,q1⟩=>?_
 have fin:∀b∈[s1.heap.objs.size],FpOk X pins H1 b:=fun b hb=>by
  have e:b=s1.heap.objs.size:=by simpa using hb
  subst e
  exact I1.fpOk (Nat.le_refl _) (I1.hok.fresh (Nat.le_refl _))
 rcases q1 with ⟨a,e,⟨xs,hq⟩,q⟩|⟨a,e,⟨xs,hq⟩,q⟩|⟨z,rfl,q⟩
 ·subst e
  cases r1
  obtain ⟨its,rv,p,hz⟩:=I1.list hq
  exact wpAny_pyIter_list p.isList ⟨s1.heap.objs.size,[s1.heap.objs.size],_,_,H1,rfl,I1.kept (t':=s1.toks) (fun b o e=>Heap.get?_push_of_some _ e),zh6 a _,⟨_,Heap.get?_push_size _ rfl,rfl,rfl⟩,fin,q⟩
 ·subst e
  cases r1
  obtain ⟨its,rv,p,hz⟩:=I1.tuple hq
  exact wpAny_pyIter_tuple (show s1.heap.IsTuple a its.toArray from p) ⟨s1.heap.objs.size,[s1.heap.objs.size],_,_,H1,rfl,I1.kept (t':=s1.toks) (fun b o e=>Heap.get?_push_of_some _ e),zhA a _,⟨_,Heap.get?_push_size _ rfl,rfl,rfl⟩,fin,q⟩
 ·obtain ⟨t,rfl⟩:=r1
  cases ha:z.cps.all (·<128) with
  | false=>exact wpAny_pyIter_wide ha ⟨s1.heap.objs.size,[s1.heap.objs.size],_,_,H1,rfl,I1.kept (t':=s1.toks) (fun b o e=>Heap.get?_push_of_some _ e),zgU z t _ "str_iterator" (.inr rfl),⟨_,Heap.get?_push_size _ rfl,rfl,rfl⟩,fin,q⟩
  | true=>exact wpAny_pyIter_ascii ha ⟨s1.heap.objs.size,[s1.heap.objs.size],_,_,H1,rfl,I1.kept (t':=s1.toks) (fun b o e=>Heap.get?_push_of_some _ e),zgU z t _ "str_ascii_iterator" (.inl rfl),⟨_,Heap.get?_push_size _ rfl,rfl,rfl⟩,fin,q⟩
theorem zkn {ρ:List Addr} {H:Hp} {a:Addr} {xs:List PV} {vs:List V} (h:SqT K H a vs) (r:Rs K mg ρ H xs vs):Walk K mg (Itt K a) ρ H (.im xs):=by
 refine ⟨fun i ρ' H' e hi=>?_,fun i ρ' H' e hi=>⟨vs,e.sqT h,by rw [←r.len];exact hi⟩,fun i ρ' H' st v H2 e s hi y=>?_⟩
 ·obtain ⟨v,hv,_⟩:=r.get (List.getElem?_eq_getElem hi)
  exact ⟨vs,v,e.sqT h,hv⟩
 ·obtain ⟨e1,y⟩:=y
  subst e1
  obtain ⟨v',hv,rv⟩:=r.get (List.getElem?_eq_getElem hi)
  have:=y vs (e.sqT h)
  rw [hv] at this
  cases this
  exact ⟨_,List.getElem?_eq_getElem hi,Ext.refl,s,R.ext e _ rv⟩
theorem zko {ρ:List Addr} {H:Hp} {a:Addr} {xs:List PV} {vs:List V} (h:FrL K H a vs) (r:Rs K mg ρ H xs vs):Walk K mg (Itl K a) ρ H (.im xs):=by
 have hs:∀{ρ' H'},Ext ρ H ρ' H'→SqL K H' a vs:=fun e=>(e.frl h).sq
 refine ⟨fun i ρ' H' e hi=>?_,fun i ρ' H' e hi=>⟨vs,hs e,by rw [←r.len];exact hi⟩,fun i ρ' H' st v H2 e s hi y=>?_⟩
 ·obtain ⟨v,hv,_⟩:=r.get (List.getElem?_eq_getElem hi)
  exact ⟨vs,v,hs e,hv⟩
 ·obtain ⟨e1,y⟩:=y
  subst e1
  obtain ⟨v',hv,rv⟩:=r.get (List.getElem?_eq_getElem hi)
  have:=y vs (hs e)
  rw [hv] at this
  cases this
  exact ⟨_,List.getElem?_eq_getElem hi,Ext.refl,s,R.ext e _ rv⟩
def signs (z:Str):List PV:=z.cps.toList.map fun c=>.str ⟨#[c]⟩
theorem zkp {ρ:List Addr} {H:Hp} (z:Str):Walk K mg (Its z) ρ H (.im (signs z)):=by
 have hl:(signs z).length=z.cps.size:=by simp [signs]
 refine ⟨fun i ρ' H' e hi=>by rw [hl] at hi;exact hi,fun i ρ' H' e hi=>by rw [hl] at hi;exact hi,fun i ρ' H' st v H2 e s hi y=>?_⟩
 obtain ⟨e1,c,hc,e2⟩:=y
 subst e1 e2
 refine ⟨.str ⟨#[c]⟩,?_,Ext.refl,s,rfl⟩
 simp [signs,hc]
def nums (lo:Int) (n:Nat):List PV:=(List.range n).map fun i=>.int (lo+(i:Nat))
theorem zhN {ρ:List Addr} {H:Hp} (lo:Int) (n:Nat):Walk K mg (Itr lo n) ρ H (.im (nums lo n)):=by
 have hl:(nums lo n).length=n:=by simp [nums]
 refine ⟨fun i ρ' H' e hi=>by rw [hl] at hi;exact hi,fun i ρ' H' e hi=>by rw [hl] at hi;exact hi,fun i ρ' H' st v H2 e s hi y=>?_⟩
 obtain ⟨e1,e2⟩:=y
 subst e1 e2
 rw [hl] at hi
 exact ⟨.int (lo+i),by simp [nums,hi],Ext.refl,s,rfl⟩
def seqOf:PV→Mo Sq
 | .tup xs,st=>.ok (.im xs) st
 | .frl xs,st=>.ok (.im xs) st
 | .str z,st=>.ok (.im (signs z)) st
 | .ref n,st=>withL st n fun _=>.ok (.rf n) st
 | _,_=>.stuck
def iVal (f:PEnv→Mo PV):PEnv→Mo Sq:=fun env st=>(f env st).bind seqOf
theorem zeW (h:ME X Er e fa):MI X Er tg e (iVal fa):=PI.weak (znS h) fun σ H Q ⟨env,st,ρ,re,rs,h⟩=>⟨env,st,ρ,re,rs,h.then fun ρ1 H1 x st1 e1 s1 h1 v rv=>by
 cases x with
 | tup xs =>
  obtain ⟨a,vs,rfl,k1,k2⟩:=rv
  exact .inr (.inl ⟨a,rfl,⟨vs,k1⟩,Out.now (x:=Sq.im xs) h1 s1 _ (zkn k1 k2)⟩)
 | frl xs =>
  obtain ⟨a,vs,rfl,k1,k2⟩:=rv
  exact .inl ⟨a,rfl,⟨vs,k1.sq⟩,Out.now (x:=Sq.im xs) h1 s1 _ (zko k1 k2)⟩
 | str z =>
  cases rv
  exact .inr (.inr ⟨z,rfl,Out.now (x:=Sq.im (signs z)) h1 s1 _ (zkp z)⟩)
 | ref n =>
  obtain ⟨a,rfl,ha⟩:=rv
  obtain ⟨xs,hn,h1⟩:=zE h1
  obtain ⟨vs,k1,k2⟩:=s1.addr hn ha
  exact .inl ⟨a,rfl,⟨vs,SqL.of k1⟩,h1.now s1 _ ⟨a,ha,rfl⟩⟩
 | _=>exact False.elim h1⟩
abbrev cR (j:Int):Bool:=decide (-(2 ^ 62)≤j)&&decide (j<2 ^ 62)
def rng1:List PV→Mo Sq
 | [.int j],st=>if cR j=true then .ok (.im (nums 0 j.toNat)) st else .stuck
 | _,_=>.stuck
def zqg:List PV→Mo Sq
 | [.int i,.int j],st=>if cR i=true∧cR j=true then .ok (.im (nums i (j-i).toNat)) st else .stuck
 | _,_=>.stuck
theorem zkq {ρ:List Addr} {H:Hp} {xs:List PV} {st:Sto} {good:List Addr→Hp→Sq→Sto→Prop} (h:Out K mg ρ H (rng1 xs st) good Er):∃j,xs=[.int j] ∧ -(2 ^ 62)≤j∧j<2 ^ 62∧Out K mg ρ H (.ok (.im (nums 0 j.toNat)) st) good Er:=by
 unfold rng1 at h
 split at h
 ·obtain ⟨c,h⟩:=Out.ifp h
  simp [cR] at c
  exact ⟨_,rfl,c.1,c.2,h⟩
 ·exact False.elim h
def iRng1 (fs:PEnv→Mo (List PV)):PEnv→Mo Sq:=fun env st=>(fs env st).bind rng1
def iRng2 (fs:PEnv→Mo (List PV)):PEnv→Mo Sq:=fun env st=>(fs env st).bind zqg
theorem zeC {a:Expr} (hm:X.mg "range" = none) (ha:MA X Er [a] fs) (hg:Gl X "range" := by rfl) (hs:starEach [a] X.env=[(false,eval a X.env)]:=by rfl):MI X Er tg (.Call (.Name "range" p) [a] [] pos) (iRng1 fs) :=
 PI.weak (zh7 hg hm ha hs) fun σ H Q ⟨env,st,ρ,re,rs,h⟩=>⟨env,st,ρ,re,rs,h.then fun ρ1 H1 xs st1 e1 s1 h1 vs rv=>by
  obtain ⟨j,rfl,c1,c2,h1⟩:=zkq h1
  obtain ⟨v,rfl,rfl⟩:=Rs.one rv
  exact ⟨j,rfl,c1,c2,h1.now s1 _ (zhN 0 j.toNat)⟩⟩
def zipP (xs ys:List PV):List PV:=(xs.zip ys).map fun q=>.tup [q.1,q.2]
def zip2:List PV→Mo Sq
 | [.tup xs,.tup ys],st=>.ok (.im (zipP xs ys)) st
 | _,_=>.stuck
theorem zkr {ρ:List Addr} {H:Hp} {xs:List PV} {st:Sto} {good:List Addr→Hp→Sq→Sto→Prop} (h:Out K mg ρ H (zip2 xs st) good Er):∃ys zs,xs=[.tup ys,.tup zs]∧Out K mg ρ H (.ok (.im (zipP ys zs)) st) good Er:=by
 unfold zip2 at h
 split at h
 ·exact ⟨_,_,rfl,h⟩
 ·exact False.elim h
theorem zks {ρ:List Addr} {H:Hp} {a b:Addr} {xs ys:List PV} {vs ws:List V} (h:SqT K H a vs) (r:Rs K mg ρ H xs vs) (h':SqT K H b ws) (r':Rs K mg ρ H ys ws):Walk K mg (Itz K a b) ρ H (.im (zipP xs ys)):=by
 have hl:(zipP xs ys).length=min xs.length ys.length:=by simp [zipP]
 have l1:=r.len
 have l2:=r'.len
 refine ⟨fun i ρ' H' e hi=>?_,fun i ρ' H' e hi=>⟨vs,ws,e.sqT h,e.sqT h',by rw [hl] at hi;omega⟩,fun i ρ' H' st v H2 e s hi y=>?_⟩
 ·rw [hl] at hi
  obtain ⟨v,hv,_⟩:=r.get (List.getElem?_eq_getElem (show i<xs.length by omega))
  obtain ⟨w,hw,_⟩:=r'.get (List.getElem?_eq_getElem (show i<ys.length by omega))
  exact ⟨vs,ws,v,w,e.sqT h,e.sqT h',hv,hw⟩
 ·rw [hl] at hi
  obtain ⟨T,v',w',hT,rfl,rfl,y1,y2⟩:=y
  have k1:i<xs.length:=by omega
  have k2:i<ys.length:=by omega
  obtain ⟨v,hv,rv⟩:=r.get (List.getElem?_eq_getElem k1)
  obtain ⟨w,hw,rw'⟩:=r'.get (List.getElem?_eq_getElem k2)
  have q1:=y1 vs (e.sqT h)
  have q2:=y2 ws (e.sqT h')
  rw [hv] at q1
  rw [hw] at q2
  cases q1;cases q2
  refine ⟨.tup [xs[i],ys[i]],?_,Ext.new hT,s.new hT,R.tup_of ⟨_,[_],rfl,R.ext e _ rv,_,[],rfl,R.ext e _ rw',rfl⟩ hT⟩
  rw [zipP,List.getElem?_map,List.getElem?_eq_getElem (by simp;omega)]
  simp
def zmh (fs:PEnv→Mo (List PV)):PEnv→Mo Sq:=fun env st=>(fs env st).bind zip2
theorem znT {elts:List Expr} {kt:Nat} {tp:Pos} {x y:Expr} (hm:X.mg "zip" = none) (ha:MA X Er [x,y] fs) (hg:Gl X "zip" := by rfl) (hs:starEach [x,y] X.env=[(false,eval x X.env),(false,eval y X.env)]:=by rfl) (hs2:starEach [y] X.env=[(false,eval y X.env)]:=by rfl) :
  MI X Er (.Tuple elts kt tp) (.Call (.Name "zip" p) [x,y] [] pos) (zmh fs) :=
 PI.weak (znF hg hm ha hs hs2) fun σ H Q ⟨env,st,ρ,re,rs,h⟩=>⟨env,st,ρ,re,rs,h.then fun ρ1 H1 xs st1 e1 s1 h1 vs rv=>by
  obtain ⟨ys,zs,rfl,h1⟩:=zkr h1
  obtain ⟨v,w,rfl,⟨a,us,rfl,k1,k2⟩,⟨b,ws,rfl,k3,k4⟩⟩:=Rs.two rv
  exact ⟨a,b,rfl,⟨us,k1⟩,⟨ws,k3⟩,h1.now s1 _ (zks k1 k2 k3 k4)⟩⟩
def whileF (t:PEnv→Mo Bool) (b:PEnv→Mo Fl):Nat→PEnv→Mo Fl
 | 0,_,_=>.stuck
 | n+1,env,st=>(t env st).bind fun c st1=>if c=true then (b env st1).bind fun fl st2=>match fl with
   | .nx e=>whileF t b n e st2
   | .ct e=>whileF t b n e st2
   | .bk e=>.ok (.nx e) st2
   | .rt v=>.ok (.rt v) st2
  else .ok (.nx env) st1
def sWhile (t:PEnv→Mo Bool) (b:PEnv→Mo Fl):PEnv→Mo Fl:=whileF t b lim
theorem zg2 (hp:PassesOwn (model X.prog X.w) X.A X.env X.xe) (hc:MT X Er c ga) (hb:MSs X Er sts gb):MS X Er (.While c sts [] pos) (sWhile ga gb) :=
 PS.weak (zjR hp hc hb) fun D σ H ⟨env,st,ρ,re,rs,h⟩=>by
  refine ⟨fun m σ H=>∃env st ρ,EnvR X.K X.mg ρ H env σ∧StR X.K X.mg ρ H st∧Out X.K X.mg ρ H (whileF ga gb m env st) (gS X.K X.mg D) Er,⟨lim,env,st,ρ,re,rs,h⟩,?_⟩
  rintro m σ H ⟨env,st,ρ,re,rs,h⟩
  cases m with
  | zero=>exact False.elim h
  | succ m =>
   refine ⟨env,st,ρ,re,rs,Out.then h fun ρ1 H1 k st1 e1 s1 h1=>?_⟩
   cases k with
   | true =>
    change (if true=true then _ else D.nx σ H1)
    rw [if_pos rfl]
    refine ⟨_,fun σ' H' p'=>⟨m,Nat.lt_succ_self m,p'⟩,env,st1,ρ1,re.ext e1,s1,Out.then h1 fun ρ3 H3 fl st3 e3 s3 h3=>?_⟩
    cases fl with
    | nx e=>exact fun σ4 r4=>⟨e,st3,ρ3,r4,s3,h3⟩
    | ct e=>exact fun σ4 r4=>⟨e,st3,ρ3,r4,s3,h3⟩
    | bk e=>exact Out.fl (D:=D) (fl:=.nx e) (E:=Er) h3 s3
    | rt v=>exact Out.fl (D:=D) (fl:=.rt v) (E:=Er) h3 s3
   | false =>
    have z:D.nx σ H1:=Out.fl (D:=D) (fl:=.nx env) (E:=Er) h1 s1 σ (re.ext e1)
    exact z
def sRaise (cn fld:Str) (f:PEnv→Mo PV):PEnv→Mo Fl:=fun env st=>(f env st).bind fun x st1=>.err cn [fld] [x] st1
theorem zdp {cn fld:Str} {np cpos:Pos} (C:XOk X.prog X.w X.K X.mg X.base cn fld) (he:ME X Er e fa) (hr:Room 2 X.A) (ht:zaL X Er) (hc:X.calm=true) (hg:Gl X cn:=by rfl) (hdb:(cn==("__debug__" : Str))=false:=by decide)
  (hs:starEach [e] X.env=(false,eval e X.env)::starEach [] X.env:=by rfl):MS X Er (.Raise (some (.Call (.Name cn np) [e] [] cpos)) none pos) (sRaise cn fld fa):=by
 obtain ⟨C,f,fd,hm,M,F,hb⟩:=C
 exact PS.weak (zix he M F hr hg hm hb (zdJ ht) ht.one hc hdb hs) fun D σ H ⟨env,st,ρ,re,rs,h⟩=>⟨env,st,ρ,re,rs,h.then fun ρ1 H1 x st1 e1 s1 h1 v rv d hd=>by
  exact h1 ρ1 _ _ _ (Ext.new hd) (s1.new hd) ⟨C,rfl,hm,.inr ⟨d,[v],rfl,zx,⟨v,[],rfl,R.ext (Ext.new hd) x rv,rfl⟩,rfl⟩⟩⟩
def sRaise0 (cn:Str):PEnv→Mo Fl:=fun _ st=>.err cn [] [] st
def noErr {α:Type}:Res α→Res α
 | .err _ _ _ _=>.stuck
 | r=>r
theorem zb2 {α β:Type} {ρ:List Addr} {H:Hp} {r:Res β} {f:β→Mo α} {good:List Addr→Hp→α→Sto→Prop} {good':List Addr→Hp→β→Sto→Prop} {E E':XK} (h:Out K mg ρ H ((noErr r).bind f) good E) (g:∀ρ' H' x st,Ext ρ H ρ' H'→StR K mg ρ' H' st→Out K mg ρ' H' (f x st) good E→good' ρ' H' x st):Out K mg ρ H r good' E':=by
 cases r with
 | ok x st=>exact fun ρ' H' e s=>g ρ' H' x st e s (Out.ext h e)
 | err=>exact False.elim h
 | stuck=>exact False.elim h
def tMX (K:Frag) (mg:Str→Option Value) (f:PEnv→Mo PV):TX:=fun σ H Q E=>∃env st ρ,EnvR K mg ρ H env σ∧StR K mg ρ H st∧Out K mg ρ H (f env st) (gV K mg Q) E
def MX (X:Cx) (e:Expr) (f:PEnv→Mo PV):Prop:=PX X e (tMX X.K X.mg f)
theorem PX.weak {t t':TX} (h:PX X e t) (w:∀σ H Q E,t' σ H Q E→t σ H Q E):PX X e t':=fun pins s σ H Q E I q=>h pins s σ H Q E I (w σ H Q E q)
def tMethDX (X:Cx) (name:Str) (k:Nat) (ta:TE) (t:TA):TX:=fun σ H Q E=>ta σ H fun x H1=>∃a C dx fs f fd ps sp,x=.ref a∧H1 a=some (.ins C dx fs)∧fs.lookup name=none∧Cls X.K C∧Meth X.K C name f∧Binds X.K fd ps []∧FnOk X.prog X.w X.K X.mg X.base (CXe X.prog X.w) k f fd ps sp ∧
 t σ H1 fun vs H2=>sp (x::vs) H2 Q E
def xMeth (name:Str) (tab:Str→Option (List PV→Mo PV)) (fo:PEnv→Mo PV) (fs:PEnv→Mo (List PV)):PEnv→Mo PV:=fun env st=>(noErr (fo env st)).bind fun o st1=>methAt name tab o st1 fun n m=>(noErr (fs env st1)).bind fun ys st2=>m (.ref n::ys) st2
def kdAt (ks:List Str) (ps:List PV):PV→Mo PV
 | .str z,st=>optR ((ks.zip ps).lookup z) st
 | _,_=>.stuck
def KdF (X:Cx) (name:Str) (ks:List Str) (ps:List PV) (full:Bool):Prop:=∃O,X.mg name=some (.ref O)∧KD X O∧(∀z q,(ks.zip ps).lookup z=some q→∃u v,nsIn X.K O z=some (some u)∧RelV v u∧∀ρ H,R X.K X.mg ρ H q v)∧(full=true→∀z,(ks.zip ps).lookup z=none→nsIn X.K O z=some none)
theorem zo2 {name:Str} {ks:List Str} {ps:List PV} {full:Bool} (F:KdF X name ks ps full) (hb:ME X Er b fb) (hs:PlainIx b:=by exact fun _ _=>rfl) (hg:Gl X name:=by rfl) (hd:(name==("__debug__" : Str))=false:=by decide):ME X Er (.Subscript (.Name name p) b pos) (mUn (kdAt ks ps) fb):=by
 obtain ⟨O,hm,kd,hl,_⟩:=F
 refine PE.weak (znv zoS (zgo (v:=.ref O) hg hm rfl hd) hb hs) fun σ H Q ⟨env,st,ρ,re,rs,h⟩=>⟨env,st,ρ,re,rs,h.then fun ρ1 H1 x st1 e1 s1 h1 v rv=>?_⟩
 cases x with
 | str z =>
  cases rv
  obtain ⟨q,hq,h1⟩:=zbF h1
  obtain ⟨u,v,h2,h3,h4⟩:=hl z q hq
  exact ⟨O,z,u,v,rfl,rfl,kd,h2,h3,h1.now s1 _ (h4 _ _)⟩
 | _=>exact False.elim h1
def kdIn (neg:Bool) (ks:List Str) (ps:List PV) (full:Bool):PV→Mo PV
 | .str z,st=>if ((ks.zip ps).lookup z).isSome=true∨full=true then .ok (.bl (neg.xor ((ks.zip ps).lookup z).isSome)) st else .stuck
 | _,_=>.stuck
theorem zmi {name:Str} {ks:List Str} {ps:List PV} {full:Bool} {O:Addr} (hl:∀z q,(ks.zip ps).lookup z=some q→∃u v,nsIn X.K O z=some (some u)∧RelV v u∧∀ρ H,R X.K X.mg ρ H q v) (hf:full=true→∀z,(ks.zip ps).lookup z=none→nsIn X.K O z=some none) {z:Str} (h:((ks.zip ps).lookup z).isSome=true∨full=true):∃r,nsIn X.K O z=some r∧r.isSome=((ks.zip ps).lookup z).isSome:=by
 cases hq:(ks.zip ps).lookup z with
 | some q=>obtain ⟨u,v,h2,_⟩:=hl z q hq;exact ⟨_,h2,rfl⟩
 | none =>
  rw [hq] at h
  rcases h with h|h
  ·cases h
  ·exact ⟨none,hf h z hq,rfl⟩
theorem ziS {name:Str} {ks:List Str} {ps:List PV} {full:Bool} (F:KdF X name ks ps full) (ha:ME X Er a fa) (hg:Gl X name:=by rfl) (hd:(name==("__debug__" : Str))=false:=by decide) (hk:behindInMarks .NotIn (.Name name p)=false:=by with_unfolding_all rfl):MT X Er (.Compare a [.NotIn] [.Name name p] pos) (mB (mUn (kdIn true ks ps full) fa)):=by
 obtain ⟨O,hm,kd,hl,hf⟩:=F
 refine PT.weak (zia zgu ha (zgo (v:=.ref O) hg hm rfl hd) hk) fun σ H Q h=>?_
 obtain ⟨env,st,ρ,re,rs,h⟩:=zoU h
 refine ⟨env,st,ρ,re,rs,h.then fun ρ1 H1 x st1 e1 s1 h1 v rv=>?_⟩
 cases x with
 | str z =>
  cases rv
  obtain ⟨q,h1⟩:=Out.ifp h1
  obtain ⟨r,h2,h3⟩:=zmi (name:=name) hl hf q
  have:=Out.now h1 s1 _ rfl
  exact ⟨O,z,r,rfl,rfl,kd,h2,by rw [h3];simpa using this⟩
 | _=>exact False.elim h1
def oAppend:PV→PV→Mo PV
 | .ref n,y,st=>withL st n fun xs=>if xs.length<lim then .ok .non (st.set n (.lst (xs++[y]))) else .stuck
 | _,_,_=>.stuck
def oExtend:PV→PV→Mo PV
 | .ref n,.ref k,st=>withL st n fun xs=>withL st k fun ys=>if xs.length+ys.length≤lim then .ok .non (st.set n (.lst (xs++ys))) else .stuck
 | _,_,_=>.stuck
theorem R.refL {ρ:List Addr} {H:Hp} {st:Sto} {n:Nat} {xs:List PV} {v:V} (s:StR K mg ρ H st) (r:R K mg ρ H (.ref n) v) (h:st[n]?=some (.lst xs)):∃a vs,v=.ref a∧ρ[n]?=some a∧H a=some (.lst vs)∧Rs K mg ρ H xs vs:=by
 obtain ⟨a,rfl,ha⟩:=r
 obtain ⟨vs,h1,h2⟩:=s.addr h ha
 exact ⟨a,vs,rfl,ha,h1,h2⟩
def recL:PV→Mo PV
 | .ref n,st=>withL st n fun _=>.ok (.ref n) st
 | _,_=>.stuck
def mMut (op:PV→PV→Mo PV) (fo fv:PEnv→Mo PV):PEnv→Mo PV:=fun env st=>(fo env st).bind fun o st1=>(recL o st1).bind fun o st1=>(fv env st1).bind fun y st2=>op o y st2
theorem zg3 {α:Type} {ρ:List Addr} {H:Hp} {x:PV} {st:Sto} {f:PV→Mo α} {good:List Addr→Hp→α→Sto→Prop} (h:Out K mg ρ H ((recL x st).bind f) good Er):∃n xs,x=.ref n∧st[n]?=some (.lst xs)∧Out K mg ρ H (f (.ref n) st) good Er:=by
 cases x with
 | ref n =>
  unfold recL withL at h
  cases hn:st[n]? with
  | none=>simp only [hn] at h;exact False.elim h
  | some so =>
   cases so with
   | lst xs=>simp only [hn] at h;exact ⟨n,xs,rfl,hn,h⟩
   | _=>simp only [hn] at h;exact False.elim h
 | _=>exact False.elim h
theorem zfg {cpos:Pos} (ho:ME X Er o fo) (he:ME X Er e fa) (hbase:attributeBase o "append" X.env (eval o X.env)=eval o X.env:=by rfl)
  (hfew:((backTo cpos (starEach [e] X.env)).all (fun x=>!x.1)&&(backToKw cpos (keywordEach [] X.env)).all (fun x=>x.1.isSome)&&decide ([e].length+([]:List Keyword).length+(if ([]:List Keyword).isEmpty then 0 else 1)<30))=true:=by rfl)
  (hline:(apos.endLine==cpos.line)=true:=by rfl) (hs:starEach [e] X.env=(false,eval e X.env)::starEach [] X.env:=by rfl) (hpl:(backTo cpos (starEach [] X.env)).any (·.1)=false:=by rfl):ME X Er (.Call (.Attribute o "append" apos) [e] [] cpos) (mMut oAppend fo fa) :=
 PE.weak (znz PySem.F.plainAttrs_list PySem.F.slot_list_append PySem.F.type_list_append zik ho (zgr he zig hs) hbase hfew hline hs hpl) fun σ H Q ⟨env,st,ρ,re,rs,h⟩=>⟨env,st,ρ,re,rs,h.then fun ρ1 H1 x st1 e1 s1 h1 v rv=>by
  obtain ⟨n,xs,rfl,hn,h1⟩:=zg3 h1
  obtain ⟨p,vs,rfl,hp,k1,k2⟩:=R.refL s1 rv hn
  refine ⟨.inl ⟨rfl,vs,SqL.of k1⟩,env,st1,ρ1,re.ext e1,s1,h1.then fun ρ2 H2 y st2 e2 s2 h2 w rw=>?_⟩
  obtain ⟨xs2,hn2,h2⟩:=zE h2
  obtain ⟨c,h2⟩:=Out.ifp h2
  obtain ⟨p',vs2,e3,hp2,k3,k4⟩:=R.refL s2 (R.ext e2 _ rv) hn2
  cases e3
  have ew:Ext ρ2 H2 ρ2 (upd H2 p (.lst (vs2++[w]))):=Ext.write k3 rfl
  refine ⟨p,vs2,w,rfl,rfl,k3,?_,h2 ρ2 _ ew (s2.write hp2 ew ⟨vs2++[w],zx,Rs.ext ew _ (k4.append ⟨w,[],rfl,rw,rfl⟩)⟩) _ rfl⟩
  rw [←k4.len,sizeLine_eq];have:xs2.length<1000000:=c;omega⟩
theorem zkt {cpos:Pos} (ho:ME X Er o fo) (he:ME X Er e fa) (hbase:attributeBase o "extend" X.env (eval o X.env)=eval o X.env:=by rfl)
  (hfew:((backTo cpos (starEach [e] X.env)).all (fun x=>!x.1)&&(backToKw cpos (keywordEach [] X.env)).all (fun x=>x.1.isSome)&&decide ([e].length+([]:List Keyword).length+(if ([]:List Keyword).isEmpty then 0 else 1)<30))=true:=by rfl)
  (hline:(apos.endLine==cpos.line)=true:=by rfl) (hs:starEach [e] X.env=(false,eval e X.env)::starEach [] X.env:=by rfl) (hpl:(backTo cpos (starEach [] X.env)).any (·.1)=false:=by rfl):ME X Er (.Call (.Attribute o "extend" apos) [e] [] cpos) (mMut oExtend fo fa) :=
 PE.weak (znz PySem.F.plainAttrs_list PySem.F.slot_list_extend PySem.F.type_list_extend zil ho (zgr he zig hs) hbase hfew hline hs hpl) fun σ H Q ⟨env,st,ρ,re,rs,h⟩=>⟨env,st,ρ,re,rs,h.then fun ρ1 H1 x st1 e1 s1 h1 v rv=>by
  obtain ⟨n,xs,rfl,hn,h1⟩:=zg3 h1
  obtain ⟨p,vs,rfl,hp,k1,k2⟩:=R.refL s1 rv hn
  refine ⟨.inl ⟨rfl,vs,SqL.of k1⟩,env,st1,ρ1,re.ext e1,s1,h1.then fun ρ2 H2 y st2 e2 s2 h2 w rw=>?_⟩
  cases y with
  | ref m =>
   obtain ⟨xs2,hn2,h2⟩:=zE h2
   obtain ⟨ys2,hm2,h2⟩:=zE h2
   obtain ⟨c,h2⟩:=Out.ifp h2
   obtain ⟨p',vs2,e3,hp2,k3,k4⟩:=R.refL s2 (R.ext e2 _ rv) hn2
   cases e3
   obtain ⟨q,ws2,rfl,hq2,k5,k6⟩:=R.refL s2 rw hm2
   have ew:Ext ρ2 H2 ρ2 (upd H2 p (.lst (vs2++ws2))):=Ext.write k3 rfl
   exact ⟨p,q,vs2,ws2,rfl,rfl,k3,k5,by rw [←k4.len,←k6.len];exact zR c,h2 ρ2 _ ew (s2.write hp2 ew ⟨vs2++ws2,zx,Rs.ext ew _ (k4.append k6)⟩) _ rfl⟩
  | _=>exact False.elim h2⟩
end
def endOf:Fl→Mo PV
 | .rt v,st=>.ok v st
 | .nx _,st=>.ok .non st
 | _,_=>.stuck
def mirror (np nN:Nat) (g:PEnv→Mo Fl):List PV→Mo PV:=fun xs st=>if xs.length=np then (g (xs.map some++List.replicate (nN-np) none) st).bind endOf else .stuck
section
variable {P:Program} {w:World} {K:Frag} {mg:Str→Option Value} {base:Heap}
abbrev cxD (P:Program) (w:World) (K:Frag) (mg:Str→Option Value) (base:Heap) (N:List Str) (qual:Str) (scope:Scope) (f:Addr) (cd:Value) (A:Around) (outer:List Env) (s:Shared) (H:Hp) (E:XK):Cx :=
 (cxOf (CXe P w) P w K mg base N qual scope f cd A outer s H E).wish (XA (cxOf (CXe P w) P w K mg base N qual scope f cd A outer s H E) E)
theorem zmj {N:List Str} {np:Nat} {ρ:List Addr} {H:Hp} {xs:List PV} {vs:List V} (r:Rs K mg ρ H xs vs) (h:xs.length=np):EnvR K mg ρ H (xs.map some++List.replicate (N.length-np) none) (L2.start N vs):=by
 have hl:=r.len
 refine ⟨by simp [L2.start,←hl,h],fun i x hx=>?_⟩
 by_cases hi:i<xs.length
 ·rw [List.getElem?_append_left (by simpa using hi)] at hx
  simp only [List.getElem?_map] at hx
  cases hq:xs[i]? with
  | none=>rw [hq] at hx;cases hx
  | some y =>
   rw [hq] at hx
   cases hx
   obtain ⟨v,hv,rv⟩:=r.get hq
   refine ⟨v,?_,rv⟩
   unfold L2.start
   rw [List.getElem?_append_left (by simp;omega)]
   simp [hv]
 ·rw [List.getElem?_append_right (by simpa using hi)] at hx
  rw [List.getElem?_replicate] at hx
  split at hx<;>cases hx
theorem zg4 {x qual:Str} {sm:Stmt} {f:Addr} {fd:FuncData} {N ps:List Str} {k:Nat} {g:PEnv→Mo Fl} (F:Fun K x qual sm f fd) (S:FnScope N ps (defScope sm))
  (hb:∀(cdv:Value) (A:Around) (outer:List Env) (s:Shared) (H:Hp) (E:XK),Room k (A.deeper (PyProof.Rows.envOfC qual (defScope sm) s.heap.objs.size f cdv))→MSs (cxD P w K mg base N qual (defScope sm) f cdv A outer s H E) E (defBody sm) g) :
  FnOk P w K mg base (CXe P w) (k+1) f fd ps (spM K mg (mirror ps.length N.length g)):=by
 refine F.okT S (fun vs H Q E h=>?_) fun cdv A outer s H vs Q E hr h=>⟨_,hb cdv A outer s H E hr,?_⟩
 ·obtain ⟨xs,st,ρ,r,_,h⟩:=h
  obtain ⟨hl,_⟩:=Out.ifp h
  rw [←r.len];exact hl
 ·obtain ⟨xs,st,ρ,r,rs,h⟩:=h
  obtain ⟨hl,h⟩:=Out.ifp h
  refine ⟨_,st,ρ,zmj r hl,rs,h.then fun ρ1 H1 fl st1 e1 s1 h1=>?_⟩
  cases fl with
  | rt v=>exact fun u ru=>Out.now (x:=v) h1 s1 u ru
  | nx e=>exact fun σ' _=>Out.now (x:=PV.non) h1 s1 _ rfl
  | _=>exact False.elim h1
theorem fok {x:Str} {f:Addr} {fd:FuncData} {ps:List Str} {k:Nat} {m:List PV→Mo PV} {sm:Stmt} {qual nm:Str} (hm:mg x=some (.ref f)) (F:Fun K nm qual sm f fd) (hb:Binds K fd ps []) (h:FnOk P w K mg base (CXe P w) k f fd ps (spM K mg m)):FOk P w K mg base x k m:=⟨f,fd,ps,hm,F.kp,hb,h⟩
end
end Mi
namespace Mi
open PySem L2 PySem.W PySem.Spec
section
variable {X:Cx} {Er:XK} {P:Program} {w:World} {K:Frag} {mg:Str→Option Value} {base:Heap} {pos:Pos} {x:Str} {st:Stmt}
theorem zp {k:Nat} {A:Around} (hr:Room k A):A.units+200<cLine:=by have:=hr.un;omega
def sStuck:PEnv→Mo Fl:=fun _ _=>.stuck
theorem zfh {n:Int} (h:∃t,X.mg x=some (.int n t)) (hg:Gl X x:=by rfl) (hd:(x==("__debug__" : Str))=false:=by decide):ME X Er (.Name x pos) (mC (.int n)):=let ⟨t,h⟩:=h;zlU (v:=.int n) h ⟨t,rfl⟩ (fun _ _=>rfl) hg hd
def FnF (K:Frag) (mg:Str→Option Value) (x:Str) (sm:Stmt) (ps:List Str):Prop:=∃f fd,mg x=some (.ref f)∧Fun K x x sm f fd∧Binds K fd ps []
def MtF (K:Frag) (mg:Str→Option Value) (c name qual:Str) (sm:Stmt) (ps:List Str):Prop:=∃C f fd,mg c=some (.ref C)∧Cls K C∧Meth K C name f∧Fun K name qual sm f fd∧Binds K fd ps []
def NwF (K:Frag) (mg:Str→Option Value) (c qual:Str) (sm:Stmt) (ps:List Str):Prop:=∃C f fd,mg c=some (.ref C)∧Mk K C f∧Fun K "__init__" qual sm f fd∧Binds K fd ps []
def XnF (K:Frag) (mg:Str→Option Value) (c fld qual:Str) (sm:Stmt):Prop:=∃C f fd,mg c=some (.ref C)∧ExMk K C f∧ExCls K C fld∧Fun K "__init__" qual sm f fd∧Binds K fd ["self", fld] []
theorem FnF.ok {sm:Stmt} {N ps:List Str} {k:Nat} {g:PEnv→Mo Fl} (h:FnF K mg x sm ps) (S:FnScope N ps (defScope sm))
  (hb:∀(f:Addr) (cdv:Value) (A:Around) (outer:List Env) (s:Shared) (H:Hp) (E:XK),Room k (A.deeper (PyProof.Rows.envOfC x (defScope sm) s.heap.objs.size f cdv))→MSs (cxD P w K mg base N x (defScope sm) f cdv A outer s H E) E (defBody sm) g) :
  FOk P w K mg base x (k+1) (mirror ps.length N.length g):=by
 obtain ⟨f,fd,hm,F,b⟩:=h
 exact fok hm F b (zg4 F S (hb f))
theorem MtF.ok {c name qual:Str} {sm:Stmt} {N ps:List Str} {k:Nat} {g:PEnv→Mo Fl} (h:MtF K mg c name qual sm ps) (S:FnScope N ps (defScope sm))
  (hb:∀(f:Addr) (cdv:Value) (A:Around) (outer:List Env) (s:Shared) (H:Hp) (E:XK),Room k (A.deeper (PyProof.Rows.envOfC qual (defScope sm) s.heap.objs.size f cdv))→MSs (cxD P w K mg base N qual (defScope sm) f cdv A outer s H E) E (defBody sm) g) :
  MOk P w K mg base c name (k+1) (mirror ps.length N.length g):=by
 obtain ⟨C,f,fd,hm,cl,mt,F,b⟩:=h
 exact ⟨C,f,fd,ps,hm,cl,mt,b,zg4 F S (hb f)⟩
theorem NwF.ok {c qual:Str} {sm:Stmt} {N ps:List Str} {k:Nat} {g:PEnv→Mo Fl} (h:NwF K mg c qual sm ps) (S:FnScope N ps (defScope sm))
  (hb:∀(f:Addr) (cdv:Value) (A:Around) (outer:List Env) (s:Shared) (H:Hp) (E:XK),Room k (A.deeper (PyProof.Rows.envOfC qual (defScope sm) s.heap.objs.size f cdv))→MSs (cxD P w K mg base N qual (defScope sm) f cdv A outer s H E) E (defBody sm) g) :
  NOk P w K mg base c (k+1) (mirror ps.length N.length g):=by
 obtain ⟨C,f,fd,hm,mk,F,b⟩:=h
 exact ⟨C,f,fd,ps,hm,mk,b,zg4 F S (hb f)⟩
theorem XnF.ok {c fld qual:Str} {sm:Stmt} (h:XnF K mg c fld qual sm) (S:FnScope ["self", fld] ["self", fld] (defScope sm))
  (hb:∀(C f:Addr) (cdv:Value) (A:Around) (outer:List Env) (s:Shared) (H:Hp) (E:XK),ExCls K C fld→PSs (cxOf (CXe P w) P w K mg base ["self", fld] qual (defScope sm) f cdv A outer s H E) (defBody sm) (sFldE K (tVar 0) (tVar 1) fld)) :
  XOk P w K mg base c fld:=by
 obtain ⟨C,f,fd,hm,M,xc,F,b⟩:=h
 refine ⟨C,f,fd,hm,M,F.okX S (fun vs H Q E h=>?_) (fun cdv A outer s H vs Q E hr h=>⟨_,hb C f cdv A outer s H E xc,?_⟩),b⟩
 ·obtain ⟨a,t,y,rfl,_⟩:=h;rfl
 ·obtain ⟨a,t,y,rfl,ha,q⟩:=h
  exact ⟨y,rfl,.ref a,rfl,a,C,t,rfl,ha,xc,fun d hd=>q d hd⟩
theorem XnF.tr {c fld qual:Str} {sm:Stmt} (h:XnF K mg c fld qual sm):∃C,mg c=some (.ref C)∧ExOf K C:=by
 obtain ⟨C,f,fd,hm,M,_⟩:=h
 exact ⟨C,hm,M.of⟩
theorem zk9 {p:Addr} {oc:Value} {od:Option Addr} {its:Array Value} {n:Nat} {sl:Array (Option Value)} {xs:List PV} {vs:List V} (hl:K.lookup p=some ⟨oc,od,.seq its n,sl⟩) (hc:oc=.type "tuple") (hz:its.size≤1000) (hv:Vals vs its.toList) (hr:∀ρ H,Rs K mg ρ H xs vs):∀ρ H,R K mg ρ H (.tup xs) (.ref p) :=
 fun ρ H=>⟨p,vs,rfl,.inr ⟨_,its,n,hl,hc,rfl,by rw [sizeLine_eq];omega,hv⟩,hr ρ H⟩
theorem zbG:bootBuiltins "len" = some (.builtin "len"):=by decide +kernel
theorem zA:bootBuiltins "isinstance" = some (.builtin "isinstance"):=by decide +kernel
theorem zfP:bootBuiltins "int" = some (.type "int"):=by decide +kernel
theorem zmk:bootBuiltins "bool" = some (.type "bool"):=by decide +kernel
theorem zla:bootBuiltins "str" = some (.type "str"):=by decide +kernel
theorem zaE:bootBuiltins "tuple" = some (.type "tuple"):=by decide +kernel
theorem ziT:bootBuiltins "dict" = some (.type "dict"):=by decide +kernel
theorem ziU:bootBuiltins "list" = some (.type "list"):=by decide +kernel
end
end Mi
namespace Mi
open PySem L2 PySem.W PySem.Spec
theorem FOk.mono {P:Program} {w:World} {K:Frag} {mg:Str→Option Value} {base:Heap} {x:Str} {j k:Nat} {m:List PV→Mo PV} (h:FOk P w K mg base x j m) (hjk:j≤k):FOk P w K mg base x k m:=by
 obtain ⟨f,fd,ps,h1,h2,h3,h4⟩:=h
 exact ⟨f,fd,ps,h1,h2,h3,h4.mono hjk⟩
theorem MOk.mono {P:Program} {w:World} {K:Frag} {mg:Str→Option Value} {base:Heap} {c x:Str} {j k:Nat} {m:List PV→Mo PV} (h:MOk P w K mg base c x j m) (hjk:j≤k):MOk P w K mg base c x k m:=by
 obtain ⟨C,f,fd,ps,h1,h2,h3,h4,h5⟩:=h
 exact ⟨C,f,fd,ps,h1,h2,h3,h4,h5.mono hjk⟩
end Mi
namespace Mi
open PySem L2 PySem.W PySem.Spec
def spLaw (K:Frag):Sp:=fun vs H Q _=>∃(a:Addr) (ns:List Int),vs=[.ref a]∧SqL K H a (ns.map V.int)∧Only H∧ns.length≤63∧∀H',Q (.bl true) H'
theorem ziV {K:Frag} {mg:Str→Option Value} {ρ:List Addr} {H:Hp}:∀ns:List Int,Rs K mg ρ H (ns.map PV.int) (ns.map V.int)
 | []=>rfl
 | n::ns=>⟨_,_,rfl,rfl,ziV ns⟩
theorem znU {K:Frag} {H:Hp} {a:Addr} {vs:List V} (h:SqL K H a vs) (o:Only H):FrL K H a vs:=by
 rcases h with (h|⟨ob,h⟩)|h
 ·rcases o a with z|⟨ob,xs,z⟩
  ·rw [h] at z;cases z
  ·rw [h] at z;cases z
 ·exact .inl ⟨ob,h⟩
 ·exact .inr h
theorem zml {P:Program} {w:World} {K:Frag} {mg:Str→Option Value} {base:Heap} {k:Nat} {f:Addr} {fd:FuncData} {ps:List Str} {m:List PV→Mo PV} (F:FnOk P w K mg base (CXe P w) k f fd ps (spM K mg m)) (h:∀ns:List Int,ns.length≤63→∃st,m [.frl (ns.map PV.int)] []=.ok (.bl true) st):FnOk P w K mg base (CXe P w) k f fd ps (spLaw K) :=
 F.imp fun vs H Q E ⟨a,ns,e,hs,ho,hl,q⟩=>by
  subst e
  obtain ⟨st,hm⟩:=h ns hl
  refine ⟨[.frl (ns.map PV.int)],[],[],⟨_,[],rfl,⟨a,_,rfl,znU hs ho,ziV ns⟩,rfl⟩,⟨rfl,List.nodup_nil,fun n so e=>by simp at e⟩,?_⟩
  rw [hm]
  intro ρ' H' _ _ v rv
  cases rv
  exact q H'
theorem walkM {l:PySem.W.OpenLaw} {k:Nat} {x:Str} {q:Program} {loose:List Str} {XP:(Str→Option Value)→Heap→Prop} {YP:World→Heap→Prop} {d:DefRec} {K:Params→PySem.W.Frag} (hn:l.most=some 63) (hdf:d.params.defaults=[]) (hr:Room k callerA)
  (hY:∀(w:World) (h:Heap),YP w h→(K w.params).In h)
  (F:∀(w:World) (mg:Str→Option Value) (fa:Addr) (h:Heap),(K w.params).In h→h.Ns mainGlobals mg→mg d.name=some (.ref fa) →
   ∃fd:FuncData,(∀(s:Shared) (u:Value),BindsTo s fd ⟨[u],[]⟩ [(x,u)])∧∀base:Heap,(K w.params).In base→base.Ns mainGlobals mg→FnOk l.prog w (K w.params) mg base (CXe l.prog w) k fa fd [x] (spLaw (K w.params))) :
  PySem.W.WalkO q loose XP YP l.row.toRowW d [] (fun f vs=>PySem.call f vs) :=
 L2.zlK (n:=63) (k:=k) (x:=x) (CX:=fun w=>CXe l.prog w) (sp:=fun w=>spLaw (K w.params)) hn (by decide) hdf hr hY F (fun _ _ a ns hl ho hS=>⟨a,ns,rfl,hS,ho,hl,fun _=>rfl⟩) fun w H s e s' ⟨_,_,_,_,_,_,_,_,_,_,_,_,_,_,_,z⟩=>z
end Mi
namespace Mi
open PySem L2 PySem.W PySem.Spec
section
variable {α β:Type} {env:PEnv} {st st1:Sto} {fa fb fc fo fv:PEnv→Mo PV} {fs:PEnv→Mo (List PV)} {ga gb:PEnv→Mo Bool} {g g':PEnv→Mo Fl} {op op':PV→PV→Mo PV} {o1:PV→Mo PV} {m:List PV→Mo PV}
@[simp] theorem zk (a:α) (f:α→Mo β):(Res.ok a st).bind f=f a st:=(rfl)
@[simp] theorem zoy (c:Str) (ks:List Str) (xs:List PV) (f:α→Mo β):(Res.err c ks xs st:Res α).bind f=.err c ks xs st:=(rfl)
@[simp] theorem zmX (f:α→Mo β):(Res.stuck:Res α).bind f=.stuck:=(rfl)
@[simp] theorem zoz (p:Prop) [Decidable p] (a b:Res α) (f:α→Mo β):(if p then a else b).bind f=if p then a.bind f else b.bind f:=by split<;>rfl
@[simp] theorem zco (i:Nat):mVar i env st=(match env[i]? with|some (some x)=>.ok x st|_=>.stuck):=(rfl)
@[simp] theorem zjN (x:PV):mC x env st=.ok x st:=(rfl)
@[simp] theorem ziW:mOp op fa fb env st=(fa env st).bind fun x st1=>(fb env st1).bind fun y st2=>op x y st2:=(rfl)
@[simp] theorem zqh:mUn o1 fa env st=(fa env st).bind o1:=(rfl)
@[simp] theorem zqi:mB fa env st=(fa env st).bind asB:=(rfl)
@[simp] theorem zqj (b:Bool):asB (.bl b) st=.ok b st:=(rfl)
@[simp] theorem zo3:mChain op op' fa fb fc env st=(fa env st).bind fun x st1=>(fb env st1).bind fun y st2=>(op x y st2).bind fun k st3=>(asB k st3).bind fun b st4=>if b=true then (fc env st4).bind fun z st5=>op' y z st5 else .ok (.bl false) st4:=(rfl)
@[simp] theorem zpD:bAnd ga gb env st=(ga env st).bind fun c st1=>if c=true then gb env st1 else .ok false st1:=(rfl)
@[simp] theorem zqk:bOr ga gb env st=(ga env st).bind fun c st1=>if c=true then .ok true st1 else gb env st1:=(rfl)
@[simp] theorem zpE:bNot ga env st=(ga env st).bind fun c st1=>.ok (!c) st1:=(rfl)
@[simp] theorem znV:mAnd fa fb env st=(fa env st).bind fun x st1=>(asB x st1).bind fun c st2=>if c=true then fb env st2 else .ok (.bl false) st2:=(rfl)
@[simp] theorem zql:mOr fa fb env st=(fa env st).bind fun x st1=>(asB x st1).bind fun c st2=>if c=true then .ok (.bl true) st2 else fb env st2:=(rfl)
@[simp] theorem zpF:mNot fa env st=(fa env st).bind fun x st1=>(asB x st1).bind fun c st2=>.ok (.bl (!c)) st2:=(rfl)
@[simp] theorem zqm:mIf ga fa fb env st=(ga env st).bind fun c st1=>if c=true then fa env st1 else fb env st1:=(rfl)
@[simp] theorem zcp:aNil env st=.ok [] st:=(rfl)
@[simp] theorem zaM:aCons fa fs env st=(fa env st).bind fun x st1=>(fs env st1).bind fun xs st2=>.ok (x::xs) st2:=(rfl)
@[simp] theorem zpG:mTup fs env st=(fs env st).bind fun xs st1=>if xs.length≤lim then .ok (.tup xs) st1 else .stuck:=(rfl)
@[simp] theorem ziX:mLst fs env st=(fs env st).bind fun xs st1=>if xs.length≤lim then .ok (.ref st1.length) (st1++[.lst xs]) else .stuck:=(rfl)
@[simp] theorem zqn (fl fu:PEnv→Mo (Option Int)):mSl fa fl fu env st=(fa env st).bind fun x st1=>(fl env st1).bind fun l st2=>(fu env st2).bind fun u st3=>oSl x l u st3:=(rfl)
@[simp] theorem zo4:pNone env st=.ok none st:=(rfl)
@[simp] theorem zo5:pSome fa env st=(fa env st).bind asI:=(rfl)
@[simp] theorem zqo (i:Int):asI (.int i) st=.ok (some i) st:=(rfl)
@[simp] theorem zbn:mCall m fs env st=(fs env st).bind m:=(rfl)
@[simp] theorem zmm (C:Int→Int→Bool) (f:Int→Int→Int) (i j:Int):opI C f (.int i) (.int j) st=if C i j=true then .ok (.int (f i j)) st else .stuck:=(rfl)
@[simp] theorem zqp (f:Int→Int→Bool) (i j:Int):opB f (.int i) (.int j) st=.ok (.bl (f i j)) st:=(rfl)
@[simp] theorem zpH (i:Int):oNeg (.int i) st=.ok (.int (-i)) st:=(rfl)
@[simp] theorem zpI (i j:Int):oAdd (.int i) (.int j) st=.ok (.int (i+j)) st:=(rfl)
@[simp] theorem znW (x y:Str):oAdd (.str x) (.str y) st=if x.length+y.length≤lim then .ok (.str (x++y)) st else .stuck:=(rfl)
@[simp] theorem zpJ (xs ys:List PV):oAdd (.tup xs) (.tup ys) st=if xs.length+ys.length≤lim then .ok (.tup (xs++ys)) st else .stuck:=(rfl)
@[simp] theorem zpK (x:PV):optR (some x) st=.ok x st:=(rfl)
@[simp] theorem zqq (xs:List PV) (l u:Option Int):oSl (.frl xs) l u st=.ok (.ref st.length) (st++[.lst (cutP xs l u)]):=(rfl)
@[simp] theorem zpL (xs:List PV):oLen [.tup xs] st=.ok (.int xs.length) st:=(rfl)
@[simp] theorem zpM (xs:List PV):oLen [.frl xs] st=.ok (.int xs.length) st:=(rfl)
@[simp] theorem zpN (n:Nat):oLen [.ref n] st=withL st n fun xs=>.ok (.int xs.length) st:=(rfl)
@[simp] theorem zpO (k:Bool):oInt [.bl k] st=.ok (.int (if k then 1 else 0)) st:=(rfl)
@[simp] theorem zeL (x y:PV):oEq x y st=if plain x=true∧plain y=true∧dep x≤150 then .ok (.bl (eqP x y)) st else .stuck:=(rfl)
@[simp] theorem zqr (x y:PV):oNe x y st=if plain x=true∧plain y=true∧dep x≤150 then .ok (.bl (!eqP x y)) st else .stuck:=(rfl)
@[simp] theorem zo6:sNext env st=.ok (.nx env) st:=(rfl)
@[simp] theorem zG:sSeq g g' env st=(g env st).bind (flowOn g'):=(rfl)
@[simp] theorem zy:flowOn g (.nx env) st=g env st:=(rfl)
@[simp] theorem zo7 (x:PV):flowOn g (.rt x) st=.ok (.rt x) st:=(rfl)
@[simp] theorem zbH (i:Nat):sSet i fa env st=(fa env st).bind fun x st1=>.ok (.nx (env.set i (some x))) st1:=(rfl)
@[simp] theorem zo8:sExpr fa env st=(fa env st).bind fun _ st1=>.ok (.nx env) st1:=(rfl)
@[simp] theorem zg5:sRet fa env st=(fa env st).bind fun x st1=>.ok (.rt x) st1:=(rfl)
@[simp] theorem zo9:sIf ga g g' env st=(ga env st).bind fun c st1=>if c=true then g env st1 else g' env st1:=(rfl)
@[simp] theorem zoA (c f:Str):sRaise c f fa env st=(fa env st).bind fun x st1=>.err c [f] [x] st1:=(rfl)
@[simp] theorem zpa (gt:PV→PEnv→Option PEnv):sTo gt fa env st=(fa env st).bind fun x st1=>match gt x env with|some env'=>.ok (.nx env') st1|none=>.stuck:=(rfl)
@[simp] theorem zqw (i j:Nat) (x y:PV):g2 i j (.tup [x,y]) env=some ((env.set i (some x)).set j (some y)):=(rfl)
@[simp] theorem zqx (i:Nat) (x:PV):gN i x env=some (env.set i (some x)):=(rfl)
@[simp] theorem zpP (x:PV):endOf (.rt x) st=.ok x st:=(rfl)
@[simp] theorem zpQ (e:PEnv):endOf (.nx e) st=.ok .non st:=(rfl)
@[simp] theorem zpR (i:Nat):sAug i op fa env st=(mVar i env st).bind fun x st0=>(fa env st0).bind fun y st1=>(op x y st1).bind fun z st2=>.ok (.nx (env.set i (some z))) st2:=(rfl)
@[simp] theorem zpb (i j:Int):ipAdd (.int i) (.int j) st=.ok (.int (i+j)) st:=(rfl)
@[simp] theorem zpS:iVal fa env st=(fa env st).bind seqOf:=(rfl)
@[simp] theorem zpT (xs:List PV):seqOf (.tup xs) st=.ok (.im xs) st:=(rfl)
@[simp] theorem zpU (n:Nat):seqOf (.ref n) st=withL st n fun _=>.ok (.rf n) st:=(rfl)
@[simp] theorem zpc:zmh fs env st=(fs env st).bind zip2:=(rfl)
@[simp] theorem zpV (xs ys:List PV):zip2 [.tup xs,.tup ys] st=.ok (.im (zipP xs ys)) st:=(rfl)
@[simp] theorem znX (src:PEnv→Mo Sq) (gt:PV→PEnv→Option PEnv):sFor src gt g env st=(src env st).bind fun q st1=>forS gt g q env st1:=(rfl)
@[simp] theorem zpW (gt:PV→PEnv→Option PEnv) (xs:List PV):forS gt g (.im xs) env st=forL gt g xs env st:=(rfl)
@[simp] theorem znY (i:Int):Mi.plain (.int i)=true:=(rfl)
@[simp] theorem znZ (x:Str):Mi.plain (.str x)=true:=(rfl)
@[simp] theorem zpd (i:Int):dep (.int i)=0:=(rfl)
@[simp] theorem zpe (x:Str):dep (.str x)=0:=(rfl)
@[simp] theorem zpX (a b:Int):eqP (.int a) (.int b)=(a==b):=(rfl)
@[simp] theorem zpY (a b:Str):eqP (.str a) (.str b)=(a==b):=(rfl)
@[simp] theorem zpZ (xs ys:List PV):eqP (.tup xs) (.tup ys)=eqPs xs ys:=(rfl)
@[simp] theorem zpf:eqPs [] []=true:=(rfl)
@[simp] theorem zpg (x y:PV) (xs ys:List PV):eqPs (x::xs) (y::ys)=(eqP x y&&eqPs xs ys):=(rfl)
@[simp] theorem zdq (a:α):noErr (Res.ok a st)=.ok a st:=(rfl)
@[simp] theorem zn0:isNon .non=true:=(rfl)
@[simp] theorem zph (name:Str) (tab:Str→Option (List PV→Mo PV)):xMeth name tab fo fs env st=(noErr (fo env st)).bind fun o st1=>methAt name tab o st1 fun n m=>(noErr (fs env st1)).bind fun ys st2=>m (.ref n::ys) st2:=(rfl)
@[simp] theorem zpi (name:Str) (tab:Str→Option (List PV→Mo PV)):mMeth name tab fo fs env st=(fo env st).bind fun o st1=>methAt name tab o st1 fun n m=>(fs env st1).bind fun ys st2=>m (.ref n::ys) st2:=(rfl)
theorem zn {n:Nat} {xs:List PV} (h:st[n]?=some (.lst xs)) (k:List PV→Res α):withL st n k=k xs:=by unfold withL;rw [h]
theorem zaa {n:Nat} {c:Str} {ks:List Str} {xs:List PV} (h:st[n]?=some (.ins c ks xs)) (k:Str→List Str→List PV→Res α):withI st n k=k c ks xs:=by unfold withI;rw [h]
@[simp] theorem zn1 (xs:List PV) (k:List PV→Res α):withL (st++[.lst xs]) st.length k=k xs:=zn (by simp) k
theorem zau {name:Str} {tab:Str→Option (List PV→Mo PV)} {n:Nat} {c:Str} {ks:List Str} {xs:List PV} {m:List PV→Mo PV} (h:st[n]?=some (.ins c ks xs)) (hk:name∉ks) (ht:tab c=some m) (k:Nat→(List PV→Mo PV)→Res PV):methAt name tab (.ref n) st k=k n m:=by
 unfold methAt
 simp only [zaa h,if_neg hk,ht]
@[simp] theorem zcq (f:Str) (i x:Str→Bool) (n:Nat):fldAt f i x (.ref n) st=withI st n fun c ks xs=>if i c=true then optR ((ks.zip xs).lookup f) st else .stuck:=(rfl)
@[simp] theorem zp0 (ks:List Str) (ps:List PV) (z:Str):kdAt ks ps (.str z) st=optR ((ks.zip ps).lookup z) st:=(rfl)
@[simp] theorem zpj (tab:Str→Option (List PV→Mo PV)):mCallV tab fa fs env st=(fa env st).bind fun f st1=>match f with | .fn x=>(match tab x with|some m=>(fs env st1).bind m|none=>.stuck)|_=>.stuck:=(rfl)
@[simp] theorem zp1 (f:Str) (i:Str→Bool):Mi.sFld f i fo fv env st=(fv env st).bind fun x st1=>(fo env st1).bind fun o st2=>(putAt f i x o st2).bind fun _ st3=>.ok (.nx env) st3:=(rfl)
@[simp] theorem zp2:mMut op fo fv env st=(fo env st).bind fun o st1=>(recL o st1).bind fun o st1=>(fv env st1).bind fun y st2=>op o y st2:=(rfl)
@[simp] theorem zp3 (n:Nat):recL (.ref n) st=withL st n fun _=>.ok (.ref n) st:=(rfl)
@[simp] theorem zpk (a b:String):(Str.ofString a=Str.ofString b)↔a=b:=by
 constructor
 ·intro h
  rw [Str.ofString_eq_byList] at h
  have h1:(a.toList.map Char.toNat)=(b.toList.map Char.toNat):=by
   have:=congrArg (fun z=>z.cps.toList) h
   simpa [Str.ofStringByList] using this
  apply String.ext_iff.mpr
  exact (List.map_inj_right (fun c d e=>Char.toNat_inj.mp e)).mp h1
 ·intro h;rw [h]
@[simp] theorem zpl (a b:String):(Str.ofString a==Str.ofString b)=(a==b):=by
 rw [Bool.eq_iff_iff];simp
theorem zb3 (n:Nat):whileF ga g (n+1) env st=(ga env st).bind fun c st1=>if c=true then (g env st1).bind fun fl st2=>match fl with
   | .nx e=>whileF ga g n e st2
   | .ct e=>whileF ga g n e st2
   | .bk e=>.ok (.nx e) st2
   | .rt v=>.ok (.rt v) st2
  else .ok (.nx env) st1:=rfl
@[simp] theorem zn2:lim=1000000:=(rfl)
@[simp] theorem zpm (f:Str) (i:Str→Bool) (x:PV) (n:Nat):Mi.putAt f i x (.ref n) st=withI st n fun c ks xs=>if i c=true∧ks.length<1000 then .ok () (st.set n (.ins c (putK f x ks xs).1 (putK f x ks xs).2)) else .stuck:=(rfl)
end
end Mi
namespace Mi
open PySem L2 PySem.W PySem.Spec
section
variable {K:Frag} {mg:Str→Option Value} {h:Heap} {x:Str} {f C:Addr} {oc:Value} {od an:Option Addr} {osl:Array (Option Value)} {kV doc pm cdv ct:Value} {sm:Stmt} {ps:List Str}
theorem zX (X:K.In h) (G:h.Ns mainGlobals mg) (a:nsIn K mainGlobals x=some (some (.ref f))) (l:K.lookup f=some ⟨oc,od,.func (fnOf x x (defArgs sm) (defBody sm) (defScope sm) .none kV doc pm an cdv ct),osl⟩) (c:codeIn K cdv x=true) (k:keepIn K (.ref f)=true)
  (b:∀(kV doc pm:Value) (an:Option Addr) (cdv ct:Value) (us:List Value),us.length=ps.length→bindArgs (fnOf x x (defArgs sm) (defBody sm) (defScope sm) .none kV doc pm an cdv ct) ⟨us,[]⟩=pure (ps.zip us)):FnF K mg x sm ps :=
 ⟨f,_,mg_of X G a,zd4 l c k,(zd4 l c k).binds b⟩
theorem zcW {c name qual:Str} (X:K.In h) (G:h.Ns mainGlobals mg) (aC:nsIn K mainGlobals c=some (some (.ref C))) (pg:plainGet K C Str.empty=true) (hd:hasDictIn K C=true) (po:plainOver K C=true) (sa:findIn K (.ref C) "__setattr__" = some (some (.builtin "object.__setattr__")))
  (a:findIn K (.ref C) name=some (some (.ref f))) (i:isFn K (.ref f)=true) (l:K.lookup f=some ⟨oc,od,.func (fnOf name qual (defArgs sm) (defBody sm) (defScope sm) .none kV doc pm an cdv ct),osl⟩) (cd:codeIn K cdv qual=true) (k:keepIn K (.ref f)=true)
  (b:∀(kV doc pm:Value) (an:Option Addr) (cdv ct:Value) (us:List Value),us.length=ps.length→bindArgs (fnOf name qual (defArgs sm) (defBody sm) (defScope sm) .none kV doc pm an cdv ct) ⟨us,[]⟩=pure (ps.zip us)):MtF K mg c name qual sm ps :=
 ⟨C,f,_,mg_of X G aC,⟨pg,hd,po,sa⟩,⟨a,i,k⟩,zd4 l cd k,(zd4 l cd k).binds b⟩
theorem ziY {c qual:Str} (X:K.In h) (G:h.Ns mainGlobals mg) (aC:nsIn K mainGlobals c=some (some (.ref C))) (mk:makesIn K C=true) (kc:keepIn K (.ref C)=true)
  (a:findIn K (.ref C) "__init__" = some (some (.ref f))) (i:isFn K (.ref f)=true) (l:K.lookup f=some ⟨oc,od,.func (fnOf "__init__" qual (defArgs sm) (defBody sm) (defScope sm) .none kV doc pm an cdv ct),osl⟩) (cd:codeIn K cdv qual=true) (k:keepIn K (.ref f)=true)
  (b:∀(kV doc pm:Value) (an:Option Addr) (cdv ct:Value) (us:List Value),us.length=ps.length→bindArgs (fnOf "__init__" qual (defArgs sm) (defBody sm) (defScope sm) .none kV doc pm an cdv ct) ⟨us,[]⟩=pure (ps.zip us)):NwF K mg c qual sm ps :=
 ⟨C,f,_,mg_of X G aC,⟨mk,a,i,kc⟩,zd4 l cd k,(zd4 l cd k).binds b⟩
theorem zmn {cd:ClassData} (h:clsIn K C=some cd) (v:valLine cd.mro=true):lineIn K C=true:=by unfold lineIn;rw [h];exact v
theorem zlb {c fld qual:Str} {B N:Addr} {nm q:Str} {bs:List Value} {hdct:Bool} {sn:List Str} {sub:List Value} {ab:Bool} {col:Option Bool} {dd:Option Addr} {k0 k1 k2 k3 k5:Option Value} {cc:Value} {d:Option Addr} {es:Array DictEntry} {n:Nat} {sl:Array (Option Value)} {cd0:ClassData}
  (X:K.In h) (G:h.Ns mainGlobals mg) (aC:nsIn K mainGlobals c=some (some (.ref C)))
  (hC:K.lookup C=some (excClassObj nm q C N bs (.ref B::veLine) hdct sn sub ab col dd k0 k1 k2 k3 k5 "ValueError.__new__")) (hB:excIn K B veLine "ValueError.__new__" = true)
  (hN:K.lookup N=some ⟨cc,d,.dict es n,sl⟩) (he:(es.all fun e=>match e.key with | .str _ _=>true|_=>false)=true) (hi:nsIn K N "__init__" = some (some (.ref f))) (fn:isFn K (.ref f)=true) (kp:keepIn K (.ref C)=true)
  (sa:findIn K (.ref C) "__setattr__" = some (some (.builtin "object.__setattr__"))) (hcl:clsIn K C=some cd0) (hl:valLine cd0.mro=true) (no:takerIn K C fld=some none) (hdI:hasDictIn K C=true)
  (l:K.lookup f=some ⟨oc,od,.func (fnOf "__init__" qual (defArgs sm) (defBody sm) (defScope sm) .none kV doc pm an cdv ct),osl⟩) (cdd:codeIn K cdv qual=true) (k:keepIn K (.ref f)=true)
  (b:∀(kV doc pm:Value) (an:Option Addr) (cdv ct:Value) (us:List Value),us.length=[("self" : Str),fld].length→bindArgs (fnOf "__init__" qual (defArgs sm) (defBody sm) (defScope sm) .none kV doc pm an cdv ct) ⟨us,[]⟩=pure ([("self" : Str),fld].zip us)):XnF K mg c fld qual sm :=
 ⟨C,f,_,mg_of X G aC,ExMk.mk' hC hB hN he hi fn kp,⟨sa,zmn hcl hl,no,hdI⟩,zd4 l cdd k,(zd4 l cdd k).binds b⟩
theorem zO {c fld:Str} (X:K.In h) (G:h.Ns mainGlobals mg) (aC:nsIn K mainGlobals c=some (some (.ref C))) (pg:plainGet K C Str.empty=true) (hd:hasDictIn K C=true) (po:plainOver K C=true) (sa:findIn K (.ref C) "__setattr__" = some (some (.builtin "object.__setattr__"))) (na:findIn K (.ref C) fld=some none) :
  ∃C,mg c=some (.ref C)∧Cls K C∧NoAttr K C fld:=⟨C,mg_of X G aC,⟨pg,hd,po,sa⟩,na⟩
theorem zap {c fld:Str} (X:K.In h) (G:h.Ns mainGlobals mg) (aC:nsIn K mainGlobals c=some (some (.ref C))) (ga:findIn K (.ref C) "__getattribute__" = some (some (.builtin "BaseException.__getattribute__"))) (hk:findIn K (.ref C) "__getattr__" = some none) (hB:mroIn K C (.type "BaseException")=some true)
  (hd:hasDictIn K C=true) (no:findIn K (.ref C) fld=some none):∃C,mg c=some (.ref C)∧ExGa K C∧hasDictIn K C=true∧findIn K (.ref C) fld=some none:=⟨C,mg_of X G aC,⟨ga,hk,hB⟩,hd,no⟩
theorem zmo {α:Type} {P:α→Prop}:∀p∈([]:List α),P p:=fun _ h=>nomatch h
theorem all_cons {α:Type} {P:α→Prop} {a:α} {l:List α} (h:P a) (t:∀p∈l,P p):∀p∈a::l,P p:=fun p hp=>by
 rcases List.mem_cons.mp hp with rfl|hp
 ·exact h
 ·exact t p hp
theorem zeX {α β:Type} [BEq α] [LawfulBEq α] {a:α} {b:β}:∀{l:List (α×β)},l.lookup a=some b→(a,b)∈l
 | [],h=>by simp at h
 | (c,d)::l,h=>by
  rw [List.lookup_cons] at h
  split at h
  ·rename_i e;cases h;rw [eq_of_beq e];simp
  ·exact List.mem_cons_of_mem _ (zeX h)
theorem zdN {O t t2:Addr} {wd k1 k2 y:Str} {u1 u2:Tok} {n n2:Nat} {od2:Option Addr} {sl sl2:Array (Option Value)} (X:K.In h) (G:h.Ns mainGlobals mg) (e:nsIn K O wd=some (some (.ref t))) (l1:K.lookup t=some ⟨.type "tuple", od,.seq #[.ref t2,.ref f] n,sl⟩)
  (l2:K.lookup t2=some ⟨.type "tuple", od2,.seq #[.str k1 u1,.str k2 u2] n2,sl2⟩) (a:nsIn K mainGlobals y=some (some (.ref f))):∃u v,nsIn K O wd=some (some u)∧RelV v u∧∀ρ H,R K mg ρ H (.tup [.tup [.str k1,.str k2],.fn y]) v:=by
 refine ⟨_,.ref t,e,rfl,zk9 (xs:=[.tup [.str k1,.str k2],.fn y]) (vs:=[.ref t2,.ref f]) l1 rfl (by simp) (.cons rfl (.cons rfl .nil)) fun ρ H=>?_⟩
 exact ⟨_,_,rfl,zk9 (xs:=[.str k1,.str k2]) (vs:=[.str k1,.str k2]) l2 rfl (by simp) (.cons ⟨_,rfl⟩ (.cons ⟨_,rfl⟩ .nil)) (fun ρ H=>⟨_,_,rfl,rfl,_,_,rfl,rfl,rfl⟩) ρ H,_,_,rfl,⟨f,rfl,mg_of X G a⟩,rfl⟩
theorem zn3 {w:World} {name:Str} {O:Addr} {es:Array DictEntry} {n:Nat} {ks:List Str} {qs:List PV} (X:K.In h) (G:h.Ns mainGlobals mg) (aO:nsIn K mainGlobals name=some (some (.ref O))) (lO:K.lookup O=some ⟨.type "dict", none,.dict es n,#[]⟩) (hk:KeysLit w.params es.toList) (no:(O==sysModules)=false)
  (hi:∀p∈ks.zip qs,∃u v,nsIn K O p.1=some (some u)∧RelV v u∧∀ρ H,R K mg ρ H p.2 v):∀Y:Cx,Y.K=K→Y.mg=mg→Y.w=w→KdF Y name ks qs false:=fun Y e1 e2 e3=>by
 refine ⟨O,by rw [e2];exact mg_of X G aO,⟨⟨es,n,by rw [e1];exact lO,by rw [e3];exact hk⟩,no⟩,fun z q hz=>?_,fun z=>nomatch z⟩
 rw [e1,e2]
 exact hi _ (zeX hz)
end
end Mi
namespace Mi
open PySem L2 PySem.W PySem.Spec
theorem zn4 {P:Program} {w:World} {K:Frag} {mg:Str→Option Value} {x y:Str} {sm:Stmt} {fa:Addr} {k:Nat} {m:List PV→Mo PV} (h:FnF K mg x sm [y]) (hmg:mg x=some (.ref fa))
  (hb:∀(kV doc pm:Value) (an:Option Addr) (cdv ct:Value) (u:Value),bindArgs (fnOf x x (defArgs sm) (defBody sm) (defScope sm) .none kV doc pm an cdv ct) ⟨[u],[]⟩=pure [(y,u)])
  (hok:∀(f:Addr) (fd:FuncData),Fun K x x sm f fd→∀base:Heap,FnOk P w K mg base (CXe P w) k f fd [y] (spM K mg m)) (hp:∀ns:List Int,ns.length≤63→∃st,m [.frl (ns.map PV.int)] []=.ok (.bl true) st) :
  ∃fd:FuncData,(∀(s:Shared) (u:Value),BindsTo s fd ⟨[u],[]⟩ [(y,u)])∧∀base:Heap,K.In base→base.Ns mainGlobals mg→FnOk P w K mg base (CXe P w) k fa fd [y] (spLaw K):=by
 obtain ⟨f,fd,hm,F,_⟩:=h
 rw [hmg] at hm
 cases hm
 refine ⟨fd,fun s u=>?_,fun base _ _=>zml (hok fa fd F base) hp⟩
 obtain ⟨oc,od,kV,doc,pm,an,cdv,ct,osl,rfl,_⟩:=F.ex
 exact .of_eq (hb kV doc pm an cdv ct u)
end Mi
namespace Mi
open PySem L2 PySem.W PySem.Spec
theorem zn5 {K:Frag} {mg:Str→Option Value} {h:Heap} {x:Str} {i:Int} {t:Tok} (X:K.In h) (G:h.Ns mainGlobals mg) (a:nsIn K mainGlobals x=some (some (.int i t))):∃t,mg x=some (.int i t):=⟨t,mg_of X G a⟩
theorem zgw {K:Frag} {mg:Str→Option Value} {h:Heap} {x:Str} (X:K.In h) (G:h.Ns mainGlobals mg) (a:nsIn K mainGlobals x=some none):mg x=none:=mg_none_of X G a
end Mi
namespace Mi
open PySem L2 PySem.W PySem.Spec
section
variable {X:Cx} {Er:XK} {K:Frag} {mg:Str→Option Value} {a b c e o:Expr} {es:List Expr} {pos p apos pos':Pos} {fa fb fc fo:PEnv→Mo PV} {fs:PEnv→Mo (List PV)}
abbrev kz (ks:List Str) (vs:List V):List (Key×V):=(ks.map Sum.inr).zip vs
theorem ziZ {z:Str}:∀{ks:List Str} {vs:List V},valV (kz ks vs) (Sum.inr z)=(ks.zip vs).lookup z
 | [],_=>by simp [kz,valV]
 | k::ks,[]=>by simp [kz,valV]
 | k::ks,v::vs=>by
  have ih:=ziZ (z:=z) (ks:=ks) (vs:=vs)
  by_cases h:k=z
  ·subst h
   rw [show kz (k::ks) (v::vs)=(Sum.inr k,v)::kz ks vs from rfl,zeg rfl]
   simp [List.lookup_cons]
  ·rw [show kz (k::ks) (v::vs)=(Sum.inr k,v)::kz ks vs from rfl,zeh (by simpa using h),ih]
   have:(z==k)=false:=by simpa using fun q=>h q.symm
   simp [List.lookup_cons,this]
theorem zlc {z:Str}:∀{ks:List Str} {vs:List V},ks.length=vs.length→((kz ks vs).any fun kv=>decide (kv.1=Sum.inr z))=ks.contains z
 | [],_,_=>by simp [kz]
 | k::ks,[],h=>by simp at h
 | k::ks,v::vs,h=>by
  have ih:=zlc (z:=z) (ks:=ks) (vs:=vs) (by simpa using h)
  rw [show kz (k::ks) (v::vs)=(Sum.inr k,v)::kz ks vs from rfl,List.any_cons,ih,List.contains_cons]
  congr 1
  by_cases hz:k=z
  ·subst hz;simp
  ·have:(z==k)=false:=by simpa using fun q=>hz q.symm
   simp [hz,this]
def repl {α:Type} (z:Str) (x:α):List Str→List α→List α
 | k::ks,y::ys=>(if k=z then x else y)::repl z x ks ys
 | _,ys=>ys
def dPut (z:Str) (x:PV) (ks:List Str) (xs:List PV):List Str×List PV:=if ks.contains z=true then (ks,repl z x ks xs) else (ks++[z],xs++[x])
theorem zi0 {z:Str} {v:V}:∀{ks:List Str} {vs:List V},(kz ks vs).map (fun kv=>if kv.1=Sum.inr z then (kv.1,v) else kv)=kz ks (repl z v ks vs)
 | [],_=>by simp [kz]
 | k::ks,[]=>by simp [kz,repl]
 | k::ks,w::vs=>by
  rw [show kz (k::ks) (w::vs)=(Sum.inr k,w)::kz ks vs from rfl,List.map_cons,zi0,show repl z v (k::ks) (w::vs)=(if k=z then v else w)::repl z v ks vs from rfl,show ∀u us,kz (k::ks) (u::us)=(Sum.inr k,u)::kz ks us from fun _ _=>rfl]
  by_cases h:k=z
  ·subst h;simp
  ·rw [if_neg (by simpa using h),if_neg h]
theorem zld {ρ:List Addr} {H:Hp} {z:Str} {x:PV} {v:V} (r:R K mg ρ H x v):∀{ks:List Str} {xs:List PV} {vs:List V},Rs K mg ρ H xs vs→Rs K mg ρ H (repl z x ks xs) (repl z v ks vs)
 | [],xs,vs,h=>by cases xs<;>cases vs<;>exact h
 | k::ks,[],vs,h=>by cases h;exact rfl
 | k::ks,y::ys,vs,h=>by
  obtain ⟨w,ws,rfl,h1,h2⟩:=h
  refine ⟨_,_,rfl,?_,zld r h2⟩
  split
  ·exact r
  ·exact h1
theorem zg6 {α:Type} {z:Str} {x:α}:∀{ks:List Str} {xs:List α},(repl z x ks xs).length=xs.length
 | [],xs=>by cases xs<;>rfl
 | k::ks,[]=>rfl
 | k::ks,y::ys=>by simp [repl,zg6 (ks:=ks)]
theorem zle {ρ:List Addr} {H:Hp} {z:Str} {x:PV} {v:V} (r:R K mg ρ H x v) {ks:List Str} {xs:List PV} {vs:List V} (hl:ks.length=vs.length) (h:Rs K mg ρ H xs vs):∃ws,L2.putK (kz ks vs) (Sum.inr z) v=kz (dPut z x ks xs).1 ws∧Rs K mg ρ H (dPut z x ks xs).2 ws∧(dPut z x ks xs).1.length=ws.length:=by
 unfold L2.putK dPut
 rw [zlc hl]
 by_cases hc:ks.contains z=true
 ·rw [if_pos hc,if_pos hc]
  exact ⟨repl z v ks vs,zi0,zld r h,by rw [zg6];exact hl⟩
 ·rw [if_neg hc,if_neg hc]
  refine ⟨vs++[v],?_,h.append ⟨v,[],rfl,r,rfl⟩,by simp [hl]⟩
  show _=(List.map Sum.inr (ks++[z])).zip (vs++[v])
  rw [List.map_append,List.zip_append (by simpa using hl)]
  rfl
def mDNew:PEnv→Mo PV:=fun _ st=>.ok (.ref st.length) (st++[.dic [] []])
theorem zlf:ME X Er (.Dict [] [] pos) mDNew:=PE.weak zj9 fun σ H Q ⟨env,st,ρ,re,rs,h⟩=>fun q hq =>
 h (ρ++[q]) _ (Ext.push hq) (rs.push hq ⟨[],zx,rfl,rfl⟩) _ ⟨q,rfl,by rw [←rs.len];simp⟩
def oDGet:PV→PV→Mo PV
 | .ref n,.str z,st=>withD st n fun ks xs=>optR ((ks.zip xs).lookup z) st
 | _,_,_=>.stuck
def oIxD:PV→PV→Mo PV
 | .ref n,.str z,st=>oDGet (.ref n) (.str z) st
 | x,y,st=>oIx x y st
def rDGet:R2:=fun x y H Q=>∃a v,x=.ref a∧DGet H a y (some v)∧Q v H
theorem zmp (hu:X.A.units+1<cLine):IxR X rDGet:=by
 intro value slice pins s σ H x y v u Q I rx ry h hs
 obtain ⟨a,w,rfl,g,q⟩:=h
 obtain rfl:v=Value.ref a:=rx
 exact PyProof.Rows.tail_any (zgs I g) PySem.F.slot_dict_getitem.lookup (zir hu I g ry fun w' s' I' rw'=>⟨w,H,I',rw',q⟩) hs
theorem R.refD {ρ:List Addr} {H:Hp} {st:Sto} {n:Nat} {ks:List Str} {xs:List PV} {v:V} (s:StR K mg ρ H st) (r:R K mg ρ H (.ref n) v) (h:st[n]?=some (.dic ks xs)):∃a vs,v=.ref a∧ρ[n]?=some a∧H a=some (.dK (kz ks vs))∧Rs K mg ρ H xs vs∧ks.length=vs.length:=by
 obtain ⟨a,rfl,ha⟩:=r
 obtain ⟨vs,h1,h2,h3⟩:=s.addr h ha
 exact ⟨a,vs,rfl,ha,h1,h2,h3⟩
theorem zmq {H:Hp} {a:Addr} {ks:List Str} {vs:List V} {z:Str} (h:H a=some (.dK (kz ks vs))):DGet H a (.str z) ((ks.zip vs).lookup z):=by
 have g:=DGet.k (k:=Sum.inr z) h
 rw [ziZ] at g
 exact g
theorem zo (hu:X.A.units+200<cLine):IxOk X oIxD:=by
 obtain ⟨r,h1,h2⟩:=zoZ (X:=X)
 refine ⟨_,h1.or (zmp (by omega)),fun ρ H st x y v w Q E s rx ry h=>?_⟩
 by_cases hx:∃n z,x=.ref n∧y=.str z
 ·obtain ⟨n,z,rfl,rfl⟩:=hx
  obtain ⟨ks,xs,e,h⟩:=zfM (show Out X.K X.mg ρ H (withD st n fun ks xs=>optR ((ks.zip xs).lookup z) st) (gV X.K X.mg Q) E from h)
  obtain ⟨q,hq,h⟩:=zbF h
  obtain ⟨a,vs,rfl,_,k1,k2,_⟩:=R.refD s rx e
  cases ry
  obtain ⟨v,hv,rv⟩:=zdn k2 hq
  refine .inr ⟨a,v,rfl,?_,h.now s _ rv⟩
  have g:=zmq (z:=z) k1
  rw [hv] at g
  exact g
 ·refine .inl (h2 ρ H st x y v w Q E s rx ry ?_)
  have:oIxD x y st=oIx x y st:=by
   unfold oIxD
   split
   ·rename_i n z;exact absurd ⟨n,z,rfl,rfl⟩ hx
   ·rfl
  rw [this] at h
  exact h
def dPutAt (z x:PV):PV→Mo Unit
 | .ref n,st=>match z with
  | .str z=>withD st n fun ks xs=>if ks.length<lim then .ok () (st.set n (.dic (dPut z x ks xs).1 (dPut z x ks xs).2)) else .stuck
  | _=>.stuck
 | _,_=>.stuck
def sDPutM (fo fi fv:PEnv→Mo PV):PEnv→Mo Fl:=fun env st=>(fv env st).bind fun x st1=>(fo env st1).bind fun o st2=>(fi env st2).bind fun z st3=>(dPutAt z x o st3).bind fun _ st4=>.ok (.nx env) st4
theorem zfi {i value:Expr} {fi fv:PEnv→Mo PV} (hu:X.A.units+200<cLine) (ho:ME X Er o fo) (hi:ME X Er i fi) (hv:ME X Er value fv) (hs:swapsWith value (some (.Subscript o i pos')) pos.line X.env=pure false:=by rfl):MS X Er (.Assign [.Subscript o i pos'] value pos) (sDPutM fo fi fv) :=
 PS.weak (zlM (by omega) ho hi hv hs) fun D σ H ⟨env,st,ρ,re,rs,h⟩=>⟨env,st,ρ,re,rs,h.then fun ρ1 H1 x st1 e1 s1 h1 v rv=>⟨env,st1,ρ1,re.ext e1,s1,h1.then fun ρ2 H2 y st2 e2 s2 h2 w rw=>⟨env,st2,ρ2,(re.ext e1).ext e2,s2,h2.then fun ρ3 H3 zz st3 e3 s3 h3 u ru=>by
  cases y with
  | ref n =>
   cases zz with
   | str z =>
    cases hn:st3[n]? with
    | none=>simp only [dPutAt,withD,hn] at h3;exact False.elim h3
    | some so =>
     cases so with
     | lst _=>simp only [dPutAt,withD,hn] at h3;exact False.elim h3
     | ins _ _ _=>simp only [dPutAt,withD,hn] at h3;exact False.elim h3
     | fdi _ _=>simp only [dPutAt,withD,hn] at h3;exact False.elim h3
     | dic ks xs =>
      simp only [dPutAt,withD,hn] at h3
      by_cases hc:ks.length<lim
      ·rw [if_pos hc] at h3
       obtain ⟨a,vs,e4,ha,k1,k2,k3⟩:=R.refD s3 (R.ext e3 _ rw) hn
       subst e4
       cases ru
       obtain ⟨ws,q1,q2,q3⟩:=zle (z:=z) (R.ext e3 x (R.ext e2 x rv)) k3 k2
       have hlen:(kz ks vs).length<sizeLine:=by
        have:(kz ks vs).length=ks.length:=by simp [kz,k3]
        rw [this,sizeLine_eq]
        have:ks.length<1000000:=hc
        omega
       have g:=DPut.k (k:=Sum.inr z) (v:=v) k1 hlen
       have ew:Ext ρ3 H3 ρ3 (upd H3 a (.dK (L2.putK (kz ks vs) (Sum.inr z) v))):=Ext.write k1 rfl
       refine ⟨a,_,rfl,g,h3 ρ3 _ ew (s3.write ha ew ⟨ws,by rw [zx,q1],Rs.ext ew _ q2,q3⟩) σ ((((re.ext e1).ext e2).ext e3).ext ew)⟩
      ·rw [if_neg hc] at h3;exact False.elim h3
   | _=>exact False.elim h3
  | _=>exact False.elim h3⟩⟩⟩
end
end Mi
namespace Mi
open PySem L2 PySem.W PySem.Spec
open Classical in
noncomputable def eIn (K:Frag) (mg:Str→Option Value) (ρ:List Addr) (H:Hp) (ys:List PV) (x:PV) (u:Value):Bool:=decide (∃y v,y∈ys∧R K mg ρ H y v∧RelV v u∧eqP y x=true)
section
variable {X:Cx} {Er:XK} {K:Frag} {mg:Str→Option Value} {ρ:List Addr} {pins:List (Addr×Obj)} {σ:L2.St} {H:Hp} {s:Shared}
def okIn (x:PV) (ys:List PV):Prop:=Mi.plain x=true∧plains ys=true∧deps ys≤150
instance (x:PV) (ys:List PV):Decidable (okIn x ys):=by unfold okIn;infer_instance
open Classical in
end
end Mi
namespace Mi
open PySem L2 PySem.W PySem.Spec
section
variable {X:Cx} {Er:XK} {pos:Pos}
abbrev XN:XK:=fun _ _ _=>False
theorem zb4:zaL X XN:=fun _ _ _ _ _ _ _ _ _ q=>q.elim
def compL (fe:PEnv→Mo PV) (env:PEnv):List PV→List PV→Mo PV
 | [],ys,st=>.ok (.ref st.length) (st++[.lst ys])
 | x::xs,ys,st=>(noErr (fe (some x::env) st)).bind fun y st1=>compL fe env xs (ys++[y]) st1
def compR (fe:PEnv→Mo PV) (env:PEnv) (n:Nat):Nat→Nat→List PV→Mo PV
 | 0,_,_,_=>.stuck
 | m+1,i,ys,st=>withL st n fun xs=>match xs[i]? with
  | none=>.ok (.ref st.length) (st++[.lst ys])
  | some x=>(noErr (fe (some x::env) st)).bind fun y st1=>compR fe env n m (i+1) (ys++[y]) st1
def compS (fe:PEnv→Mo PV) (env:PEnv):Sq→Mo PV
 | .im xs,st=>if xs.length≤lim then compL fe env xs [] st else .stuck
 | .rf n,st=>compR fe env n (lim+1) 0 [] st
def mComp (src:PEnv→Mo Sq) (fe:PEnv→Mo PV):PEnv→Mo PV:=fun env st=>(src env st).bind fun q st1=>compS fe env q st1
theorem Rs.snoc {K:Frag} {mg:Str→Option Value} {ρ:List Addr} {H:Hp} {x:PV} {v:V} (r:R K mg ρ H x v):∀{xs:List PV} {vs:List V},Rs K mg ρ H xs vs→Rs K mg ρ H (xs++[x]) (vs++[v])
 | [],_,h=>by cases h;exact ⟨v,[],rfl,r,rfl⟩
 | y::xs,_,h=>by
  obtain ⟨w,q,rfl,h1,h2⟩:=h
  exact ⟨w,q++[v],rfl,h1,Rs.snoc r h2⟩
theorem zi1 {elt iter:Expr} {x:Str} {px:Pos} {scope:Scope} {src:PEnv→Mo Sq} {fe:PEnv→Mo PV} {M:List Str} (hc:X.calm=true) (S:CompSc X.env.scope scope x) (eN:Hid scope M X.N) (hN0:((".0" : Str)::x::M).Nodup)
  (hi:MI X Er (.Name x px) iter src) (he:∀cl C s₂ H₂ fp,ME (cxH X M scope cl x C s₂ H₂ fp (fun _ _=>False)) XN elt fe)
  (hs:∀v,foldedSetIterable iter X.env v=pure v:=by intro _;rfl):ME X Er (.ListComp elt [⟨.Name x px,iter,[],0⟩] scope pos) (mComp src fe) :=
 PE.weak (zj4 (te:=tM X.K X.mg XN fe) hc S eN hN0 hi (fun cl C s₂ H₂ fp=>he cl C s₂ H₂ fp) hs) fun σ H Q ⟨env,st,ρ,re,rs,h⟩=>⟨env,st,ρ,re,rs,h.then fun ρ0 H0 q st0 e0 s0 h0 J wk=>by
  cases q with
  | im xs =>
   obtain ⟨hl,h0⟩:=Out.ifp h0
   obtain ⟨w1,w2,w3⟩:=wk
   refine ⟨fun i m ys H=>m=xs.length-i∧i≤xs.length∧ys.length=i∧∃ps st ρ,Rs X.K X.mg ρ H ps ys∧StR X.K X.mg ρ H st∧Ext ρ0 H0 ρ H∧Out X.K X.mg ρ H (compL fe env (xs.drop i) ps st) (gV X.K X.mg Q) Er,⟨xs.length,by simp,Nat.zero_le _,rfl,[],st0,ρ0,rfl,s0,Ext.refl,h0⟩,?_⟩
   rintro i m ys H ⟨rfl,hi,hy,ps,st,ρ,rps,rs,ex,h⟩
   by_cases hlt:i<xs.length
   ·refine .inr ⟨w1 i ρ H ex hlt,zR (by omega),fun v H' y=>?_⟩
    obtain ⟨x,hx,ex2,s2,rx⟩:=w3 i ρ H st v H' ex rs hlt y
    have hd:xs.drop i=x::xs.drop (i+1):=by
     rw [List.drop_eq_getElem_cons hlt]
     have:=(List.getElem?_eq_some_iff.mp hx).2
     rw [this]
    rw [hd] at h
    simp only [compL] at h
    refine ⟨some x::env,st,ρ,(re.ext (e0.trans (ex.trans ex2))).cons rx,s2,zb2 (Out.ext h ex2) fun ρ3 H3 y st3 e3 s3 h3 v ry=>⟨xs.length-(i+1),by omega,rfl,hlt,by simp [hy],ps++[y],st3,ρ3,Rs.snoc ry (Rs.ext (ex2.trans e3) ps rps),s3,(ex.trans ex2).trans e3,h3⟩⟩
   ·have e:i=xs.length:=by omega
    subst e
    rw [List.drop_length] at h
    exact .inl ⟨w2 _ ρ H ex (Nat.le_refl _),zR (by omega),fun l hl=>Out.newList h rs rps hl⟩
  | rf n =>
   obtain ⟨a,ha,rfl⟩:=wk
   refine ⟨fun i m ys H=>m+i=lim+1∧ys.length=i∧∃ps st ρ,Rs X.K X.mg ρ H ps ys∧StR X.K X.mg ρ H st∧Ext ρ0 H0 ρ H∧ρ[n]?=some a∧Out X.K X.mg ρ H (compR fe env n m i ps st) (gV X.K X.mg Q) Er,⟨lim+1,rfl,rfl,[],st0,ρ0,rfl,s0,Ext.refl,ha,h0⟩,?_⟩
   rintro i m ys H ⟨hm,hy,ps,st,ρ,rps,rs,ex,ha,h⟩
   cases m with
   | zero=>exact False.elim h
   | succ m =>
    obtain ⟨xs,hn,h⟩:=zE h
    obtain ⟨vs,hH,hR⟩:=rs.addr hn ha
    cases hx:xs[i]? with
    | none =>
     simp only [hx] at h
     have:vs.length≤i:=by rw [←hR.len];exact List.getElem?_eq_none_iff.mp hx
     exact .inl ⟨⟨vs,SqL.of hH,this⟩,zR (by omega),fun l hl=>Out.newList h rs rps hl⟩
    | some x =>
     simp only [hx] at h
     obtain ⟨v,hv,rv⟩:=hR.get hx
     refine .inr ⟨⟨vs,v,SqL.of hH,hv⟩,zR (by omega),fun v' H' y=>?_⟩
     obtain ⟨e1,y⟩:=y
     subst e1
     have e2:=y vs (SqL.of hH)
     rw [hv] at e2
     cases e2
     exact ⟨some x::env,st,ρ,(re.ext (e0.trans ex)).cons rv,rs,zb2 h fun ρ3 H3 y st3 e3 s3 h3 v ry=>⟨m,Nat.lt_succ_self m,by omega,by simp [hy],ps++[y],st3,ρ3,Rs.snoc ry (Rs.ext e3 ps rps),s3,ex.trans e3,e3.get ha,h3⟩⟩⟩
theorem zfQ {elt iter:Expr} {x:Str} {px:Pos} {scope:Scope} {src:PEnv→Mo Sq} {fe:PEnv→Mo PV} {N:List Str} (hc:X.calm=true) (S:CompSc X.env.scope scope x) (eN:X.N=N) (hN0:((".0" : Str)::x::N).Nodup)
  (hi:MI X Er (.Name x px) iter src) (he:∀cl C s₂ H₂ fp,ME (cxC X scope cl x C s₂ H₂ fp (fun _ _=>False)) XN elt fe)
  (hs:∀v,foldedSetIterable iter X.env v=pure v:=by intro _;rfl):ME X Er (.ListComp elt [⟨.Name x px,iter,[],0⟩] scope pos) (mComp src fe) :=
 zi1 hc S Hid.refl (eN▸hN0) hi he hs
end
end Mi
namespace Mi
open PySem L2 PySem.W PySem.Spec
section
variable {env:Env} {es:List Expr} {pos:Pos}
abbrev St1 (e:Expr) (es:List Expr) (env:Env):Prop:=starEach (e::es) env=(false,eval e env)::starEach es env
theorem zl {c j}:St1 (.Constant c j pos) es env:=(rfl)
theorem zd {x}:St1 (.Name x pos) es env:=(rfl)
theorem zab {f a k}:St1 (.Call f a k pos) es env:=(rfl)
theorem zaw {a o b}:St1 (.BinOp a o b pos) es env:=(rfl)
theorem zbk {a o b}:St1 (.Compare a o b pos) es env:=(rfl)
theorem zm {a b}:St1 (.Subscript a b pos) es env:=(rfl)
theorem zdr {a b}:St1 (.Tuple a b pos) es env:=(rfl)
theorem zbo {a b c}:St1 (.ListComp a b c pos) es env:=(rfl)
theorem zku {a b c}:St1 (.IfExp a b c pos) es env:=(rfl)
theorem zcz {a b}:St1 (.Attribute a b pos) es env:=(rfl)
end
end Mi
namespace L2
open PySem PySem.Spec PyProof.Rows PySem.W
theorem zhO:typeLookup (.type "zip") "__getattr__" = pure none:=by rw [typeLookup_type,builtinLookup_eq_fast];kernel_rfl
theorem zhP:typeLookup (.type "zip") "keys" = pure none:=by rw [typeLookup_type,builtinLookup_eq_fast];kernel_rfl
theorem zfR:entryFor table "zip.__getattribute__" = some Builtin.«object.__getattribute__» :=
 entryFor_alias (id' := "object.__getattribute__") (by kernel_rfl) (by decide +kernel) (by decide +kernel) (by kernel_rfl)
theorem zgx (z:Addr) (fs:Array Value) (sl:Array (Option Value)) (name:Str) (u:Tok) (hmiss:typeLookup (.type "zip") name=pure none) (hname:(["__module__", "__name__", "__qualname__", "__doc__", "__annotations__"]:List Str).contains name=false) (hsz:name.length+100≤sizeLine:=by size_fits) :
  Meets (Builtin.«object.__getattribute__» ⟨[.ref z,.str name u],[]⟩) (fun A R s=>s.heap.get? z=some { cls:=.type "zip", dict:=none,data:=.fields fs,slots:=sl }∧raisesAttr (.ref z) name A R s) :=
 Meets.of_wp fun prog w A R s hs=>by
  obtain ⟨hp,g,d,tk,os⟩:=s
  obtain ⟨hx,hs⟩:=hs
  have hT:(⟨hp,g,d,tk,os⟩:Shared).TypeIs (.ref z) "zip" := ⟨_,hx,rfl⟩
  unfold Builtin.«object.__getattribute__»
  repeat (any_goals (first|assumption|wp_step))
  simp only [hname,Bool.false_eq_true,if_false]
  repeat (any_goals (first|assumption|wp_step))
  exact wpAny_raiseAttrError hs.1 hs.2 (attrMsg_fits (by decide +kernel) hsz)
theorem zd9 {prog:Program} {w:World} {A:Around} {E:Value→Shared→Prop} {s:Shared} {z:Addr} {fs:Array Value} {sl:Array (Option Value)} {Q:Option Value→Shared→Prop} (hx:s.heap.get? z=some { cls:=.type "zip", dict:=none,data:=.fields fs,slots:=sl }) (hA:A.handled=none)
  (h:∀h' tk e,Heap.NewExcOf s.heap h' e "AttributeError" → Q none { s with heap:=h',toks:=tk }):wpAny (model prog w) A (getAttr? (.ref z) "keys") Q E s:=by
 obtain ⟨hp,g,d,tk,os⟩:=s
 have hT:∀tk',(⟨hp,g,d,tk',os⟩:Shared).TypeIs (.ref z) "zip" := fun _=>⟨_,hx,rfl⟩
 have f1:=sub_AttributeError
 have f3:=F.slot_zip_getattribute.lookup
 have f4:=F.slot_zip_getattribute.bind (.ref z)
 have f5:=zhO
 unfold getAttr? getAttrBy? getAttrBy
 repeat (any_goals (first|assumption|exact hT _|((with_reducible show wpAny _ _ (call (Value.builtin "zip.__getattribute__") _ _) _ _ _);refine call_meets F.slot_zip_getattribute (hT _) zfR (F.args_zip_getattribute_2 _ _) (zgx z fs sl "keys" _ zhP (by decide +kernel) (by size_fits)) ⟨hx,hA,fun h' tk' e hx'=>?_⟩)|wp_step))
 obtain ⟨t',u',he⟩:=hx'.there
 show wpAny _ _ (getattributeRaised _ _ _ _ _ _ _) _ _ _
 unfold getattributeRaised
 repeat (any_goals (first|assumption|wp_step))
 exact h _ _ _ hx'.of
end L2
namespace L2
open PySem PySem.Spec PyProof.Rows PySem.W
abbrev ZB (h:Heap) (z TI TO T:Addr) (f:Bool):Prop:=h.get? z=some { cls:=.type "zip", dict:=none,data:=.fields #[rawInt T,.bool f,.bool false,.ref TI,.ref TO],slots:=#[] }
theorem zdO {M:Model} {A:Around} {E:Value→Shared→Prop} {s:Shared} {a:Addr} {Q:Option Obj→Shared→Prop} (h:Q (s.heap.get? a) s):wpAny M A (loadIfAlive a) Q E s:=fun Γ p _=>by
 unfold loadIfAlive
 rw [Sem.wp_loadIfAlive]
 simpa [Sem.wp] using h
section
variable {prog:Program} {w:World} {A:Around} {E:Value→Shared→Prop} {s:Shared} {z TI TO T i1 i2 t1 t2:Addr} {k:Nat} {xs ys:Array Value} {x y a b:Value} {S1 S2:Nat→Heap→Prop} {f:Bool} {o:Obj}
theorem zfS {Q:Bool→Shared→Prop} (hz:ZB s.heap z TI TO T f) (hT:s.heap.get? T=some o) (hQ:∀h',ZB h' z TI TO T true→Heap.SameBut z s.heap h'→Q false { s with heap:=h' }) :
  wpAny (model prog w) A (Builtin.SmallTypes.ownedTupleIsFree (.ref z)) Q E s:=by
 unfold Builtin.SmallTypes.ownedTupleIsFree
 refine wpAny_bind (wpAny_field hz rfl (x:=.int T 0) rfl ?_)
 refine wpAny_bind (zdO ?_)
 rw [Int.toNat_natCast,hT]
 simp only [Option.isNone_some,Bool.false_eq_true,if_false]
 refine wpAny_bind (wpAny_field hz rfl (x:=.bool f) rfl ?_)
 cases f with
 | true =>
  rw [if_neg (by decide)]
  exact wpAny_pure (hQ _ hz ⟨rfl,fun _ _=>rfl⟩)
 | false =>
  rw [if_pos (by decide)]
  refine wpAny_bind (wpAny_setField_rec hz (by simp) fun h1 z1 e1=>wpAny_pure (hQ h1 z1 e1))
theorem zi2 {Q:Value→Shared→Prop} (D:ZipApart z TI TO i1 i2 t1 t2) (U1:Ste prog w i1 t1 xs S1) (U2:Ste prog w i2 t2 ys S2) (hz:ZB s.heap z TI TO T f) (hT:s.heap.get? T=some o) (hTI:IsPair s.heap TI (.ref i1) (.ref i2))
  (q1:S1 k s.heap) (q2:S2 k s.heap) (hx:xs[k]?=some x) (hy:ys[k]?=some y)
  (hQ:∀h',ZB h' z TI TO T true→S1 (k+1) h'→S2 (k+1) h'→IsPair h' s.heap.objs.size x y→(∀c o,c≠z→c≠i1→c≠i2→s.heap.get? c=some o→h'.get? c=some o)→Q (.ref s.heap.objs.size) { s with heap:=h' }) :
  wpAny (model prog w) A (Builtin.«zip.__next__» ⟨[.ref z],[]⟩) (fun fin s'=>∃v,fin=.done (.ret v)∧Q v s') E s:=by
 change wpAny _ _ (field (.ref z) 2 >>= _) _ _ _
 refine wpAny_bind (wpAny_field hz rfl (x:=.bool false) rfl ?_)
 change wpAny _ _ (field (.ref z) 3 >>= _) _ _ _
 refine wpAny_bind (wpAny_field hz rfl (x:=.ref TI) rfl (wpAny_bind (wpAny_seqItems hTI rfl ?_)))
 change wpAny _ _ (Builtin.SmallTypes.ownedTupleIsFree (.ref z) >>= _) _ _ _
 refine wpAny_bind (zfS hz hT fun h1 z1 e1=>?_)
 rw [if_neg (by simp)]
 refine wpAny_bind ?_
 simp only [←Array.forIn_toList,List.forIn_cons,List.forIn_nil]
 refine wpAny_bind (wpAny_bind (wpAny_holding ?_))
 change wpAny _ _ (Builtin.SmallTypes.nextOf (.ref i1) >>= _) _ _ _
 refine wpAny_bind (U1.item (U1.by_same q1 e1 D.i1z D.l1z) hx fun h2 p2 e2=>wpAny_pure (wpAny_pure ?_))
 refine wpAny_bind (wpAny_bind (wpAny_holding ?_))
 change wpAny _ _ (Builtin.SmallTypes.nextOf (.ref i2) >>= _) _ _ _
 have r3:S2 k h2:=U2.by_same (U2.by_same q2 e1 D.i2z D.l2z) e2 D.i12.symm D.l2i1
 refine wpAny_bind (U2.item r3 hy fun h4 p4 e4=>wpAny_pure (wpAny_pure (wpAny_pure ?_)))
 change wpAny _ _ (newTuple [x,y] >>= _) _ _ _
 refine wpAny_bind (wpAny_newTuple (hsz:=by show 2≤sizeLine;decide) (wpAny_pure ⟨_,rfl,?_⟩))
 have sz:h4.objs.size=s.heap.objs.size:=by rw [e4.1,e2.1,e1.1]
 have up:∀c o,c≠z→c≠i1→c≠i2→s.heap.get? c=some o→h4.get? c=some o:=fun c o c1 c2 c3 e=>e4.extBut _ _ c3 (e2.extBut _ _ c2 (e1.extBut _ _ c1 e))
 have ph:∀c o,h4.get? c=some o→(h4.push { cls:=.type "tuple", data:=.seq #[x,y] }).get? c=some o:=fun c o e=>Heap.get?_push_of_some _ e
 have z4:ZB h4 z TI TO T true:=e4.extBut _ _ D.i2z.symm (e2.extBut _ _ D.i1z.symm z1)
 have pT:IsPair (h4.push { cls:=.type "tuple", data:=.seq #[x,y] }) h4.objs.size x y:=Heap.get?_push_size _ rfl
 have g1:S1 (k+1) h4:=U1.by_same p2 e4 D.i12 D.l1i2
 change Q (.ref h4.objs.size) _
 rw [sz] at pT ⊢
 exact hQ _ (ph _ _ z4) (U1.at_ g1 (fun o e=>ph _ o e) fun o e=>ph _ o e) (U2.at_ p4 (fun o e=>ph _ o e) fun o e=>ph _ o e) pT fun c o c1 c2 c3 e=>ph c o (up c o c1 c2 c3 e)
theorem zi3 {Q:Fin→Shared→Prop} (hh:A.handled=none) (D:ZipApart z TI TO i1 i2 t1 t2) (U1:Ste prog w i1 t1 xs S1) (U2:Ste prog w i2 t2 ys S2) (hz:ZB s.heap z TI TO T f) (hT:s.heap.get? T=some o) (hTI:IsPair s.heap TI (.ref i1) (.ref i2))
  (q1:S1 k s.heap) (q2:S2 k s.heap) (he:xs[k]?=none∨ys[k]?=none)
  (hE:∀h' e,(∀c o,c≠z→c≠i1→c≠i2→s.heap.get? c=some o→h'.get? c=some o)→(∃o,h'.get? e=some o∧o.cls=.type "StopIteration")→E (.ref e) { s with heap:=h' }) :
  wpAny (model prog w) A (Builtin.«zip.__next__» ⟨[.ref z],[]⟩) Q E s:=by
 change wpAny _ _ (field (.ref z) 2 >>= _) _ _ _
 refine wpAny_bind (wpAny_field hz rfl (x:=.bool false) rfl ?_)
 change wpAny _ _ (field (.ref z) 3 >>= _) _ _ _
 refine wpAny_bind (wpAny_field hz rfl (x:=.ref TI) rfl (wpAny_bind (wpAny_seqItems hTI rfl ?_)))
 change wpAny _ _ (Builtin.SmallTypes.ownedTupleIsFree (.ref z) >>= _) _ _ _
 refine wpAny_bind (zfS hz hT fun h1 z1 e1=>?_)
 rw [if_neg (by simp)]
 refine wpAny_bind ?_
 simp only [←Array.forIn_toList,List.forIn_cons,List.forIn_nil]
 refine wpAny_bind (wpAny_bind (wpAny_holding ?_))
 change wpAny _ _ (Builtin.SmallTypes.nextOf (.ref i1) >>= _) _ _ _
 have p1:=U1.by_same q1 e1 D.i1z D.l1z
 cases hx:xs[k]? with
 | none =>
  refine wpAny_bind (U1.stop hh p1 hx fun h2 e e2 ⟨oe,hoe,hce⟩=>?_)
  exact hE h2 e (fun c o c1 c2 _ x=>e2 _ _ c2 (e1.extBut _ _ c1 x)) ⟨oe,hoe,hce⟩
 | some x =>
  have hy:ys[k]?=none:=by
   rcases he with h|h
   ·rw [hx] at h;cases h
   ·exact h
  refine wpAny_bind (U1.item p1 hx fun h2 p2 e2=>wpAny_pure (wpAny_pure ?_))
  refine wpAny_bind (wpAny_bind (wpAny_holding ?_))
  change wpAny _ _ (Builtin.SmallTypes.nextOf (.ref i2) >>= _) _ _ _
  have r3:S2 k h2:=U2.by_same (U2.by_same q2 e1 D.i2z D.l2z) e2 D.i12.symm D.l2i1
  refine wpAny_bind (U2.stop hh r3 hy fun h4 e e4 ⟨oe,hoe,hce⟩=>?_)
  exact hE h4 e (fun c o c1 c2 c3 x=>e4 _ _ c3 (e2.extBut _ _ c2 (e1.extBut _ _ c1 x))) ⟨oe,hoe,hce⟩
end
end L2
namespace L2
open PySem PySem.Spec PyProof.Rows PySem.W
theorem zfT:entryFor table "dict.update.loop" = some Builtin.«dict.update.loop» := entryFor_of_fast (by kernel_rfl)
theorem zds:plainId "dict.update.loop" = true:=by decide +kernel
structure ZS (z TI TO i1 i2 a b:Addr) (xs ys:Array Value) (k:Nat) (h:Heap):Prop where
 zi:(IsZip h z TI TO .none∧∃u v,IsPair h TO u v)∨∃T f o,ZB h z TI TO T f∧h.get? T=some o
 ti:IsPair h TI (.ref i1) (.ref i2)
 s1:StT i1 a xs k h
 s2:StT i2 b ys k h
section
variable {prog:Program} {w:World} {A:Around} {E:Value→Shared→Prop} {s:Shared} {z TI TO i1 i2 a b:Addr} {k:Nat} {xs ys:Array Value} {x y:Value}
theorem ZS.type (st:ZS z TI TO i1 i2 a b xs ys k s.heap):s.TypeIs (.ref z) "zip" := by
 rcases st.zi with ⟨hz,_⟩|⟨T,f,o,hz,_⟩<;>exact ⟨_,hz,rfl⟩
theorem zmr {Q:Option Value→Shared→Prop} (D:ZipApart z TI TO i1 i2 a b) (st:ZS z TI TO i1 i2 a b xs ys k s.heap) (hx:xs[k]?=some x) (hy:ys[k]?=some y)
  (hQ:∀h',ZS z TI TO i1 i2 a b xs ys (k+1) h'→IsPair h' s.heap.objs.size x y→(∀c o,c∉[z,TO,i1,i2]→s.heap.get? c=some o→h'.get? c=some o)→Q (some (.ref s.heap.objs.size)) { s with heap:=h' }) :
  wpAny (model prog w) A (pyNext (.ref z)) Q E s:=by
 unfold pyNext
 rcases st.zi with ⟨hz,u,v,hTO⟩|⟨T,f,o,hz,hT⟩
 ·refine wpAny_bind (wpAny_attempt (wpAny_callSpecial?_slot (name:=Str.ofString "__next__") st.type F.slot_zip_next (wpAny_call_entry F.slot_zip_next st.type F.entry_zip_next
   (zev D (zaB D.l1i1) (zaB D.l2i2) hz st.ti hTO st.s1 st.s2 hx hy fun h1 z1 o1 f1 f2 pT kk=>wpAny_pure ?_) (F.args_zip_next_1 _))))
  exact hQ h1 ⟨.inr ⟨_,false,_,z1,pT⟩,kk _ _ D.TIz D.TITO D.TIi1 D.TIi2 st.ti,f1,f2⟩ pT fun c o nc e=>kk c o (fun q=>nc (by simp [q])) (fun q=>nc (by simp [q])) (fun q=>nc (by simp [q])) (fun q=>nc (by simp [q])) e
 ·refine wpAny_bind (wpAny_attempt (wpAny_callSpecial?_slot (name:=Str.ofString "__next__") st.type F.slot_zip_next (wpAny_call_entry F.slot_zip_next st.type F.entry_zip_next
   (zi2 D (zaB D.l1i1) (zaB D.l2i2) hz hT st.ti st.s1 st.s2 hx hy fun h1 z1 f1 f2 pT kk=>wpAny_pure ?_) (F.args_zip_next_1 _))))
  have hT':∃o',h1.get? T=some o':=by
   by_cases e1:T=z
   ·exact ⟨_,by rw [e1];exact z1⟩
   by_cases e2:T=i1
   ·obtain ⟨⟨o1,g1,_⟩,_⟩:=f1;exact ⟨o1,by rw [e2];exact g1⟩
   by_cases e3:T=i2
   ·obtain ⟨⟨o1,g1,_⟩,_⟩:=f2;exact ⟨o1,by rw [e3];exact g1⟩
   exact ⟨o,kk _ _ e1 e2 e3 hT⟩
  obtain ⟨o',hT'⟩:=hT'
  exact hQ h1 ⟨.inr ⟨T,true,o',z1,hT'⟩,kk _ _ D.TIz D.TIi1 D.TIi2 st.ti,f1,f2⟩ pT fun c o nc e=>kk c o (fun q=>nc (by simp [q])) (fun q=>nc (by simp [q])) (fun q=>nc (by simp [q])) e
theorem zms {Q:Option Value→Shared→Prop} (hh:A.handled=none) (D:ZipApart z TI TO i1 i2 a b) (st:ZS z TI TO i1 i2 a b xs ys k s.heap) (he:xs[k]?=none∨ys[k]?=none)
  (hQ:∀h',(∀c o,c∉[z,TO,i1,i2]→s.heap.get? c=some o→h'.get? c=some o)→Q none { s with heap:=h' }) :
  wpAny (model prog w) A (pyNext (.ref z)) Q E s:=by
 unfold pyNext
 rcases st.zi with ⟨hz,u,v,hTO⟩|⟨T,f,o,hz,hT⟩
 ·refine wpAny_bind (wpAny_attempt (wpAny_callSpecial?_slot (name:=Str.ofString "__next__") st.type F.slot_zip_next (wpAny_call_entry F.slot_zip_next st.type F.entry_zip_next
   (zew hh D (zaB D.l1i1) (zaB D.l2i2) hz st.ti hTO st.s1 st.s2 he fun h1 e kk he=>?_) (F.args_zip_next_1 _))))
  obtain ⟨o,ho,hco⟩:=he
  refine wpAny_bind (wpAny_isInstance (T := "StopIteration") (b:=true) ⟨o,ho,hco⟩ isSubtype_stop ?_)
  exact wpAny_pure (hQ h1 fun c o nc e=>kk c o (fun q=>nc (by simp [q])) (fun q=>nc (by simp [q])) (fun q=>nc (by simp [q])) (fun q=>nc (by simp [q])) e)
 ·refine wpAny_bind (wpAny_attempt (wpAny_callSpecial?_slot (name:=Str.ofString "__next__") st.type F.slot_zip_next (wpAny_call_entry F.slot_zip_next st.type F.entry_zip_next
   (zi3 hh D (zaB D.l1i1) (zaB D.l2i2) hz hT st.ti st.s1 st.s2 he fun h1 e kk he=>?_) (F.args_zip_next_1 _))))
  obtain ⟨o,ho,hco⟩:=he
  refine wpAny_bind (wpAny_isInstance (T := "StopIteration") (b:=true) ⟨o,ho,hco⟩ isSubtype_stop ?_)
  exact wpAny_pure (hQ h1 fun c o nc e=>kk c o (fun q=>nc (by simp [q])) (fun q=>nc (by simp [q])) (fun q=>nc (by simp [q])) e)
end
end L2
namespace L2
open PySem PySem.Spec PyProof.Rows PySem.W
def putAll (ps:List (Key×V)) (kvs:List (Key×V)):List (Key×V):=ps.foldl (fun m p=>putK m p.1 p.2) kvs
structure Ap (d z TI TO i1 i2 a b:Addr):Prop where
 z:d≠z
 TI:d≠TI
 TO:d≠TO
 i1:d≠i1
 i2:d≠i2
 a:d≠a
 b:d≠b
theorem nm4 {d z TO i1 i2:Addr} (h1:d≠z) (h2:d≠TO) (h3:d≠i1) (h4:d≠i2):d∉[z,TO,i1,i2]:=by
 simp [h1,h2,h3,h4]
theorem nm5 {c d z TO i1 i2:Addr} (h:c∉d::[z,TO,i1,i2]):c∉[z,TO,i1,i2]:=fun q=>h (List.mem_cons_of_mem _ q)
section
variable {prog:Program} {w:World} {A:Around} {R:Result→Shared→Prop} {z TI TO i1 i2 a b d:Addr} {xs ys:Array Value} {keys:List Key} {vals:List V}
theorem ZS.keep {k:Nat} {h h':Heap} (st:ZS z TI TO i1 i2 a b xs ys k h) (P:Ap d z TI TO i1 i2 a b) (hs:Heap.SameBut d h h') (hd:∃o,h'.get? d=some o):ZS z TI TO i1 i2 a b xs ys k h':=by
 have up:∀c o,c≠d→h.get? c=some o→h'.get? c=some o:=fun c o n e=>hs.extBut _ _ n e
 obtain ⟨⟨⟨o1,g1,r1⟩,⟨p1,e1,t1⟩⟩,⟨⟨o2,g2,r2⟩,⟨p2,e2,t2⟩⟩⟩:=And.intro st.s1 st.s2
 refine ⟨?_,up _ _ P.TI.symm st.ti,⟨⟨o1,up _ _ P.i1.symm g1,r1⟩,⟨p1,up _ _ P.a.symm e1,t1⟩⟩,⟨⟨o2,up _ _ P.i2.symm g2,r2⟩,⟨p2,up _ _ P.b.symm e2,t2⟩⟩⟩
 rcases st.zi with ⟨hz,u,v,hTO⟩|⟨T,f,o,hz,hT⟩
 ·exact .inl ⟨up _ _ P.z.symm hz,u,v,up _ _ P.TO.symm hTO⟩
 ·by_cases e:T=d
  ·obtain ⟨o',ho'⟩:=hd
   exact .inr ⟨T,f,o',up _ _ P.z.symm hz,by rw [e];exact ho'⟩
  ·exact .inr ⟨T,f,o,up _ _ P.z.symm hz,up _ _ e hT⟩
theorem dzl (hh:A.handled=none) (D:ZipApart z TI TO i1 i2 a b) (P:Ap d z TI TO i1 i2 a b) (hk:Vals (keys.map kV) xs.toList) (hv:Vals vals ys.toList) :
  ∀(m k:Nat) (s:Shared) (kvs:List (Key×V)) (ws:List (Key×Value)),min xs.size ys.size-k=m→k≤min xs.size ys.size→ZS z TI TO i1 i2 a b xs ys k s.heap→KV kvs ws→s.heap.DictOf (mixKind prog w) d ws→kvs.length+m≤sizeLine →
  (∀h' tk ws',KV (putAll ((keys.zip vals).drop k) kvs) ws'→h'.DictOf (mixKind prog w) d ws'→(∀c o,c∉d::[z,TO,i1,i2]→s.heap.get? c=some o→h'.get? c=some o)→R (.ok (.ret .none)) { s with heap:=h',toks:=tk }) →
  codeAny (model prog w) A (.builtin "dict.update.loop" ⟨[.ref d,.ref z,rawInt k,.none],[]⟩) R s:=by
 have lk:keys.length=xs.size:=by have:=hk.length;simpa using this
 have lv:vals.length=ys.size:=by have:=hv.length;simpa using this
 have hd1:d∉[z,TO,i1,i2]:=nm4 P.z P.TO P.i1 P.i2
 intro m
 induction m with
 | zero =>
  intro k s kvs ws hm hle st rel dd hsz hR
  refine codeAny_builtin zfT ?_
  rw [Around.under_plainId zds _]
  show wpAny _ A.in1 (pyNext (.ref z) >>= _) _ _ s
  have hkm:k=min xs.size ys.size:=by omega
  have he:xs[k]?=none∨ys[k]?=none:=by
   rcases Nat.le_total xs.size ys.size with q|q
   ·left;simp [hkm];omega
   ·right;simp [hkm];omega
  refine wpAny_bind (zms hh D st he fun h1 kk=>?_)
  have hdrop:(keys.zip vals).drop k=[]:=by
   apply List.drop_eq_nil_of_le
   rw [List.length_zip,lk,lv,hkm]
   exact Nat.le_refl _
  rw [hdrop] at hR
  show wpAny _ A.in1 (Builtin.Dict.addKeywords d [] >>= _) _ _ _
  refine wpAny_bind (wpAny_pure ?_)
  refine wpAny_pure ?_
  exact hR h1 s.toks ws rel (let ⟨o,es,ep,ho,r⟩:=dd;⟨o,es,ep,kk _ _ hd1 ho,r⟩) fun c o nc e=>kk c o (nm5 nc) e
 | succ m ih =>
  intro k s kvs ws hm hle st rel dd hsz hR
  have hlt:k<min xs.size ys.size:=by omega
  have hlx:k<xs.size:=by omega
  have hly:k<ys.size:=by omega
  refine codeAny_builtin zfT ?_
  rw [Around.under_plainId zds _]
  show wpAny _ A.in1 (pyNext (.ref z) >>= _) _ _ s
  refine wpAny_bind (zmr D st (x:=xs[k]) (y:=ys[k]) (by simp [hlx]) (by simp [hly]) fun h1 st1 pT kk=>?_)
  have dd1:h1.DictOf (mixKind prog w) d ws:=let ⟨o,es,ep,ho,r⟩:=dd;⟨o,es,ep,kk _ _ hd1 ho,r⟩
  obtain ⟨u,hu,ru⟩:=hk.get (i:=k) (x:=kV (keys[k]'(by omega))) (by simp [lk,hlx])
  obtain ⟨v,hv1,rv⟩:=hv.get (i:=k) (x:=vals[k]'(by omega)) (by simp [lv,hly])
  have eu:u=xs[k]:=by simpa [hlx] using hu.symm
  have ev:v=ys[k]:=by simpa [hly] using hv1.symm
  subst eu ev
  refine wpAny_bind (wpAny_holding ?_)
  refine wpAny_bind (wpAny_tryCatch ?_)
  unfold Builtin.Dict.pairItems
  refine wpAny_bind (wpAny_typeOf (show Shared.TypeIs _ (.ref s.heap.objs.size) "tuple" from ⟨_,pT,rfl⟩) ?_)
  rw [if_pos (by decide)]
  refine wpAny_bind (wpAny_seqItems pT rfl (wpAny_pure ?_))
  show wpAny _ A.in1 (holding [xs[k],ys[k]] (dictSet d xs[k] ys[k])) _ _ _
  have hws:ws.length≤sizeLine:=by rw [←rel.length];omega
  refine wpAny_holding (wpAny_dictSet_pairs (hsz:=hws) (zj6 ru) dd1 fun h2 dd2 hs2=>?_)
  refine wpAny_pure ⟨plainId_quiet zds _,?_⟩
  have hz2:(putK kvs (keys[k]'(by omega)) (vals[k]'(by omega))).length+m≤sizeLine:=by have:=zcd kvs (keys[k]'(by omega)) (vals[k]'(by omega));omega
  refine ih (k+1) { s with heap:=h2,toks:=s.toks+1 } _ _ (by omega) (by omega) (st1.keep P hs2 (let ⟨o,_,_,ho,_⟩:=dd2;⟨o,ho⟩)) (rel.put _ rv) dd2 hz2 fun h' tk ws' rel' dd' kk'=>?_
  refine hR h' tk ws' ?_ dd' fun c o nc e=>kk' c o nc (hs2.extBut _ _ (fun q=>nc (by simp [q])) (kk c o (nm5 nc) e))
  have hzip:k<(keys.zip vals).length:=by rw [List.length_zip];omega
  rw [List.drop_eq_getElem_cons hzip]
  simpa [putAll] using rel'
end
end L2
namespace L2
open PySem PySem.Spec PyProof.Rows PySem.W
section
variable {prog:Program} {w:World} {A:Around} {E:Value→Shared→Prop} {s:Shared} {z TI TO i1 i2 a b:Addr} {xs ys:Array Value} {keys:List Key} {vals:List V}
theorem ZS.push {k:Nat} {h h':Heap} (st:ZS z TI TO i1 i2 a b xs ys k h) (up:∀c o,h.get? c=some o→h'.get? c=some o):ZS z TI TO i1 i2 a b xs ys k h':=by
 obtain ⟨⟨⟨o1,g1,r1⟩,⟨p1,e1,t1⟩⟩,⟨⟨o2,g2,r2⟩,⟨p2,e2,t2⟩⟩⟩:=And.intro st.s1 st.s2
 refine ⟨?_,up _ _ st.ti,⟨⟨o1,up _ _ g1,r1⟩,⟨p1,up _ _ e1,t1⟩⟩,⟨⟨o2,up _ _ g2,r2⟩,⟨p2,up _ _ e2,t2⟩⟩⟩
 rcases st.zi with ⟨hz,u,v,hTO⟩|⟨T,f,o,hz,hT⟩
 ·exact .inl ⟨up _ _ hz,u,v,up _ _ hTO⟩
 ·exact .inr ⟨T,f,o,up _ _ hz,up _ _ hT⟩
theorem zmt {Q:Value→Shared→Prop} (hh:A.handled=none) (D:ZipApart z TI TO i1 i2 a b) (P:Ap s.heap.objs.size z TI TO i1 i2 a b) (hk:Vals (keys.map kV) xs.toList) (hv:Vals vals ys.toList) (st:ZS z TI TO i1 i2 a b xs ys 0 s.heap) (hz:IsZip s.heap z TI TO .none) (hsz:min xs.size ys.size≤sizeLine)
  (h:∀h' tk ws,KV (putAll (keys.zip vals) []) ws→h'.DictOf (mixKind prog w) s.heap.objs.size ws→(∀c o,c∉[z,TO,i1,i2]→s.heap.get? c=some o→h'.get? c=some o)→Q (.ref s.heap.objs.size) { s with heap:=h',toks:=tk }) :
  wpAny (model prog w) A (call (.type "dict") [.ref z]) Q E s:=by
 refine callType_codes (Q₁:=fun obj s₁=>obj=.ref s.heap.objs.size∧s₁={ s with heap:=s.heap.push { cls:=.type "dict", data:=.dict #[] } }) F.kt_called_dict (F.kt_typeCall_dict_1 _) F.entry_dict_init (kt_code_dict_new _ ⟨rfl,rfl⟩) ?_
 rintro obj s₁ ⟨rfl,rfl⟩
 have hnew:(s.heap.push { cls:=.type "dict", data:=.dict #[] }).DictOf (mixKind prog w) s.heap.objs.size []:=Heap.DictOf.new s.heap
 have up:∀c o,s.heap.get? c=some o→(s.heap.push { cls:=.type "dict", data:=.dict #[] }).get? c=some o:=fun c o e=>Heap.get?_push_of_some _ e
 refine ⟨hnew.typeIs,F.args_dict_init_2 _ _,?_⟩
 unfold Builtin.«dict.__init__»
 refine wpAny_bind ?_
 unfold Builtin.Dict.selfAndRest
 refine wpAny_bind (wpAny_notOrdered_dict hnew.typeIs ?_)
 show wpAny _ _ (pure (s.heap.objs.size,[Value.ref z])) _ _ _
 refine wpAny_pure ?_
 show wpAny _ _ (Builtin.Dict.updateFrom "dict.__init__" s.heap.objs.size (.ref z) [] .none) _ _ _
 unfold Builtin.Dict.updateFrom
 refine wpAny_bind (wpAny_typeOf (show Shared.TypeIs _ (.ref z) "zip" from ⟨_,up _ _ hz,rfl⟩) ?_)
 rw [if_pos (by decide)]
 refine wpAny_bind (zd9 (up _ _ hz) (by first|exact hh|(show A.handled=none;exact hh)) fun h1 tk1 e1 nx=>?_)
 rw [if_pos (show (none:Option Value).isNone=true from rfl)]
 refine wpAny_bind (wpAny_rule ?_)
 refine wpAny_bind (wpAny_pyIter_zip (nx.keeps _ _ (up _ _ hz)) ?_)
 refine wpAny_pure ⟨plainId_quiet zds _,?_⟩
 refine dzl (A:=A.in1) (d:=s.heap.objs.size) (show A.handled=none from hh) D P hk hv (min xs.size ys.size) 0 { s with heap:=h1,toks:=tk1 } [] [] rfl (Nat.zero_le _) ((st.push up).push nx.keeps) .nil (let ⟨o,es,ep,ho,r⟩:=hnew;⟨o,es,ep,nx.keeps _ _ ho,r⟩) (by simpa using hsz) fun h' tk ws rel dd kk=>?_
 refine ⟨rfl,h h' tk ws (by simpa using rel) dd fun c o nc e=>kk c o ?_ (nx.keeps _ _ (up _ _ e))⟩
 intro q
 rcases List.mem_cons.mp q with q|q
 ·exact absurd (Heap.lt_size e) (by rw [q];exact Nat.lt_irrefl _)
 ·exact nc q
end
theorem zi4:bootBuiltins "dict" = some (.type "dict"):=by decide +kernel
def tDZ (K:Frag) (ta:TA):TE:=fun σ H Q=>ta σ H fun vs H1=>∃(a b:Addr) (keys:List Key) (ys:List V),vs=[.ref a,.ref b]∧SqT K H1 a (keys.map kV)∧SqT K H1 b ys∧∀q,H1 q=none→Q (.ref q) (upd H1 q (.dK (putAll (keys.zip ys) [])))
theorem zdt:∀(ps:List (Key×V)) (kvs:List (Key×V)),(putAll ps kvs).length≤kvs.length+ps.length
 | [],kvs=>by simp [putAll]
 | p::ps,kvs=>by
  have h1:=zdt ps (putK kvs p.1 p.2)
  have h2:=zcd kvs p.1 p.2
  show (putAll ps (putK kvs p.1 p.2)).length≤_
  simp only [List.length_cons]
  omega
theorem zhQ {X:Cx} {x y:Expr} {ta:TA} {p pos p0 pos0:Pos} (hc:X.calm=true) (hg0:Gl X "dict") (hm0:X.mg "dict" = none) (hg:Gl X "zip") (hm:X.mg "zip" = none) (ha:PA X [x,y] ta) (hs:starEach [x,y] X.env=[(false,eval x X.env),(false,eval y X.env)]:=by rfl) (hs2:starEach [y] X.env=[(false,eval y X.env)]:=by rfl) :
  PE X (.Call (.Name "dict" p0) [.Call (.Name "zip" p) [x,y] [] pos] [] pos0) (tDZ X.K ta):=by
 intro pins s σ H Q I h
 refine Call_ (zcV I hg0 hm0 zi4 (PyProof.Rows.callWith_type1 ?_ rfl rfl))
 show wpAny _ _ (spliced ((false,eval (.Call (.Name "zip" p) [x,y] [] pos) X.env)::backTo pos0 (starEach [] X.env))) _ _ s
 refine Calls.spliced_cons ?_
 refine Call_ (zcV I hg hm zfc (PyProof.Rows.callWith_type1 (thn (ha pos pins s σ H _ I h) fun us s1 ⟨vs,H1,I1,r1,q1⟩=>?_) (by rw [hs,hs2]) (by rw [hs2];rfl)))
 obtain ⟨a,b,keys,ys,e,hq1,hq2,q⟩:=q1
 subst e
 obtain ⟨u,v,rfl,ru,rv⟩:=zib r1
 obtain rfl:u=Value.ref a:=ru
 obtain rfl:v=Value.ref b:=rv
 obtain ⟨its1,rv1,p1,len1⟩:=I1.tuple hq1
 obtain ⟨its2,rv2,p2,len2⟩:=I1.tuple hq2
 refine ziA p1 p2 fun st=>Calls.spliced_nil ?_
 have kk:∀c o,s1.heap.get? c=some o→(zt5 s1.heap a b).get? c=some o:=fun c o e=>Heap.get?_push_of_some _ (Heap.get?_push_of_some _ (Heap.get?_push_of_some _ (Heap.get?_push_of_some _ (Heap.get?_push_of_some _ e))))
 have sz5:(zt5 s1.heap a b).objs.size=s1.heap.objs.size+5:=by
  have z1:(zt1 s1.heap a).objs.size=s1.heap.objs.size+1:=Heap.size_push ..
  have z2:(zt2 s1.heap a b).objs.size=s1.heap.objs.size+2:=by rw [Heap.size_push,z1]
  have z3:(zt3 s1.heap a b).objs.size=s1.heap.objs.size+3:=by rw [Heap.size_push,z2]
  have z4:(zt4 s1.heap a b).objs.size=s1.heap.objs.size+4:=by rw [Heap.size_push,z3]
  rw [Heap.size_push,z4]
 have la:a<s1.heap.objs.size:=let ⟨o,g,_⟩:=p1;Heap.lt_size g
 have lb:b<s1.heap.objs.size:=let ⟨o,g,_⟩:=p2;Heap.lt_size g
 have D:ZipApart (s1.heap.objs.size+4) (s1.heap.objs.size+2) (s1.heap.objs.size+3) s1.heap.objs.size (s1.heap.objs.size+1) a b:=by
  generalize hn:s1.heap.objs.size=n at la lb ⊢
  have la':@LT.lt Nat _ a n:=la
  have lb':@LT.lt Nat _ b n:=lb
  constructor<;>(intro q;have q':=(show @Eq Nat _ _ from q);omega)
 have P:Ap (zt5 s1.heap a b).objs.size (s1.heap.objs.size+4) (s1.heap.objs.size+2) (s1.heap.objs.size+3) s1.heap.objs.size (s1.heap.objs.size+1) a b:=by
  rw [sz5]
  generalize hn:s1.heap.objs.size=n at la lb ⊢
  have la':@LT.lt Nat _ a n:=la
  have lb':@LT.lt Nat _ b n:=lb
  constructor<;>(intro q;have q':=(show @Eq Nat _ _ from q);omega)
 obtain ⟨hz,hTI,⟨u0,v0,hTO⟩,hi1,hi2⟩:=st
 have up1:IsTup (zt5 s1.heap a b) a its1.toArray:=let ⟨o,g,r⟩:=p1;⟨o,kk _ _ g,r⟩
 have up2:IsTup (zt5 s1.heap a b) b its2.toArray:=let ⟨o,g,r⟩:=p2;⟨o,kk _ _ g,r⟩
 have l1:keys.length≤sizeLine:=by
  rw [List.length_map] at len1
  exact len1
 refine zmt (s:={ s1 with heap:=zt5 s1.heap a b }) (xs:=its1.toArray) (ys:=its2.toArray) (keys:=keys) (vals:=ys) (I.ok.hd hc) D P (by simpa using rv1) (by simpa using rv2) ⟨.inl ⟨hz,u0,v0,hTO⟩,hTI,⟨hi1,up1⟩,⟨hi2,up2⟩⟩ hz ?_ fun h' tk ws rel dd kk'=>?_
 ·have:=rv1.length
  rw [List.length_map] at this
  simp only [List.size_toArray]
  omega
 have keep:∀c o,s1.heap.get? c=some o→h'.get? c=some o:=fun c o e=>by
  have lt:@LT.lt Nat _ c s1.heap.objs.size:=Heap.lt_size e
  refine kk' c o ?_ (kk c o e)
  generalize hn:s1.heap.objs.size=n at lt ⊢
  simp only [List.mem_cons,List.not_mem_nil,or_false,not_or]
  refine ⟨?_,?_,?_,?_⟩<;>(intro q;have q':=(show @Eq Nat c _ from q);omega)
 have hle:s1.heap.objs.size≤(zt5 s1.heap a b).objs.size:=by rw [sz5];exact Nat.le_add_right _ _
 refine ⟨.ref (zt5 s1.heap a b).objs.size,_,I1.laid (a:=(zt5 s1.heap a b).objs.size) (o:=.dK (putAll (keys.zip ys) [])) (t':=tk) keep hle ?_,rfl,q _ (I1.hok.fresh hle)⟩
 refine zk1 ?_ ?_ rel dd
 ·have:=zdt (keys.zip ys) []
  rw [List.length_zip] at this
  simp only [List.length_nil,Nat.zero_add] at this
  omega
 ·refine beq_eq_false_iff_ne.mpr (Ne.symm (Nat.ne_of_lt ?_))
  exact Nat.lt_of_lt_of_le I1.big hle
end L2
namespace L2
open PySem PySem.Spec PyProof.Rows PySem.W
def sTryEx (C:Addr) (j:Nat) (tv:TX) (tsu:TS):TS:=fun D σ H=>tv σ H (fun _ H1=>D.nx σ H1)
 (fun c d H1=>c=.ref C∧∀a,H1 a=none→tsu { nx:=fun σ' H'=>D.nx (σ'.set j none) H',rt:=D.rt } (σ.set j (some (.ref a))) (upd H1 a (exC C d a)))
theorem zkv {X:Cx} {C:Addr} {j:Nat} {n cls:Str} {value:Expr} {tv:TX} {tsu:TS} {b0:Stmt} {suite:List Stmt} {ap cp hp pos:Pos} (hN:X.N.Nodup) (hj:X.N[j]?=some n) (hn:X.env.scope.names.lookup n=some .local)
  (hv:PX X value tv) (hg:Gl X cls) (hm:X.mg cls=some (.ref C)) (hC:ExOf X.K C) (hsu:∀a,PSs (X.caught a) (b0::suite) tsu) (hst:X.stack=X.env::X.outer) (hfr:X.env.frame=some X.env.locals)
  (hsw:swapsWith value none ap.line X.env=pure false:=by rfl) (hdb:(cls==("__debug__" : Str))=false:=by decide) :
  PS X (.Try [.Expr value ap] [.ExceptHandler (some (.Name cls cp)) (some n) (b0::suite) hp] [] [] pos) (sTryEx C j tv tsu):=by
 intro pins s σ H D I h
 rw [arm_exec_Try]
 refine wpAny_bind (wpAny_standAt (wpAny_tryStmt_except (wpAny_execs_cons (wpAny_Expr_any (wpAny_mono (hv pins s σ H _ _ I h) (fun v s1 ⟨y,H1,I1,r1,q1⟩=>?_) (fun u s1 ⟨a,C',d,H1,eu,I1,fly,ec,q⟩=>?_)) I.quiet hsw))))
 ·exact wpAny_execs_nil (wpAny_execs_nil ⟨_,H1,I1,q1⟩)
 subst eu
 cases ec
 refine zgX I1 I.ok.frames hst hfr fly fun s2 T I2 x2 ne tb2 oa oT=>zfa I2 x2 ne tb2 oa oT fun s3 I3 x3 tb3=>?_
 refine wpAny_handleBy_cons (codeAny_handlers_test ?_) (by intro q;cases q)
 refine zel (X:=X.caught a) (Inv.caught I3 a) hg hm ?_ hdb
 obtain ⟨⟨nm,q',N,bs,bm,hdct,sn,sub,ab,col,dd,k0,k1,k2,k3,k5,hl,ht,_⟩,_⟩:=hC
 have hCl:=I3.kIn _ _ hl
 have hbase:bm.contains (.type "BaseException")=true:=(tail_of_in I3.kIn ht).hasType (by decide)
 obtain ⟨oe,vs,he,hcls,_⟩:=id x3
 refine wpAny_excMatches_sub_self (h:=s3.heap) (g:=s3.gens) (d:=s3.drawn) (t:=s3.toks) (os:=s3.os) hCl he hcls hbase ?_
 refine codeAny_handlers_suite_as (zfa I3 x3 ne tb3 oa oT fun s4 I4 x4 tb4=>?_)
 have I5:=Inv.catch I4 oa x4
 refine zdi I5 hN hj (.inl hn) (v:=.ref a) rfl (fun s5 I6=>?_) (.inr hn)
 refine wpAny_mono (hsu a pins s5 _ _ _ (Inv.caught I6 a) (q a oa.1)) (fun f s6 z=>?_) fun _ _ z=>z.elim
 cases f with
 | next =>
  obtain ⟨σ',H',I7,q7⟩:=z
  exact ziy (Inv.uncaught I.ok I7) hN hj hn fun s7 I8=>⟨_,H',I8,q7⟩
 | brk=>obtain ⟨_,_,_,z⟩:=z;exact z.elim
 | cont=>obtain ⟨_,_,_,z⟩:=z;exact z.elim
 | ret u =>
  obtain ⟨v,σ',H',I7,r7,q7⟩:=z
  exact ziy (Inv.uncaught I.ok I7) hN hj hn fun s7 I8=>⟨v,_,H',I8,r7,q7⟩
end L2
namespace Mi
open PySem L2 PySem.W PySem.Spec
section
variable {X:Cx} {K:Frag} {mg:Str→Option Value} {Er:XK} {e o:Expr} {es:List Expr} {pos p apos:Pos} {k:Nat} {x:Str} {m:List PV→Mo PV} {fs:PEnv→Mo (List PV)} {fo fa:PEnv→Mo PV}
theorem zi5 {pl:Sem Bool} {name:Str} {ta:TE} (he:PE X.nox o ta) (hr:Room k X.A)
  (ht:eval (.Call (.Attribute o name apos) [] [] pos) X.env=(do
   let ov ←eval o X.env
   standAt apos.atName
   let (f,first) ←holding [ov] (getMethod ov name pl)
   callWith pos f first (backTo pos (starEach [] X.env)) (backToKw pos (keywordEach [] X.env))):=by rfl) :
  PX X (.Call (.Attribute o name apos) [] [] pos) (tMethDX X name k ta tNil):=by
 intro pins s σ H Q E I h
 refine PySem.W.methodCall_KW (pl:=pl) (wpAny_mono (he pins s σ H _ (I.wish _) h) (fun u s1 ⟨x,H1,I1,rx,a,C,dx,fs,f,fd,ps,sp,ex,ea,l,c,hm,hb,F,q⟩=>?_) fun _ _ z=>z.elim) ht
 subst ex
 obtain rfl:u=Value.ref a:=rx
 refine zdI I1.unwish ea c hm l ?_
 exact PySem.W.callWith_K0 (first:=[.ref a]) I1.unwish.kIn hm.kp (zlR (us:=[.ref a]) (vs:=[.ref a]) F hr hb .nil I1.unwish (.cons rfl .nil) (by rw [List.append_nil];exact q))
theorem zkw {pl:Sem Bool} {name:Str} {tab:Str→Option (List PV→Mo PV)} (hT:∀c m,tab c=some m→MOk X.prog X.w X.K X.mg X.base c name k m) (ho:ME X.nox E0 o fo) (hr:Room k X.A)
  (hev:eval (.Call (.Attribute o name apos) [] [] pos) X.env=(do
   let ov ←eval o X.env
   standAt apos.atName
   let (f,first) ←holding [ov] (getMethod ov name pl)
   callWith pos f first (backTo pos (starEach [] X.env)) (backToKw pos (keywordEach [] X.env))):=by rfl) :
  MX X (.Call (.Attribute o name apos) [] [] pos) (xMeth name tab fo aNil) :=
 PX.weak (zi5 (pl:=pl) ho hr hev) fun σ H Q E ⟨env,st,ρ,re,rs,h⟩=>⟨env,st,ρ,re,rs,zb2 h fun ρ1 H1 x st1 e1 s1 h1 v rv=>by
  obtain ⟨n,c,ks,xs,m,rfl,hn,hk,hc,h1⟩:=zdM h1
  obtain ⟨C,f,fd,ps,hC,cl,hm,hb,F⟩:=hT c m hc
  obtain ⟨p,rfl,hp⟩:=rv
  obtain ⟨C',dx,vs,hC',hH,hR,hl⟩:=s1.addr hn hp
  rw [hC] at hC'
  cases hC'
  exact ⟨p,C,dx,_,f,fd,ps,_,rfl,hH,zcf hk,cl,hm,hb,F,⟨[.ref n],st1,ρ1,⟨_,_,rfl,⟨p,rfl,hp⟩,rfl⟩,s1,h1⟩⟩⟩
def tryFl (j:Nat):Fl→Mo Fl
 | .nx e,st=>.ok (.nx (e.set j none)) st
 | .rt x,st=>.ok (.rt x) st
 | _,_=>.stuck
def sTryE (j:Nat) (cn:Str) (fv:PEnv→Mo PV) (suite:PEnv→Mo Fl):PEnv→Mo Fl:=fun env st=>match fv env st with
 | .ok _ st1=>.ok (.nx env) st1
 | .err c ks xs st1=>if c=cn∧ks≠[] then (noErr (suite (env.set j (some (.exo c ks xs))) st1)).bind (tryFl j) else .stuck
 | .stuck=>.stuck
theorem zmu (j:Nat) {n cn:Str} {value:Expr} {fv:PEnv→Mo PV} {gs:PEnv→Mo Fl} {b0:Stmt} {suite:List Stmt} {ap cp hp:Pos} (hC:∃C,X.mg cn=some (.ref C)∧ExOf X.K C) (hv:MX X value fv) (hsu:∀a,MSs (X.caught a) E0 (b0::suite) gs) (hN:X.N.Nodup)
  (hst:X.stack=X.env::X.outer:=by rfl) (hfr:X.env.frame=some X.env.locals:=by rfl) (hj:X.N[j]?=some n:=by rfl) (hn:X.env.scope.names.lookup n=some .local:=by rfl) (hg:Gl X cn:=by rfl)
  (hsw:swapsWith value none ap.line X.env=pure false:=by rfl) (hdb:(cn==("__debug__" : Str))=false:=by decide) :
  MS X Er (.Try [.Expr value ap] [.ExceptHandler (some (.Name cn cp)) (some n) (b0::suite) hp] [] [] pos) (sTryE j cn fv gs):=by
 obtain ⟨C,hm,hC⟩:=hC
 exact PS.weak (zkv (tsu:=sM X.K X.mg E0 gs) hN hj hn hv hg hm hC hsu hst hfr hsw hdb) fun D σ H ⟨env,st,ρ,re,rs,h⟩=>by
  refine ⟨env,st,ρ,re,rs,?_⟩
  unfold sTryE at h
  cases hr:fv env st with
  | ok y st1 =>
   rw [hr] at h
   exact fun ρ1 H1 e1 s1 v rv=>h ρ1 H1 e1 s1 _ (re.ext e1)
  | stuck=>rw [hr] at h;exact False.elim h
  | err c ks xs st1 =>
   simp only [hr] at h
   obtain ⟨⟨hcn,hk⟩,h2⟩:=Out.ifp h
   subst hcn
   intro ρ1 H1 Cv d e1 s1 xr
   obtain ⟨C',rfl,hm',hd⟩:=xr
   rw [hm] at hm'
   cases hm'
   refine ⟨rfl,fun q hq=>?_⟩
   rcases hd with ⟨hk',_⟩|⟨dd,vs,rfl,hdd,hR,hl⟩
   ·exact absurd hk' hk
   ·have eq:Ext ρ1 H1 ρ1 (upd H1 q (exC C (some dd) q)):=Ext.new hq
    refine ⟨env.set j (some (.exo c ks xs)),st1,ρ1,((re.ext e1).ext eq).set j ⟨q,C,dd,vs,rfl,hm,zx,eq.imm _ _ hdd rfl,Rs.ext eq xs hR,hl⟩,s1.new hq,zb2 (Out.ext h2 (e1.trans eq)) fun ρ2 H2 fl st2 e2 s2 h2=>?_⟩
    cases fl with
    | nx e=>exact fun σ2 r2=>Out.fl (D:=D) (fl:=.nx (e.set j none)) (E:=Er) h2 s2 _ (r2.unset j)
    | rt y=>exact fun v2 r2=>Out.fl (D:=D) (fl:=.rt y) (E:=Er) h2 s2 _ r2
    | _=>exact False.elim h2
end
end Mi
namespace Mi
open PySem L2 PySem.W PySem.Spec
section
variable {X:Cx} {K:Frag} {mg:Str→Option Value} {Er:XK} {e o:Expr} {es:List Expr} {pos p apos:Pos} {fs:PEnv→Mo (List PV)} {fo fa:PEnv→Mo PV}
def oPop:PV→Mo PV
 | .ref n,st=>withL st n fun xs=>match xs[xs.length-1]? with
  | some y=>.ok y (st.set n (.lst xs.dropLast))
  | none=>.stuck
 | _,_=>.stuck
theorem Rs.dropLast:∀{ρ:List Addr} {H:Hp} {xs:List PV} {vs:List V},Rs K mg ρ H xs vs→Rs K mg ρ H xs.dropLast vs.dropLast:=by
 intro ρ H xs vs h
 rw [List.dropLast_eq_take,List.dropLast_eq_take,h.len]
 exact h.take _
theorem zn6 {cpos:Pos} (ho:ME X Er o fo) (hbase:attributeBase o "pop" X.env (eval o X.env)=eval o X.env:=by rfl) (hline:(apos.endLine==cpos.line)=true:=by rfl):ME X Er (.Call (.Attribute o "pop" apos) [] [] cpos) (mUn oPop fo) :=
 PE.weak (zkZ PySem.F.plainAttrs_list PySem.F.slot_list_pop PySem.F.type_list_pop znA ho hbase hline) fun σ H Q ⟨env,st,ρ,re,rs,h⟩=>⟨env,st,ρ,re,rs,h.then fun ρ1 H1 x st1 e1 s1 h1 v rv=>by
  cases x with
  | ref n =>
   obtain ⟨xs,hn,h1⟩:=zE h1
   obtain ⟨a,vs,rfl,ha,k1,k2⟩:=R.refL s1 rv hn
   cases hy:xs[xs.length-1]? with
   | none=>simp only [hy] at h1;exact False.elim h1
   | some y =>
    simp only [hy] at h1
    obtain ⟨w,hw,rw'⟩:=k2.get hy
    have ew:Ext ρ1 H1 ρ1 (upd H1 a (.lst vs.dropLast)):=Ext.write k1 rfl
    refine ⟨.inl ⟨rfl,vs,SqL.of k1⟩,a,vs,w,rfl,rfl,k1,by rw [←k2.len];exact hw,h1 ρ1 _ ew (s1.write ha ew ⟨_,zx,Rs.ext ew _ k2.dropLast⟩) _ (R.ext ew y rw')⟩
  | _=>exact False.elim h1⟩
def augGet (f:Str) (ins:Str→Bool) (o:PV) (st:Sto) (k:Nat→Str→Int→Res Fl):Res Fl:=match o with
 | .ref n=>withI st n fun c ks xs=>if ins c=true then match (ks.zip xs).lookup f with
  | some (.int i)=>k n c i
  | _=>.stuck
  else .stuck
 | _=>.stuck
def augPut (f:Str) (n:Nat) (c:Str) (i:Int) (y:PV) (env:PEnv) (st:Sto):Res Fl:=match y with
 | .int j=>withI st n fun c' ks xs=>if c'=c∧ks.length<1000 then .ok (.nx env) (st.set n (.ins c (putK f (.int (i+j)) ks xs).1 (putK f (.int (i+j)) ks xs).2)) else .stuck
 | _=>.stuck
def sFldAdd (f:Str) (ins:Str→Bool) (fo fv:PEnv→Mo PV):PEnv→Mo Fl:=fun env st=>(fo env st).bind fun o st1=>augGet f ins o st1 fun n c i=>(fv env st1).bind fun y st2=>augPut f n c i y env st2
theorem zi6 {f:Str} {ins exc:Str→Bool} {tpos:Pos} (F:FldF X.K X.mg f ins exc) (ho:ME X Er o fo) (he:ME X Er e fa):MS X Er (.AugAssign (.Attribute o f tpos) .Add e pos) (sFldAdd f ins fo fa) :=
 PS.weak (zie ho he znp) fun D σ H ⟨env,st,ρ,re,rs,h⟩=>⟨env,st,ρ,re,rs,h.then fun ρ1 H1 x st1 e1 s1 h1 v rv=>by
  cases x with
  | ref n =>
   obtain ⟨c,ks,xs,hn,h1⟩:=zdl h1
   obtain ⟨hc,h1⟩:=Out.ifp h1
   cases hl:(ks.zip xs).lookup f with
   | none=>simp only [hl] at h1;exact False.elim h1
   | some y =>
    cases y with
    | int i =>
     simp only [hl] at h1
     obtain ⟨p,rfl,hp⟩:=rv
     obtain ⟨C',dx,vs,hC',hH,hR,hlen⟩:=s1.addr hn hp
     obtain ⟨C,hC,cl,na⟩:=F.i c hc
     rw [hC] at hC'
     cases hC'
     obtain ⟨v,hv,rv⟩:=zdn hR hl
     cases rv
     refine ⟨p,_,dx,_,_,rfl,hH,cl,na,hv,env,st1,ρ1,re.ext e1,s1,h1.then fun ρ2 H2 y st2 e2 s2 h2 w rw=>?_⟩
     cases y with
     | int j =>
      obtain ⟨c2,ks2,xs2,hn2,h2⟩:=zdl h2
      obtain ⟨⟨hcc,hk2⟩,h2⟩:=Out.ifp h2
      subst hcc
      cases rw
      have hp2:=e2.get hp
      obtain ⟨C2,dx2,vs2,hC2,hH2,hR2,hl2⟩:=s2.addr hn2 hp2
      rw [hC] at hC2
      cases hC2
      obtain ⟨ws,k1,k2,k3⟩:=ziP (f:=f) (x:=PV.int (i+j)) (v:=V.int (i+j)) (K:=X.K) (mg:=X.mg) (ρ:=ρ2) (H:=H2) rfl hl2 hR2
      refine ⟨i,j,rfl,rfl,dx2,_,hH2,?_,?_⟩
      ·rw [List.length_zip,←hl2];omega
      ·have ew:Ext ρ2 H2 ρ2 (upd H2 p (.ins C' dx2 (putF f (V.int (i+j)) (ks2.zip vs2)))):=Ext.write hH2 rfl
       exact h2 ρ2 _ ew (s2.write hp2 ew ⟨_,dx2,ws,hC,by rw [zx,k1],Rs.ext ew _ k2,k3⟩) σ (((re.ext e1).ext e2).ext ew)
     | _=>exact False.elim h2
    | _=>simp only [hl] at h1;exact False.elim h1
  | _=>exact False.elim h1⟩
def strsOf:List PV→Option (List Str)
 | []=>some []
 | .str z::r=>(strsOf r).map (z::·)
 | _::_=>none
def dPuts:List (Str×PV)→List Str→List PV→List Str×List PV
 | [],ks,xs=>(ks,xs)
 | q::r,ks,xs=>dPuts r (dPut q.1 q.2 ks xs).1 (dPut q.1 q.2 ks xs).2
theorem zg7 {ρ:List Addr} {H:Hp}:∀{xs:List PV} {zs:List Str} {vs:List V},strsOf xs=some zs→Rs K mg ρ H xs vs→vs=(zs.map Sum.inr:List Key).map kV
 | [],zs,vs,e,h=>by cases e;cases h;rfl
 | .str z::r,zs,vs,e,h=>by
  simp only [strsOf,Option.map_eq_some_iff] at e
  obtain ⟨zr,e1,rfl⟩:=e
  obtain ⟨v,r',rfl,h1,h2⟩:=h
  cases h1
  rw [zg7 e1 h2]
  rfl
 | .non::_,_,_,e,_=>by cases e
 | .bl _::_,_,_,e,_=>by cases e
 | .int _::_,_,_,e,_=>by cases e
 | .ty _::_,_,_,e,_=>by cases e
 | .tup _::_,_,_,e,_=>by cases e
 | .frl _::_,_,_,e,_=>by cases e
 | .ref _::_,_,_,e,_=>by cases e
 | .fn _::_,_,_,e,_=>by cases e
 | .kd _ _::_,_,_,e,_=>by cases e
 | .exo _ _ _::_,_,_,e,_=>by cases e
theorem zi7 {ρ:List Addr} {H:Hp}:∀{zs:List Str} {ys:List PV} {us:List V} {ks:List Str} {xs:List PV} {vs:List V},Rs K mg ρ H ys us→Rs K mg ρ H xs vs→ks.length=vs.length →
  ∃ws,putAll ((zs.map Sum.inr:List Key).zip us) (kz ks vs)=kz (dPuts (zs.zip ys) ks xs).1 ws∧Rs K mg ρ H (dPuts (zs.zip ys) ks xs).2 ws∧(dPuts (zs.zip ys) ks xs).1.length=ws.length
 | [],ys,us,ks,xs,vs,_,h,hl=>⟨vs,rfl,h,hl⟩
 | z::zs,[],us,ks,xs,vs,hy,h,hl=>by
  cases hy
  exact ⟨vs,rfl,h,hl⟩
 | z::zs,y::ys,us,ks,xs,vs,hy,h,hl=>by
  obtain ⟨u,r,rfl,h1,h2⟩:=hy
  obtain ⟨ws,q1,q2,q3⟩:=zle (z:=z) h1 hl h
  obtain ⟨ws',p1,p2,p3⟩:=zi7 (zs:=zs) h2 q2 q3
  refine ⟨ws',?_,p2,p3⟩
  show putAll _ (L2.putK (kz ks vs) (Sum.inr z) u)=_
  rw [q1]
  exact p1
def oDZip:List PV→Mo PV
 | [.tup xs,.tup ys],st=>match strsOf xs with
  | some zs=>.ok (.ref st.length) (st++[.dic (dPuts (zs.zip ys) [] []).1 (dPuts (zs.zip ys) [] []).2])
  | none=>.stuck
 | _,_=>.stuck
theorem zi8 {x y:Expr} {p0 pos0:Pos} (hc:X.calm=true) (hm0:X.mg "dict" = none) (hm:X.mg "zip" = none) (ha:MA X Er [x,y] fs) (hg0:Gl X "dict" := by rfl) (hg:Gl X "zip" := by rfl)
  (hs:starEach [x,y] X.env=[(false,eval x X.env),(false,eval y X.env)]:=by rfl) (hs2:starEach [y] X.env=[(false,eval y X.env)]:=by rfl):ME X Er (.Call (.Name "dict" p0) [.Call (.Name "zip" p) [x,y] [] pos] [] pos0) (mCall oDZip fs) :=
 PE.weak (zhQ hc hg0 hm0 hg hm ha hs hs2) fun σ H Q ⟨env,st,ρ,re,rs,h⟩=>⟨env,st,ρ,re,rs,h.then fun ρ1 H1 xs st1 e1 s1 h1 vs rv=>by
  unfold oDZip at h1
  split at h1
  ·rename_i st' xs' ys'
   obtain ⟨v,w,rfl,r1,r2⟩:=rv.two
   obtain ⟨a,vs1,rfl,t1,q1⟩:=r1
   obtain ⟨b,vs2,rfl,t2,q2⟩:=r2
   cases hz:strsOf xs' with
   | none=>simp only [hz] at h1;exact False.elim h1
   | some zs =>
    simp only [hz] at h1
    have ev:=zg7 hz q1
    subst ev
    refine ⟨a,b,_,_,rfl,t1,t2,fun q hq=>?_⟩
    have eq:Ext ρ1 H1 (ρ1++[q]) (upd H1 q (.dK (putAll ((zs.map Sum.inr:List Key).zip vs2) []))):=Ext.push hq
    obtain ⟨ws,k1,k2,k3⟩:=zi7 (K:=X.K) (mg:=X.mg) (zs:=zs) (ks:=[]) (xs:=[]) (vs:=[]) q2 rfl rfl
    exact h1 (ρ1++[q]) _ eq (s1.push hq ⟨ws,by rw [zx];exact congrArg (fun t=>some (HO.dK t)) k1,Rs.ext eq _ k2,k3⟩) _ ⟨q,rfl,by rw [←s1.len];simp⟩
  ·exact False.elim h1⟩
end
end Mi
namespace L2
open PySem PySem.Spec PyProof.Rows PySem.W
def Ite (K:Frag) (a:Addr):It :=
 ⟨fun i H=>∃xs x,SqL K H a xs∧xs[i]?=some x,
  fun i H v H'=>∃T x,H T=none∧v=.ref T∧H'=upd H T (.tup [.int i,x])∧∀xs,SqL K H a xs→xs[i]?=some x,
  fun i H=>∃xs,SqL K H a xs∧xs.length≤i⟩
def Est (e it a:Addr) (k:Nat) (h:Heap):Prop:=(∃old,IsEnum h e it k old)∧h.IsListIter it a k
theorem zi9 {X:Cx} {pins:List (Addr×Obj)} {σ:St} {H:Hp} {s:Shared} {a c:Addr} {xs:List V} (I:Inv X pins σ H s) (hf:FpOk X pins H c) (hq:SqL X.K H a xs):a≠c:=by
 rintro rfl
 rcases hq with q|⟨o,its,n,hl,_⟩
 ·rcases q with q|⟨ob,q⟩<;>(rw [hf.1] at q;cases q)
 ·have e:=I.ok.mod.kin _ _ hl
  rcases hf.2.2.2.1 with z|z
  ·exact I.ok.noex _ _ e z
  ·exact absurd (Nat.lt_of_lt_of_le (Heap.lt_size (I.ok.bs _ _ e).1) z) (Nat.lt_irrefl _)
theorem zja {P:Program} {w:World} {K:Frag} {elts:List Expr} {kt:Nat} {pos:Pos} {e it a:Addr} (ne:e≠it):Turn P w K (.Tuple elts kt pos) (Ite K a) [e,it] e (Est e it a) where
 mem:=by simp
 obj:=fun i h st c hc=>by
  obtain ⟨⟨old,he⟩,⟨o1,e1,_,d1⟩⟩:=st
  simp only [List.mem_cons,List.not_mem_nil,or_false] at hc
  rcases hc with q|q<;>rw [q]
  ·exact ⟨_,he,fun v z=>by cases z⟩
  ·exact ⟨_,e1,fun v z=>by rw [d1] at z;cases z⟩
 keep:=fun i h h' st k=>by
  obtain ⟨⟨old,he⟩,⟨o1,e1,r1⟩⟩:=st
  exact ⟨⟨old,k e (by simp) _ he⟩,⟨o1,k it (by simp) _ e1,r1⟩⟩
 item:=by
  intro X hP hw hK hc i pins s σ H E I hf st hg
  subst hP hw hK
  obtain ⟨xs,x,hq,hx⟩:=hg
  obtain ⟨⟨old,he⟩,hit⟩:=st
  obtain ⟨its,rv,p,hz⟩:=I.list hq
  obtain ⟨u,hu,ru⟩:=rv.get hx
  have n1:∀c∈[e,it],a≠c:=fun c h=>zi9 I (hf c h) hq
  refine wpAny_pyNext_enum_item he hit p.isList (x:=u) (by simpa using hu) ne fun h1 eo hit1 pT hsz kk=>⟨_,rfl,?_⟩
  refine wpAny_letOwnedTupleGo_enum (s:={ s with heap:=h1,toks:=s.toks+1 }) eo fun h2 e2 sb=>?_
  have fr:H s.heap.objs.size=none:=I.hok.fresh (Nat.le_refl _)
  have up:∀c o,c≠e→h1.get? c=some o→h2.get? c=some o:=fun c o n q=>sb.extBut _ _ n q
  have nz:s.heap.objs.size≠e:=Nat.ne_of_gt (Heap.lt_size he)
  have k2:∀c o,c∉[e,it]→s.heap.get? c=some o→h2.get? c=some o:=fun c o nc q=>up c o (fun z=>nc (by simp [z])) (kk c o (fun z=>nc (by simp [z])) (fun z=>nc (by simp [z])) q)
  refine ⟨.ref s.heap.objs.size,upd H s.heap.objs.size (.tup [.int i,x]),?_,rfl,⟨s.heap.objs.size,x,fr,rfl,rfl,fun ys hy=>by rw [I.list_inj hy hq];exact hx⟩,?_,fun c hc'=>?_⟩
  ·exact Inv.turnN (s:=s) (h':=h2) (t':=s.toks+1) I hf k2 (Nat.le_refl _) ⟨show 2≤sizeLine by decide,[.int i s.toks,u],.cons ⟨_,rfl⟩ (.cons ru .nil),_,up _ _ nz pT,rfl,_,rfl⟩
  ·refine ⟨⟨u,by rw [show ((i+1:Nat):Int)=(i:Int)+1 from rfl];exact e2⟩,let ⟨o,q,r⟩:=hit1;⟨o,up _ _ ne.symm q,r⟩⟩
  ·have lt:∃o,s.heap.get? c=some o:=by
    simp only [List.mem_cons,List.not_mem_nil,or_false] at hc'
    rcases hc' with q|q<;>rw [q]
    ·exact ⟨_,he⟩
    ·exact let ⟨o,q,_⟩:=hit;⟨o,q⟩
   obtain ⟨o,q⟩:=lt
   have z:c≠s.heap.objs.size:=Nat.ne_of_lt (Heap.lt_size q)
   rw [zu z]
   exact (hf c hc').1
 done:=by
  intro X hP hw hK hc i pins s σ H E I hf st hg
  subst hP hw hK
  obtain ⟨xs,hq,hx⟩:=hg
  obtain ⟨⟨old,he⟩,hit⟩:=st
  obtain ⟨its,rv,p,hz⟩:=I.list hq
  have hl:=rv.length
  refine wpAny_pyNext_enum_end (I.ok.hd hc) he hit p.isList (by simp;omega) fun h' eb=>⟨rfl,?_⟩
  exact Inv.turnL (ch:=[e,it]) (t':=s.toks) I hf fun c o nc q=>eb c o (fun z=>nc (by simp [z])) q
 self:=fun _ _ _ _ _ st h=>by
  obtain ⟨⟨old,he⟩,_⟩:=st
  exact wpAny_pyIter_enum he h
theorem zjb:bootBuiltins "enumerate" = some (.type "enumerate"):=by decide +kernel
def iEnu (K:Frag) (ta:TA):TI:=fun σ H R=>ta σ H fun vs H1=>∃a,vs=[.ref a]∧(∃xs,SqL K H1 a xs)∧R (Ite K a) H1
theorem zmv {X:Cx} {elts:List Expr} {kt:Nat} {tp:Pos} {x:Expr} {ta:TA} {p pos:Pos} (hg:Gl X "enumerate") (hm:X.mg "enumerate" = none) (ha:PA X [x] ta) (hs:starEach [x] X.env=[(false,eval x X.env)]:=by rfl) :
  PI X (.Tuple elts kt tp) (.Call (.Name "enumerate" p) [x] [] pos) (iEnu X.K ta):=by
 intro pins s σ H R I h
 refine Call_ (zcV I hg hm zjb (PyProof.Rows.callWith_type1 (thn (ha pos pins s σ H _ I h) fun us s1 ⟨vs,H1,I1,r1,q1⟩=>?_) hs rfl))
 obtain ⟨a,e,⟨xs,hq⟩,q⟩:=q1
 subst e
 obtain ⟨u,rfl,ru⟩:=r1.one
 obtain rfl:u=Value.ref a:=ru
 obtain ⟨its,_,p1,_⟩:=I1.list hq
 refine call_enumerate_list p1.isList fun h' he hit hsz kk=>wpAny_pyIter_enum he ?_
 have ne:∀(n:Nat),n+1≠n:=fun n z=>by omega
 refine ⟨_,[s1.heap.objs.size+1,s1.heap.objs.size],_,_,H1,rfl,I1.kept (t':=s1.toks) kk,zja (ne _),⟨⟨_,he⟩,hit⟩,fun c hc=>?_,q⟩
 have le:s1.heap.objs.size≤c:=by
  simp only [List.mem_cons,List.not_mem_nil,or_false] at hc
  rcases hc with q|q<;>rw [q]<;>first|exact Nat.le_refl _|exact Nat.le_add_right _ _
 exact I1.fpOk le (I1.hok.fresh le)
end L2
namespace Mi
open PySem L2 PySem.W PySem.Spec
section
variable {X:Cx} {Er:XK} {pos:Pos} {sts:List Stmt} {gb:PEnv→Mo Fl} {fs:PEnv→Mo (List PV)}
def forE (g:PV→PEnv→Option PEnv) (body:PEnv→Mo Fl) (n:Nat):Nat→Nat→PEnv→Mo Fl
 | 0,_,_,_=>.stuck
 | m+1,i,env,st=>withL st n fun xs=>match xs[i]? with
  | none=>.ok (.nx env) st
  | some x=>match g (.tup [.int i,x]) env with
   | none=>.stuck
   | some env1=>(body env1 st).bind fun fl st2=>match fl with
    | .nx e=>forE g body n m (i+1) e st2
    | .ct e=>forE g body n m (i+1) e st2
    | .bk e=>.ok (.nx e) st2
    | .rt v=>.ok (.rt v) st2
def oneL:List PV→Mo Nat
 | [.ref n],st=>withL st n fun _=>.ok n st
 | _,_=>.stuck
theorem zfj {α:Type} {K:Frag} {mg:Str→Option Value} {ρ:List Addr} {H:Hp} {vs:List PV} {st:Sto} {f:Nat→Mo α} {good:List Addr→Hp→α→Sto→Prop} (h:Out K mg ρ H ((oneL vs st).bind f) good Er):∃n xs,vs=[.ref n]∧st[n]?=some (.lst xs)∧Out K mg ρ H (f n st) good Er:=by
 unfold oneL at h
 split at h
 ·rename_i n
  unfold withL at h
  cases hn:st[n]? with
  | none=>simp only [hn] at h;exact False.elim h
  | some so =>
   cases so with
   | lst xs=>simp only [hn] at h;exact ⟨n,xs,rfl,hn,h⟩
   | _=>simp only [hn] at h;exact False.elim h
 ·exact False.elim h
def sForE (fs:PEnv→Mo (List PV)) (g:PV→PEnv→Option PEnv) (body:PEnv→Mo Fl):PEnv→Mo Fl:=fun env st=>(fs env st).bind fun vs st1=>(oneL vs st1).bind fun n st1=>forE g body n (lim+1) 0 env st1
theorem zmw {elts:List Expr} {kt:Nat} {tp p ip:Pos} {x:Expr} {gt:PV→PEnv→Option PEnv} (hp:PassesOwn (model X.prog X.w) X.A X.env X.xe) (hc:X.calm=true) (hm:X.mg "enumerate" = none) (ha:MA X Er [x] fs) (hg:MG X Er (.Tuple elts kt tp) gt) (hb:MSs X Er sts gb)
  (hgl:Gl X "enumerate" := by rfl) (hst:starEach [x] X.env=[(false,eval x X.env)]:=by rfl) (hs:∀v,foldedSetIterable (.Call (.Name "enumerate" p) [x] [] ip) X.env v=pure v:=by intro _;rfl) :
  MS X Er (.For (.Tuple elts kt tp) (.Call (.Name "enumerate" p) [x] [] ip) sts [] pos) (sForE fs gt gb) :=
 PS.weak (zh9 hp hc (zmv hgl hm ha hst) hg hb hs) fun D σ H ⟨env,st,ρ,re,rs,h⟩=>⟨env,st,ρ,re,rs,h.then fun ρ0 H0 vs st0 e0 s0 h0 us ru=>by
  obtain ⟨n,xs0,rfl,hn0,h0⟩:=zfj h0
  obtain ⟨v,rfl,rv⟩:=ru.one
  obtain ⟨a,rfl,ha⟩:=rv
  obtain ⟨vs0,hH0,hR0⟩:=s0.addr hn0 ha
  refine ⟨a,rfl,⟨_,SqL.of hH0⟩,?_⟩
  refine ⟨fun i m σ H=>∃env st ρ,EnvR X.K X.mg ρ H env σ∧StR X.K X.mg ρ H st∧ρ[n]?=some a∧Out X.K X.mg ρ H (forE gt gb n m i env st) (gS X.K X.mg D) Er,⟨lim+1,env,st0,ρ0,re.ext e0,s0,ha,h0⟩,?_⟩
  rintro i m σ H ⟨env,st,ρ,re,rs,ha,h⟩
  cases m with
  | zero=>exact False.elim h
  | succ m =>
   obtain ⟨xs,hn,h⟩:=zE h
   obtain ⟨vs,hH,hR⟩:=rs.addr hn ha
   cases hx:xs[i]? with
   | none =>
    simp only [hx] at h
    have:vs.length≤i:=by rw [←hR.len];exact List.getElem?_eq_none_iff.mp hx
    exact .inl ⟨⟨vs,SqL.of hH,this⟩,Out.now (x:=Fl.nx env) h rs σ re⟩
   | some x =>
    simp only [hx] at h
    obtain ⟨v,hv,rv⟩:=hR.get hx
    refine .inr ⟨⟨vs,v,SqL.of hH,hv⟩,_,fun σ' H' p'=>⟨m,Nat.lt_succ_self m,p'⟩,fun v' H' y=>?_⟩
    obtain ⟨T,x',hT,rfl,rfl,y⟩:=y
    have e2:=y vs (SqL.of hH)
    rw [hv] at e2
    cases e2
    have ex:Ext ρ H ρ (upd H T (.tup [.int i,v])):=Ext.new hT
    cases hgx:gt (.tup [.int i,x]) env with
    | none=>simp only [hgx] at h;exact False.elim h
    | some env1 =>
     simp only [hgx] at h
     refine ⟨.tup [.int i,x],env,env1,ρ,⟨T,[.int i,v],rfl,.inl (.inl zx),_,_,rfl,rfl,_,_,rfl,R.ext ex x rv,rfl⟩,re.ext ex,hgx,fun σ1 r1=>⟨env1,st,ρ,r1,rs.new hT,Out.then (Out.ext h ex) fun ρ3 H3 fl st3 e3 s3 h3=>?_⟩⟩
     cases fl with
     | nx e=>exact fun σ4 r4=>⟨e,st3,ρ3,r4,s3,e3.get ha,h3⟩
     | ct e=>exact fun σ4 r4=>⟨e,st3,ρ3,r4,s3,e3.get ha,h3⟩
     | bk e=>exact Out.fl (D:=D) (fl:=.nx e) (E:=Er) h3 s3
     | rt v=>exact Out.fl (D:=D) (fl:=.rt v) (E:=Er) h3 s3⟩
end
end Mi
namespace L2
open PySem PySem.Spec PyProof.Rows PySem.W
structure CompSN (sc scope:Scope) (xs:List Str):Prop where
 kind:scope.kind=.function
 ncell:∀y∈scope.names,y.2 ≠ .cell
 names:∀y∈scope.names,y.2=.local→scope.names.lookup y.1=some .local∧(y.1∈xs∨y.1 = ".0")
 free:∀y∈scope.names,y.2=.free→sc.names.lookup y.1=some .cell
section
variable {X:Cx} {scope:Scope} {xs:List Str}
end
def PTs (X:Cx) (ifs:List Expr) (t:TT):Prop:=∀(pins:List (Addr×Obj)) (s:Shared) (σ:St) (H:Hp) (Q:Bool→Hp→Prop),Inv X pins σ H s→t σ H Q →
 wpAny (model X.prog X.w) X.A (forIn ifs true fun c r=>if r=true then do let ok ←isTrue c X.env (eval c X.env);pure (ForInStep.yield ok) else pure (ForInStep.yield r)) (TP X pins σ Q) X.xe s
theorem PTs.nox {X:Cx} {ifs:List Expr} {t:TT} (h:PTs X.nox ifs t):PTs X ifs t:=fun pins s σ H Q I hw =>
 wpAny_mono (h pins s σ H Q (I.wish _) hw) (fun b s' ⟨H',I',q⟩=>⟨H',I'.unwish,q⟩) fun _ _ z=>z.elim
end L2
namespace Mi
open PySem L2 PySem.W PySem.Spec
section
variable {X:Cx} {Er:XK} {pos:Pos} {fs:PEnv→Mo (List PV)}
end
end Mi
namespace L2
open PySem PySem.Spec PyProof.Rows PySem.W
theorem zd6:∀{is:List Int} {its:List Value},Vals (is.map V.int) its→(∀v∈its,∃a t,v=Value.int a t)∧numsOf its=is
 | [],_,.nil=>⟨fun _ h=>absurd h (by simp),rfl⟩
 | i::is,_,.cons r rs=>by
  obtain ⟨t,rfl⟩:=r
  obtain ⟨h1,h2⟩:=zd6 rs
  refine ⟨fun v hv=>?_,by show i::numsOf _=_;rw [h2]⟩
  rcases List.mem_cons.mp hv with q|q
  ·exact ⟨i,t,q⟩
  ·exact h1 v q
theorem zjc {X:Cx} (hc:X.calm=true):CallR X (.builtin "sum") (fun xs H Q=>∃(a:Addr) (is:List Int),xs=[V.ref a]∧SqL X.K H a (is.map V.int)∧Q (.int is.sum) H):=by
 intro pins s σ H xs us Q I r h
 obtain ⟨a,is,rfl,hq,q⟩:=h
 obtain ⟨u,rfl,ru⟩:=r.one
 obtain rfl:u=Value.ref a:=ru
 obtain ⟨its,rv,p,hz⟩:=I.list hq
 obtain ⟨h1,h2⟩:=zd6 rv
 obtain ⟨ys,e⟩:=AllInts.items (vs:=its.toArray) (fun v hv=>h1 v (by simpa using hv))
 have hl:=p.isList
 rw [e] at hl
 refine sum_intListG (I.ok.hd hc) hl fun h' tk t' hk=>?_
 have es:preSum (numAt ys) ys.size=is.sum:=by
  rw [preSum_eq,List.take_of_length_le (by simp),←nums_intItems,←e]
  show (numsOf its).sum=_
  rw [h2]
 rw [es]
 exact ⟨.int is.sum,H,I.kept (t':=tk) hk,⟨_,rfl⟩,q⟩
def repS (z:Str) (n:Int):Str:=if n<1 then Str.empty else if (n==1||z.length==0)=true then z else ⟨(List.replicate n.toNat z.cps).foldl (·++·) #[]⟩
theorem zeY (c:Array Nat):∀(k:Nat) (a:Array Nat),((List.replicate k c).foldl (·++·) a).size=a.size+k*c.size
 | 0,a=>by simp
 | k+1,a=>by
  rw [List.replicate_succ,List.foldl_cons,zeY c k,Array.size_append,Nat.succ_mul]
  omega
theorem zkx (z:Str) (n:Int):(repS z n).length=n.toNat*z.length:=by
 unfold repS
 split
 ·rename_i h
  have:n.toNat=0:=by omega
  rw [this,Nat.zero_mul];rfl
 ·rename_i h
  split
  ·rename_i h2
   simp only [Bool.or_eq_true,beq_iff_eq] at h2
   rcases h2 with h2|h2
   ·subst h2;simp
   ·rw [h2];simp
  ·show ((List.replicate n.toNat z.cps).foldl (·++·) #[]).size=_
   rw [zeY]
   show 0+n.toNat*z.cps.size=_
   rw [Nat.zero_add];rfl
def rMulS:R2:=fun x y H Q=>∃z n,x=.str z∧y=.int n∧(0≤n∧n≤1000∧z.length≤1000)∧Q (.str (repS z n)) H
theorem zmx {X:Cx}:OpR X (binaryOp .Mult) rMulS:=by
 intro pins s σ H x y v u Q I rx ry h
 obtain ⟨z,n,rfl,rfl,⟨h0,h1,h2⟩,q⟩:=h
 obtain ⟨t,rfl⟩:=rx
 obtain ⟨t',rfl⟩:=ry
 have hb:n.toNat*z.length≤1000000:=by
  have:n.toNat≤1000:=by omega
  calc n.toNat*z.length≤1000*1000:=Nat.mul_le_mul this h2
   _=1000000:=rfl
 have hsz:=sizeLine_eq
 refine PySem.P.mul_str (by rw [decide_eq_false (by omega),decide_eq_false (by omega)];rfl) (fun ha _=>?_) (fun _ _=>?_) ?_
 ·have:(2 ^ 63-1:Int)/n≥1000:=by
   rw [ge_iff_le,Int.le_ediv_iff_mul_le (by omega)]
   omega
  omega
 ·show decide _=false
  rw [decide_eq_false_iff_not]
  have:z.length*n.toNat≤1000000:=by rw [Nat.mul_comm];exact hb
  rw [sizeLine_eq];omega
 ·by_cases c1:n<1
  ·rw [if_pos c1]
   have e:repS z n=Str.empty:=by unfold repS;rw [if_pos c1]
   rw [e] at q
   exact ⟨by decide,.str Str.empty,H,I.tok _,⟨_,rfl⟩,q⟩
  ·rw [if_neg c1]
   by_cases c2:(n==1||z.length==0)=true
   ·rw [if_pos c2]
    have e:repS z n=z:=by unfold repS;rw [if_neg c1,if_pos c2]
    rw [e] at q
    exact ⟨.str z,H,I,⟨_,rfl⟩,q⟩
   ·rw [if_neg c2]
    have e:repS z n=⟨(List.replicate n.toNat z.cps).foldl (·++·) #[]⟩:=by unfold repS;rw [if_neg c1,if_neg c2]
    have hl:=zkx z n
    rw [e] at q hl
    exact ⟨by rw [hl,sizeLine_eq];omega,.str _,H,I.tok _,⟨_,rfl⟩,q⟩
def rAlpha:V→List V→Hp→VK→Prop:=fun x vs H Q=>∃z,x=.str z∧vs=[]∧Q (.bl (Txt.isalpha z)) H
theorem zhR {X:Cx}:MtR X "str.isalpha" rAlpha:=by
 intro pins s σ H x xs v us Q I rx rv h
 obtain ⟨z,rfl,rfl,q⟩:=h
 obtain ⟨t,rfl⟩:=rx
 cases rv
 exact call_gives F.slot_str_isalpha (typeIs_str _ _ _) F.entry_str_isalpha (F.args_str_isalpha_1 _) (gives_str_isalpha z t) ⟨.bl (Txt.isalpha z),H,I,rfl,q⟩
end L2
namespace Mi
open PySem L2 PySem.W PySem.Spec
section
variable {X:Cx} {K:Frag} {mg:Str→Option Value} {Er:XK} {e o:Expr} {es:List Expr} {pos apos:Pos} {fs:PEnv→Mo (List PV)} {fo fa:PEnv→Mo PV}
def oAlpha:PV→Mo PV:=fun x st=>match x with
 | .str z=>.ok (.bl (Txt.isalpha z)) st
 | _=>.stuck
theorem zjd {cpos:Pos} (ho:ME X Er o fo) (hbase:attributeBase o "isalpha" X.env (eval o X.env)=eval o X.env:=by rfl) (hline:(apos.endLine==cpos.line)=true:=by rfl):ME X Er (.Call (.Attribute o "isalpha" apos) [] [] cpos) (mUn oAlpha fo) :=
 PE.weak (zkZ PySem.F.plainAttrs_str PySem.F.slot_str_isalpha PySem.F.type_str_isalpha zhR ho hbase hline) fun σ H Q ⟨env,st,ρ,re,rs,h⟩=>⟨env,st,ρ,re,rs,h.then fun ρ1 H1 x st1 e1 s1 h1 v rv=>by
  cases x with
  | str z =>
   cases rv
   exact ⟨rfl,z,rfl,rfl,Out.now (x:=PV.bl (Txt.isalpha z)) h1 s1 _ rfl⟩
  | _=>exact False.elim h1⟩
def oMulT:PV→PV→Mo PV
 | .int i,.int j,st=>oMul (.int i) (.int j) st
 | .str z,.int n,st=>if 0≤n∧n≤1000∧z.length≤1000 then .ok (.str (repS z n)) st else .stuck
 | _,_,_=>.stuck
theorem zg8:BinOk X .Mult oMulT:=by
 obtain ⟨r,h1,h2⟩:=zoX (X:=X)
 refine ⟨fun x y H Q=>r x y H Q∨rMulS x y H Q,h1.or zmx,fun ρ H st x y v w Q E s rx ry h=>?_⟩
 cases x with
 | int i =>
  cases y with
  | int j=>exact .inl (h2 ρ H st (.int i) (.int j) v w Q E s rx ry h)
  | _=>exact False.elim h
 | str z =>
  cases y with
  | int n =>
   obtain ⟨c,h⟩:=Out.ifp h
   cases rx;cases ry
   exact .inr ⟨z,n,rfl,rfl,c,Out.now (x:=PV.str (repS z n)) h s _ rfl⟩
  | _=>exact False.elim h
 | _=>exact False.elim h
def intsP:List PV→Option (List Int)
 | []=>some []
 | .int i::r=>(intsP r).map (i::·)
 | _::_=>none
theorem zje {ρ:List Addr} {H:Hp}:∀{xs:List PV} {is:List Int} {vs:List V},intsP xs=some is→Rs K mg ρ H xs vs→vs=is.map V.int
 | [],is,vs,e,h=>by cases e;cases h;rfl
 | .int i::r,is,vs,e,h=>by
  simp only [intsP,Option.map_eq_some_iff] at e
  obtain ⟨ir,e1,rfl⟩:=e
  obtain ⟨v,r',rfl,h1,h2⟩:=h
  cases h1
  rw [zje e1 h2]
  rfl
 | .non::_,_,_,e,_=>by cases e
 | .bl _::_,_,_,e,_=>by cases e
 | .str _::_,_,_,e,_=>by cases e
 | .ty _::_,_,_,e,_=>by cases e
 | .tup _::_,_,_,e,_=>by cases e
 | .frl _::_,_,_,e,_=>by cases e
 | .ref _::_,_,_,e,_=>by cases e
 | .fn _::_,_,_,e,_=>by cases e
 | .kd _ _::_,_,_,e,_=>by cases e
 | .exo _ _ _::_,_,_,e,_=>by cases e
def oSum:List PV→Mo PV:=fun vs st=>(oneL vs st).bind fun n st=>withL st n fun xs=>match intsP xs with
 | some is=>.ok (.int is.sum) st
 | none=>.stuck
theorem zpn (hc:X.calm=true):BltOk X (.builtin "sum") oSum:=⟨_,zjc hc,fun ρ H st xs vs Q E s r h=>by
 obtain ⟨n,ys,rfl,hn,h⟩:=zfj h
 obtain ⟨xs',hn',h⟩:=zE h
 obtain ⟨v,rfl,rv⟩:=r.one
 obtain ⟨a,rfl,ha⟩:=rv
 obtain ⟨ws,hH,hR⟩:=s.addr hn' ha
 cases hi:intsP xs' with
 | none=>simp only [hi] at h;exact False.elim h
 | some is =>
  simp only [hi] at h
  have e:=zje hi hR
  subst e
  exact ⟨a,is,rfl,SqL.of hH,Out.now (x:=PV.int is.sum) h s _ rfl⟩⟩
theorem zn7:bootBuiltins "sum" = some (.builtin "sum"):=by decide +kernel
def strE:List Expr→Option (List Str)
 | []=>some []
 | .Constant (.str z) _ _::r=>(strE r).map (z::·)
 | _::_=>none
def aStrs (zs:List Str):PEnv→Mo (List PV):=fun _ st=>.ok (zs.map PV.str) st
theorem zjf:∀{es:List Expr} {zs:List Str},strE es=some zs→MA X Er es (aStrs zs):=by
 intro es
 induction es with
 | nil=>intro zs h;cases h;exact zf
 | cons e r ih =>
  intro zs h
  cases e with
  | Constant c j p =>
   cases c with
   | str z =>
    simp only [strE,Option.map_eq_some_iff] at h
    obtain ⟨zr,h1,rfl⟩:=h
    exact zb zD (ih h1) zl
   | _=>cases h
  | _=>cases h
end
end Mi
namespace Mi
open PySem L2 PySem.W PySem.Spec
section
variable {env:PEnv} {st:Sto} {fa fb fo fi fv fe:PEnv→Mo PV} {fs:PEnv→Mo (List PV)} {ft:PEnv→Mo Bool} {g:PEnv→Mo Fl} {src:PEnv→Mo Sq}
@[simp] theorem zp4 (xs:List PV) (i:Int):oIxD (.tup xs) (.int i) st=optR (atI xs i) st:=(rfl)
@[simp] theorem zp5 (xs:List PV) (i:Int):oIxD (.frl xs) (.int i) st=optR (atI xs i) st:=(rfl)
@[simp] theorem zp6 (n:Nat) (i:Int):oIxD (.ref n) (.int i) st=withL st n fun xs=>optR (atI xs i) st:=(rfl)
@[simp] theorem zn8 (z:Str) (i:Int):oIxD (.str z) (.int i) st=if z.length≤lim then optR ((atI z.cps.toList i).map fun c=>.str ⟨#[c]⟩) st else .stuck:=(rfl)
@[simp] theorem zdP:mComp src fe env st=(src env st).bind fun q st1=>compS fe env q st1:=(rfl)
@[simp] theorem zfk (xs:List PV):compS fe env (.im xs) st=if xs.length≤lim then compL fe env xs [] st else .stuck:=(rfl)
@[simp] theorem zpo:iRng1 fs env st=(fs env st).bind rng1:=(rfl)
@[simp] theorem zp7 (j:Int):rng1 [.int j] st=if cR j=true then .ok (.im (nums 0 j.toNat)) st else .stuck:=(rfl)
@[simp] theorem zmy (gt:PV→PEnv→Option PEnv):sForE fs gt g env st=(fs env st).bind fun vs st1=>(oneL vs st1).bind fun n st1=>forE gt g n (lim+1) 0 env st1:=(rfl)
@[simp] theorem zjg (n:Nat):oneL [.ref n] st=withL st n fun _=>.ok n st:=(rfl)
@[simp] theorem zjh (zs:List Str):aStrs zs env st=.ok (zs.map PV.str) st:=(rfl)
@[simp] theorem zoB (z:Str):oAlpha (.str z) st=.ok (.bl (Txt.isalpha z)) st:=(rfl)
@[simp] theorem zpp (i j:Int):oMulT (.int i) (.int j) st=if cMul i j=true then .ok (.int (i*j)) st else .stuck:=(rfl)
@[simp] theorem zn9 (vs:List PV):oSum vs st=(oneL vs st).bind fun n st=>withL st n fun xs=>match intsP xs with|some is=>.ok (.int is.sum) st|none=>.stuck:=(rfl)
@[simp] theorem zqs (n:Nat) (l u:Option Int):oSl (.ref n) l u st=withL st n fun xs=>.ok (.ref st.length) (st++[.lst (cutP xs l u)]):=(rfl)
@[simp] theorem zp8 (n:Nat):oTuple [.ref n] st=withL st n fun xs=>.ok (.tup xs) st:=(rfl)
@[simp] theorem zoC (n:Nat) (y:PV):oAppend (.ref n) y st=withL st n fun xs=>if xs.length<lim then .ok .non (st.set n (.lst (xs++[y]))) else .stuck:=(rfl)
end
def Pre (a b:Sto):Prop:=∃d,b=a++d
theorem Pre.of (st d:Sto):Pre st (st++d):=⟨d,rfl⟩
theorem Pre.get {a b:Sto} (h:Pre a b) {n:Nat} {so:SO} (e:a[n]?=some so):b[n]?=some so:=by
 obtain ⟨d,rfl⟩:=h
 rw [List.getElem?_append_left (List.getElem?_eq_some_iff.mp e).1]
 exact e
theorem zaq (st:Sto) (so:SO):(st++[so])[st.length]?=some so:=by simp
theorem zfU {fe:PEnv→Mo PV} {env:PEnv} {f:PV→PV} {st:Sto}:∀(xs:List PV),(∀x∈xs,fe (some x::env) st=.ok (f x) st)→∀(ys:List PV),compL fe env xs ys st=.ok (.ref st.length) (st++[.lst (ys++xs.map f)])
 | [],_,ys=>by simp [compL]
 | x::xs,h,ys=>by
  simp only [compL,h x (List.mem_cons_self ..),zdq,zk]
  rw [zfU xs (fun x' hx'=>h x' (List.mem_cons_of_mem _ hx'))]
  simp
theorem zky {K:Frag} {mg:Str→Option Value} {t:IsT} (hs:t.sub=fun _ _=>none) (hT:t.subT=fun _ _=>none) (hC:t.tyC=fun _ _=>none):IsF K mg t where
 s c B b h:=by rw [hs] at h;cases h
 tt c n b h:=by rw [hT] at h;cases h
 u T B b h:=by rw [hC] at h;cases h
 x c C h hm z:=by
  rcases z with ⟨B,b,z⟩|⟨n,b,z⟩
  ·rw [hs] at z;cases z
  ·rw [hT] at z;cases z
 i c C h hm z:=by
  rcases z with ⟨B,b,z⟩|⟨n,b,z⟩
  ·rw [hs] at z;cases z
  ·rw [hT] at z;cases z
end Mi
namespace Mi
open PySem L2 PySem.W PySem.Spec
section
variable {X:Cx} {Er:XK} {pos:Pos}
inductive MPs (X:Cx) (Er:XK):List (Option Expr)→List Expr→List Str→List (PEnv→Mo PV)→Prop
 | nil:MPs X Er [] [] [] []
 | cons {z:Str} {j} {p:Pos} {v:Expr} {f:PEnv→Mo PV} {ks:List (Option Expr)} {vs:List Expr} {zs:List Str} {fs:List (PEnv→Mo PV)} (hv:ME X Er v f) (hr:MPs X Er ks vs zs fs):MPs X Er (some (.Constant (.str z) j p)::ks) (v::vs) (z::zs) (f::fs)
theorem MPs.len {ks:List (Option Expr)} {vs:List Expr} {zs:List Str} {fs:List (PEnv→Mo PV)} (h:MPs X Er ks vs zs fs):ks.length=vs.length∧zs.length=fs.length∧ks.length=zs.length∧ks.all (·.isSome)=true:=by
 induction h with
 | nil=>exact ⟨rfl,rfl,rfl,rfl⟩
 | cons hv hr ih=>exact ⟨by simp [ih.1],by simp [ih.2.1],by simp [ih.2.2.1],by simpa using ih.2.2.2⟩
end
end Mi
namespace Mi
open PySem L2 PySem.W PySem.Spec
section
variable {X:Cx}
def oMin:List PV→Mo PV
 | [.int i,.int j],st=>.ok (.int (if j<i then j else i)) st
 | _,_=>.stuck
theorem zpq (hc:X.calm=true):BltOk X (.builtin "min") oMin:=⟨_,zic hc,fun ρ H st xs vs Q E s r h=>by
 unfold oMin at h
 split at h
 ·rename_i st' i j
  obtain ⟨v,w,rfl,r1,r2⟩:=r.two
  cases r1;cases r2
  exact ⟨i,j,rfl,Out.now (x:=PV.int (if j<i then j else i)) h s _ rfl⟩
 ·exact False.elim h⟩
theorem zoa:bootBuiltins "min" = some (.builtin "min"):=by decide +kernel
@[simp] theorem zp9 (i j:Int) (st:Sto):oMin [.int i,.int j] st=.ok (.int (if j<i then j else i)) st:=(rfl)
end
end Mi
namespace Mi
open PySem L2 PySem.W PySem.Spec
section
variable {X:Cx}
theorem zob:OpR X (compareOp .Is) (fun x y H Q=>∃a b,x=.bl a∧y=.bl b∧Q (.bl (a==b)) H):=by
 intro pins s σ H x y v u Q I rx ry h
 obtain ⟨a,b,rfl,rfl,q⟩:=h
 cases rx;cases ry
 exact PyProof.Rows.is_bool ⟨.bl (a==b),H,I,rfl,q⟩
def oIsB:PV→PV→Mo PV
 | .bl a,.bl b,st=>.ok (.bl (a==b)) st
 | x,y,st=>oIs x y st
theorem zpr:CmpOk X .Is oIsB:=by
 obtain ⟨r,h1,h2⟩:=zqf (X:=X)
 refine ⟨fun x y H Q=>r x y H Q∨_,h1.or zob,fun ρ H st x y v w Q E s rx ry h=>?_⟩
 unfold oIsB at h
 split at h
 ·rename_i a b
  cases rx;cases ry
  exact .inr ⟨_,_,rfl,rfl,Out.now (x:=PV.bl (a==b)) h s _ rfl⟩
 ·exact .inl (h2 ρ H st _ _ v w Q E s rx ry h)
end
end Mi
namespace Mi
open PySem L2 PySem.W PySem.Spec
def allE (f:PV→PV→Option Bool):List PV→List PV→Option Bool
 | [],[]=>some true
 | x::xs,y::ys=>match f x y,allE f xs ys with
  | some a,some b=>some (a&&b)
  | _,_=>none
 | _,_=>some false
def hitsE (f:PV→PV→Option Bool) (ks':List Str) (xs':List PV):List Str→List PV→Option Bool
 | k::ks,x::xs=>match (ks'.zip xs').lookup k with
  | none=>some false
  | some y=>match f x y,hitsE f ks' xs' ks xs with
   | some a,some b=>some (a&&b)
   | _,_=>none
 | _,_=>some true
section
variable {X:Cx} {Er:XK} {K:Frag} {mg:Str→Option Value} {ρ:List Addr} {pins:List (Addr×Obj)} {σ:L2.St} {H:Hp} {s:Shared} {st:Sto}
end
end Mi
namespace Mi
open PySem L2 PySem.W PySem.Spec
def EqW (P:Program) (W:World) (A:Around) (s:Shared) (u u':Value) (b:Bool):Prop:=∀(E:Value→Shared→Prop) (Q:Bool→Shared→Prop),Q b s→wpAny (model P W) A (eqBool u u') Q E s
section
variable {P:Program} {W:World} {A:Around} {s:Shared}
end
section
variable {X:Cx} {Er:XK} {K:Frag} {mg:Str→Option Value} {ρ:List Addr} {pins:List (Addr×Obj)} {σ:L2.St} {H:Hp} {s:Shared} {st:Sto}
theorem zmz {k:Str} {ks:List Str} {v:V} {vs:List V} {us:List (Key×Value)} (h:KV (kz (k::ks) (v::vs)) us):∃u r,us=(Sum.inr k,u)::r∧RelV v u∧KV (kz ks vs) r:=by
 cases h with
 | @cons p q ps qs h t =>
  obtain ⟨h1,h2⟩:=h
  obtain ⟨k',u⟩:=q
  have:k'=Sum.inr k:=h1.symm
  subst this
  exact ⟨u,qs,rfl,h2,t⟩
end
end Mi
namespace Mi
open PySem L2 PySem.W PySem.Spec
section
variable {X:Cx} {Er:XK} {K:Frag} {mg:Str→Option Value}
theorem zfV {ss:List Stmt}:MSs X Er ss sStuck:=PSs.weak zh4 fun D σ H ⟨env,st,ρ,re,rs,h⟩=>h
end
end Mi
namespace Mi
open PySem L2 PySem.W PySem.Spec
section
variable {P:Program} {W:World} {A:Around} {s:Shared} {E:Value→Shared→Prop} {K:Type} [DecidableEq K] {knd:KeyKind P W K}
inductive HitsW (P:Program) (W:World) (A:Around) (s:Shared) (kb:List (K×Value)):List (K×Value)→Bool→Prop
 | nil:HitsW P W A s kb [] true
 | miss {k:K} {v:Value} {r:List (K×Value)} (h:valueAt kb k=none):HitsW P W A s kb ((k,v)::r) false
 | hit {k:K} {v y:Value} {r:List (K×Value)} {e b:Bool} (h:valueAt kb k=some y) (he:EqW P W A s v y e) (hr:HitsW P W A s kb r b):HitsW P W A s kb ((k,v)::r) (e&&b)
end
end Mi
namespace Mi
open PySem L2 PySem.W PySem.Spec
section
variable {P:Program} {W:World}
end
end Mi
namespace Mi
open PySem L2 PySem.W PySem.Spec
def isDic:Option SO→Bool
 | some (.dic _ _)=>true
 | _=>false
def kindN (st:Sto):PV→Option Nat
 | .int _=>some 0
 | .str _=>some 1
 | .tup _=>some 2
 | .ref a=>if isDic st[a]?=true then some 3 else none
 | _=>none
def eqDD (f:PV→PV→Option Bool):Option SO→Option SO→Option Bool
 | some (.dic ks xs),some (.dic ks' xs')=>if ks.Nodup∧ks.length=xs.length then if ks.length=ks'.length then hitsE f ks' xs' ks xs else some false else none
 | _,_=>none
def eqN:Option Nat→Option Nat→Option Bool
 | some i,some j=>if i=j then none else some false
 | _,_=>none
def eqT (st:Sto):Nat→PV→PV→Option Bool
 | 0,_,_=>none
 | n+1,x,y=>match x,y with
  | .int a,.int b=>some (a==b)
  | .str a,.str b=>some (a==b)
  | .tup xs,.tup ys=>allE (eqT st n) xs ys
  | .ref a,.ref b=>eqDD (eqT st n) st[a]? st[b]?
  | x,y=>eqN (kindN st x) (kindN st y)
section
variable {X:Cx} {Er:XK} {K:Frag} {mg:Str→Option Value} {ρ:List Addr} {pins:List (Addr×Obj)} {σ:L2.St} {H:Hp} {s:Shared} {st:Sto}
inductive Kn (K:Frag) (mg:Str→Option Value) (ρ:List Addr) (H:Hp) (st:Sto):PV→V→Nat→Prop
 | num (i:Int):Kn K mg ρ H st (.int i) (.int i) 0
 | txt (z:Str):Kn K mg ρ H st (.str z) (.str z) 1
 | row {xs:List PV} {a:Addr} {vs:List V} (h:SqT K H a vs) (r:Rs K mg ρ H xs vs):Kn K mg ρ H st (.tup xs) (.ref a) 2
 | rec_ {n:Nat} {a:Addr} {ks:List Str} {xs:List PV} {vs:List V} (e:st[n]?=some (.dic ks xs)) (ha:ρ[n]?=some a) (h:H a=some (.dK (kz ks vs))) (r:Rs K mg ρ H xs vs) (l:ks.length=vs.length):Kn K mg ρ H st (.ref n) (.ref a) 3
inductive EqC (st:Sto) (f:PV→PV→Option Bool):PV→PV→Bool→Prop
 | num (a b:Int):EqC st f (.int a) (.int b) (a==b)
 | txt (a b:Str):EqC st f (.str a) (.str b) (a==b)
 | row {xs ys:List PV} {k:Bool} (h:allE f xs ys=some k):EqC st f (.tup xs) (.tup ys) k
 | rec_ {a b:Nat} {k:Bool} (h:eqDD f st[a]? st[b]?=some k):EqC st f (.ref a) (.ref b) k
 | apart {x y:PV} {i j:Nat} (hx:kindN st x=some i) (hy:kindN st y=some j) (h:i≠j):EqC st f x y false
end
end Mi
namespace Mi
open PySem L2 PySem.W PySem.Spec
section
variable {X:Cx} {Er:XK} {K:Frag} {mg:Str→Option Value} {ρ:List Addr} {pins:List (Addr×Obj)} {σ:L2.St} {H:Hp} {s:Shared} {st:Sto} {o:Expr} {fo:PEnv→Mo PV} {apos cpos p0 pos0:Pos}
open Classical in
noncomputable def eInT (K:Frag) (mg:Str→Option Value) (ρ:List Addr) (H:Hp) (st:Sto) (ys:List PV) (x:PV) (u:Value):Bool:=decide (∃y v,y∈ys∧R K mg ρ H y v∧RelV v u∧eqT st 150 y x=some true)
open Classical in
theorem zg9:∀{ks:List Str} {vs:List V} {kv:List (Key×Value)},ks.length=vs.length→KV (kz ks vs) kv→Vals vs (kv.map (·.2))
 | [],[],_,_,h=>by cases h;exact .nil
 | [],_::_,_,hl,_=>by simp at hl
 | _::_,[],_,hl,_=>by simp at hl
 | k::ks,v::vs,kv,hl,h=>by
  obtain ⟨u,r,rfl,h1,h2⟩:=zmz h
  exact .cons h1 (zg9 (by simpa using hl) h2)
def tLV (to:TE):TE:=fun σ H Q=>to σ H fun x H1=>∃a ks vs,x=.ref a∧H1 a=some (.dK (kz ks vs))∧ks.length=vs.length∧∀l,H1 l=none→Q (.ref l) (upd H1 l (.lst vs))
theorem zgy {to:TE} (hc:X.calm=true) (hg0:Gl X "list") (hm0:X.mg "list" = none) (ho:PE X o to) (hbase:attributeBase o "values" X.env (eval o X.env)=eval o X.env) (hline:(apos.endLine==cpos.line)=true) :
  PE X (.Call (.Name "list" p0) [.Call (.Attribute o "values" apos) [] [] cpos] [] pos0) (tLV to):=by
 intro pins s σ H Q I h
 refine PyProof.Rows.Call_ (zcV I hg0 hm0 ziU (PyProof.Rows.callWith_type1 ?_ rfl rfl))
 show wpAny _ _ (spliced ((false,eval (.Call (.Attribute o "values" apos) [] [] cpos) X.env)::backTo pos0 (starEach [] X.env))) _ _ s
 refine Calls.spliced_cons ?_
 refine wpAny_Call_method0_late hbase hline (thn (ho pins s σ H _ I h) fun v s1 ⟨x,H1,I1,r1,q1⟩=>?_)
 obtain ⟨a,ks,vs,rfl,e,hl,q⟩:=q1
 obtain rfl:v=Value.ref a:=r1
 obtain ⟨hz,lo,kv,kvr,hd⟩:=zj7 I1.hok (.inl e)
 obtain ⟨ep,hat⟩:=hd.dictAt
 refine ⟨"dict", "dict.values", PySem.F.plainAttrs_dict,PySem.F.slot_dict_values,PySem.F.type_dict_values,?_,?_,Calls.callWith_builtin rfl (PySem.evalArgs_none (call_meetsIn PySem.F.slot_dict_values hd.typeIs PySem.F.entry_dict_values (PySem.F.args_dict_values_1 _) (meets_dict_values (mixKind X.prog X.w) a lo) ⟨⟨kv,hd⟩,?_⟩))⟩
 ·exact (zgT I1 (x:=.ref a) rfl (.inr (.inr (.inl ⟨rfl,.inl ⟨_,e⟩⟩)))).1
 ·exact (zgT I1 (x:=.ref a) rfl (.inr (.inr (.inl ⟨rfl,.inl ⟨_,e⟩⟩)))).2
 refine Calls.spliced_nil ?_
 have hle:s1.heap.objs.size≤(s1.heap.push { cls:=.type "dict_values", data:=.fields #[.ref a] }).objs.size:=by rw [Heap.size_push];exact Nat.le_succ _
 refine kdl_call (s:={ s1 with heap:=s1.heap.push { cls:=.type "dict_values", data:=.fields #[.ref a] } }) (kdl_values (knd:=mixKind X.prog X.w) (kvs:=kv) (ep:=ep)) (I.ok.hd hc) ⟨⟨_,Heap.get?_push_size _ rfl,rfl,rfl⟩,hat.push _⟩ (by rw [←kvr.length];exact hz) fun h' tk acc' c' hk hS hitems=>?_
 have ev:acc'.toList=kv.map (·.2):=kdl_vals_eq _ (by rw [Array.length_toList];exact hitems.1) fun j u e=>hitems.2 j u (by rw [←Array.getElem?_toList];exact e)
 have hv:Vals vs acc'.toList:=by rw [ev];exact zg9 hl kvr
 have lv:vs.length≤sizeLine:=by
  have:(kz ks vs).length=vs.length:=by simp [kz,hl]
  rw [←this];exact hz
 exact ⟨.ref _,_,I1.laid (t':=tk) (fun b ob eb=>hk b ob (Heap.get?_push_of_some _ eb)) hle (show ObjOk X.prog X.w _ h' _ (.lst vs) from ⟨lv,acc'.toList,c',hv,by simpa using hS⟩),rfl,q _ (I1.hok.fresh hle)⟩
def oVals:PV→Mo PV
 | .ref n,st=>withD st n fun _ xs=>.ok (.ref st.length) (st++[.lst xs])
 | _,_=>.stuck
theorem zhS (hc:X.calm=true) (hm0:X.mg "list" = none) (ho:ME X Er o fo) (hg0:Gl X "list" := by rfl) (hbase:attributeBase o "values" X.env (eval o X.env)=eval o X.env:=by rfl) (hline:(apos.endLine==cpos.line)=true:=by rfl) :
  ME X Er (.Call (.Name "list" p0) [.Call (.Attribute o "values" apos) [] [] cpos] [] pos0) (mUn oVals fo) :=
 PE.weak (zgy hc hg0 hm0 ho hbase hline) fun σ H Q ⟨env,st,ρ,re,rs,h⟩=>⟨env,st,ρ,re,rs,h.then fun ρ1 H1 x st1 e1 s1 h1 v rv=>by
  cases x with
  | ref n =>
   obtain ⟨ks,xs,e,h1⟩:=zfM h1
   obtain ⟨a,vs,rfl,_,k1,k2,k3⟩:=R.refD s1 rv e
   exact ⟨a,ks,vs,rfl,k1,k3,fun l hl=>Out.newList (xs:=xs) h1 s1 k2 hl⟩
  | _=>exact False.elim h1⟩
end
end Mi
namespace L2
open PySem PySem.Spec PyProof.Rows
def tSetComp (iy:Nat) (wi:TI) (te:TE):TS:=fun D σ H=>wi σ H fun J H1=>CompW J te σ (fun v H2=>D.nx (σ.set iy (some v)) H2) H1
theorem zhT {X:Cx} {elt iter:Expr} {x y:Str} {px pos pos' spos:Pos} {scope:Scope} {wi:TI} {te:TE} {M:List Str} {iy:Nat} (hc:X.calm=true) (S:CompSc X.env.scope scope x) (eN:Hid scope M X.N) (hN0:((".0" : Str)::x::M).Nodup)
  (hi:PI X (.Name x px) iter wi) (he:∀cl C s₂ H₂ fp,PE (cxH X M scope cl x C s₂ H₂ fp (fun _ _=>False)) elt te) (hNX:X.N.Nodup) (hiy:X.N[iy]?=some y) (hy:Loc X.env.scope y) (hfy:X.fn y=true∨X.env.scope.names.lookup y=some .local)
  (hsw:swapsWith (.ListComp elt [⟨.Name x px,iter,[],0⟩] scope pos) (some (.Name y pos')) spos.line X.env=pure true) (hs:∀v,foldedSetIterable iter X.env v=pure v:=by intro _;rfl):PS X (.Assign [.Name y pos'] (.ListComp elt [⟨.Name x px,iter,[],0⟩] scope pos) spos) (tSetComp iy wi te):=by
 intro pins s σ H Dn I h
 have hN:(x::M).Nodup:=(List.nodup_cons.mp hN0).2
 have h0N:(".0" : Str)∉M:=fun z=>(List.nodup_cons.mp hN0).1 (List.mem_cons_of_mem _ z)
 obtain ⟨cl,hclos,hcl1,hcl2⟩:=zk0 X.env scope fun p hp hf=>I.ok.has p.1 (.inl (S.free p hp hf))
 have hkd:X.env.scope.kind=.function:=I.ok.kind
 rw [exec_Assign_Name_used _ _ _ _ hsw]
 refine wpAny_bind (wpAny_standAt ?_)
 rw [arm_evalThenUse_ListComp]
 refine wpAny_bind (wpAny_bind (wpAny_comprehension_free (Q:=fun _ s'=>wpAny (model X.prog X.w) X.A (pure ():Sem Unit) (fun _ s'=>wpAny (model X.prog X.w) X.A (pure .next:Sem Flow) (SP X pins Dn) X.xe s') X.xe s') (use:=some (assign (.Name y pos') X.env)) rfl hs hclos S.kind (fun y hy hl=>(S.names y hy hl).1) ?_))
 refine thn (hi pins s σ H _ I h) fun v s1 h1=>thn h1 fun itv s₂ h2=>?_
 obtain ⟨it,fp,tn,J,H2,e,I2,T,st2,f2,W,⟨m0,w0⟩,turn⟩:=h2
 subst e
 refine wpAny_newObj_type (wpAny_newFunctionEnv S.ncell (by intro y hy;simp at hy) (fun h₁ hns₁ hsb₁=>?_) S.kind)
 dsimp only at hns₁ hsb₁ ⊢
 generalize hH2:s₂.heap.push { cls:=.type "list", dict:=none,data:=.seq ([]:List Value).toArray }=G2 at hns₁ hsb₁ ⊢
 have hC:G2.objs.size=s₂.heap.objs.size+1:=by rw [←hH2,Heap.size_push]
 have hDC:s₂.heap.objs.size≠G2.objs.size:=by rw [hC];exact Nat.ne_of_lt (Nat.lt_succ_self _)
 have hCle:s₂.heap.objs.size≤G2.objs.size:=by rw [hC];exact Nat.le_succ _
 have old:∀b o,s₂.heap.get? b=some o→h₁.get? b=some o:=fun b o e=>by
  have hb:b≠G2.objs.size:=by rw [hC];exact Nat.ne_of_lt (Nat.lt_succ_of_lt (Heap.lt_size e))
  exact hsb₁.extBut b o hb (Heap.get?_push_of_some _ (hH2▸Heap.get?_push_of_some _ e))
 have hacc:h₁.get? s₂.heap.objs.size=some { cls:=.type "list", data:=.seq (#[]:Array Value) 0 }:=hsb₁.extBut _ _ hDC (Heap.get?_push_of_some _ (hH2▸Heap.get?_push_size _ rfl))
 generalize hD:s₂.heap.objs.size=D at *
 generalize hCC:G2.objs.size=C at *
 have ltS:∀{b:Nat} {o:Obj},s₂.heap.get? b=some o→b<D:=fun e=>by rw [←hD];exact Heap.lt_size e
 have nofr:∀b,D≤b→b∉frs X.stack:=fun b hb z=>by
  rcases List.mem_cons.mp (I2.stkSub b z) with q|q
  ·exact ar1 I2.lt hD hb q
  ·exact I2.nofs (by rw [hD];exact hb) q
 let E':Value→Shared→Prop:=notedBy (model X.prog X.w) X.A (compEnvC scope cl C X.env) fun e s'=>compPost (model X.prog X.w) X.A X.xe (some (assign (.Name y pos') X.env)) (fun _ s'=>wpAny (model X.prog X.w) X.A (pure ():Sem Unit) (fun _ s'=>wpAny (model X.prog X.w) X.A (pure .next:Sem Flow) (SP X pins Dn) X.xe s') X.xe s') (.ref D) C (.error e) s'
 let Y:Cx:=cxH X M scope cl x C s₂ H2 fp E'
 have fpX:∀b∈fp,FpOk X pins H2 b:=f2
 have okY:Y.Ok:=by
  refine ⟨I2.ok.mod,S.kind,I2.ok.glob,I2.ok.blt,(by show s₂.heap.objs.size≤C;omega),fun y z c h1 h2=>?_,fun y hy=>?_,fun y c hf=>?_,I2.ok.hd,I2.ok.frames,.inl rfl,fun b hb=>?_,I2.bs,Nat.le_trans I2.ok.bsz I2.sz,fun b o hb hx=>?_,fun b hb hx=>?_,I2.stack,I2.stkFree⟩
  ·exact I2.ok.inj y z c (hcl1 y c h1) (hcl1 z c h2)
  ·exact hcl2 y (zcR S hkd hy)
  ·cases hf
  ·refine ⟨fun z=>?_,fun y c hy=>(fpX b hb).2.2.2.2.1 y c (hcl1 y c hy)⟩
   obtain ⟨o,ho,_⟩:=T.obj 0 _ st2 b hb
   exact ar2 (ltS ho) hC z
  ·rcases (fpX b hx).2.2.2.1 with z|z
   ·exact I2.ok.noex b o hb z
   ·exact ar3 (Heap.lt_size hb) I2.ok.bsz z
  ·rcases List.mem_cons.mp (I2.stkSub b hx) with q|q
   ·exact (fpX b hb).2.1 q
   ·exact (fpX b hb).2.2.1 q
 have hpinD:∀{s':Shared} {H':Hp} {o:Obj},s'.heap.get? D=some o→H' D=none→(∀v,o.data ≠ .cell v)→∀p∈[(D,o)],s'.heap.get? p.1=some p.2∧H' p.1=none∧p.1≠Y.env.locals∧p.1∉Y.fs∧∀v,p.2.data ≠ .cell v:=fun {s' H' o} e1 e2 e3 p hp=>by
  have ep:p=(D,o):=by simpa using hp
  subst ep
  exact ⟨e1,e2,hDC,nofr D (Nat.le_refl _),e3⟩
 have I0:Inv Y [(D,{ cls:=.type "list", data:=.seq (#[]:Array Value) 0 })] (none::σ) H2 { s₂ with heap:=h₁,toks:=s₂.toks+([]:List (Str×Value)).length }:=by
  have fresh:∀b,D≤b→H2 b=none:=fun b hb=>I2.hok.fresh (by rw [hD];exact hb)
  refine ⟨okY,rfl,I2.bare,Un.kept old,⟨_,hns₁,fun i y v e1 e2 e3=>?_⟩,fun y c hy=>?_,fresh C (by omega),fun y c hy=>I2.freeC y c (hcl1 y c hy),fun p hp=>hpinD hacc (fresh D (Nat.le_refl _)) (fun v z=>by cases z) p hp,I2.hok.kept old,?_⟩
  ·cases i with
   | zero=>simp at e2
   | succ i =>
    have e0':M[i]?=some y:=by simpa [Y,cxH] using e1
    have e1':X.N[i]?=some y:=by
     rcases eN.get e0' with q|q
     ·exact q
     ·refine absurd ?_ q
      rcases e3 with e3|e3|e3<;>(obtain ⟨k0,hm,_⟩:=zes e3;exact List.mem_map.mpr ⟨_,hm,rfl⟩)
    have e2':σ[i]?=some (some v):=by simpa using e2
    have hyx:¬(y=x∨y = ".0"):=fun z=>by
     have hm:=List.mem_of_getElem? e0'
     rcases z with z|z
     ·rw [z] at hm
      exact (List.nodup_cons.mp hN).1 hm
     ·rw [z] at hm
      exact h0N hm
    have hfr:(y,NameKind.free)∈scope.names:=by
     rcases e3 with e3|e3|e3
     ·exact absurd (zdj S e3) hyx
     ·exact zcR S hkd (.inl e3)
     ·exact zcR S hkd (.inr e3)
    have hkc:X.env.scope.names.lookup y=some .cell:=S.free _ hfr rfl
    obtain ⟨m,hn,hl⟩:=I2.loc
    obtain ⟨u,r,l⟩:=hl i y v e1' e2' (.inr (.inl hkc))
    refine ⟨u,r,?_⟩
    rcases l with ⟨hk,_⟩|⟨_,c,hcc,hcell⟩
    ·have:X.env.kindOf y=some .cell:=hkc
     rw [this] at hk;cases hk
    ·obtain ⟨c',hc'⟩:=hcl2 y hfr
     have:=hcl1 y c' hc'
     rw [hcc] at this
     cases this
     refine .inr ⟨?_,c,hc',?_⟩
     ·rcases e3 with e3|e3|e3
      ·exact absurd (zdj S e3) hyx
      ·exact .inl e3
      ·exact .inr e3
     ·obtain ⟨o,ho,hd⟩:=hcell
      exact ⟨o,old c o ho,hd⟩
  ·obtain ⟨v,o,ho,hd⟩:=I2.cell y c (hcl1 y c hy)
   exact ⟨v,o,old c o ho,hd⟩
  ·show (none::σ).length=(x::M).length
   simp [I2.len,eN.1]
 have fpY:∀{pl:List (Addr×Obj)} {H':Hp},(∀p∈pl,p.1=D)→(∀b∈fp,H' b=none)→∀b∈fp,FpOk Y pl H' b:=fun {pl H'} hpl hn b hb=>by
  obtain ⟨o,ho,_⟩:=T.obj 0 _ st2 b hb
  refine ⟨hn b hb,fun z=>?_,?_,.inl hb,(okY.exf b hb).2,fun p hp z=>?_⟩
  ·exact ar2 (ltS ho) hC z
  ·exact okY.exfs b hb
  ·have hp':p∈pl:=by simpa [Y,cxH] using hp
   exact ar4 (ltS ho) (hpl p hp') z
 have loop:codeAny (model X.prog X.w) X.A (.compLoop (.ListComp elt [⟨.Name x px,iter,[],0⟩] scope pos) 0 (.ref it) (.ref D) (compEnvC scope cl C X.env))
   (compPost (model X.prog X.w) X.A X.xe (some (assign (.Name y pos') X.env)) (fun _ s'=>wpAny (model X.prog X.w) X.A (pure ():Sem Unit) (fun _ s'=>wpAny (model X.prog X.w) X.A (pure .next:Sem Flow) (SP X pins Dn) X.xe s') X.xe s') (.ref D) C) { s₂ with heap:=h₁,toks:=s₂.toks+([]:List (Str×Value)).length }:=by
  refine zdk (fun n s'=>∃i ys H' its k,Inv Y [(D,{ cls:=.type "list", data:=.seq (its:List Value).toArray k })] (none::σ) H' s'∧Vals ys its∧tn i s'.heap∧(∀b∈fp,H' b=none)∧W i n ys H') ?_ m0
   ⟨0,[],H2,[],0,I0,.nil,T.keep 0 _ _ st2 (fun b hb o e=>old b o e),fun b hb=>(fpX b hb).1,w0⟩
  rintro n s3 ⟨i,ys,H3,its,k,I3,rv,st3,fr3,w3⟩
  have pinl:∀{o:Obj},∀p∈[(D,o)],p.1=D:=fun {o} p hp=>by
   have ep:p=(D,o):=by simpa using hp
   rw [ep]
  obtain ⟨gD,nD,_,_,_⟩:=I3.pin (D,_) (List.mem_append_right _ List.mem_cons_self)
  rcases turn i n ys H3 w3 with ⟨stop,hz,q⟩|⟨go,hz,step⟩
  ·refine thn (T.done Y rfl rfl rfl hc i _ s3 _ H3 E' I3 (fpY pinl fr3) st3 stop) fun r s4 ⟨hr,I4⟩=>?_
   subst hr
   obtain ⟨gD4,nD4,_,_,_⟩:=I4.pin (D,_) (List.mem_append_right _ List.mem_cons_self)
   obtain ⟨m4,hn4,_⟩:=id I4.loc
   have fin:∀h',Heap.SameBut C s4.heap h'→Inv X pins σ (upd H3 D (.lst ys)) { s4 with heap:=h' }:=fun h' hsb=>by
    have neC:∀{b:Addr} {u:HO},H3 b=some u→b≠C:=fun e z=>by
     have:H3 C=none:=I4.free
     rw [z,this] at e;cases e
    refine I2.call' (s':={ s4 with heap:=h' }) (ch:=fp) (H':=upd H3 D (.lst ys)) I4.os ?_ ?_ I4.bare fun b hb=>⟨(fpX b hb).2.2.2.1,(fpX b hb).2.1,(fpX b hb).2.2.2.2.1,(fpX b hb).2.2.2.2.2⟩
    ·have B:=I4.base
     have ltC:∀{b:Nat} {o:Obj},s₂.heap.get? b=some o→b≠C:=fun e z=>ar2 (ltS e) hC z
     have neD:∀{b:Addr} {u:HO},H3 b=some u→b≠D:=fun e z=>by rw [z,nD4] at e;cases e
     refine ⟨fun b o e nn hb hx=>(hsb.2 b (ltC e)).trans (B.keep b o e nn hb hx),fun b o e nn hb hx=>?_,fun b o e nn hx=>?_,fun b o e hx=>?_,fun b xs e=>?_,fun b o u e=>?_,fun b ps e=>?_⟩
     ·obtain ⟨sl,z⟩:=B.slot b o e nn hb hx
      exact ⟨sl,(hsb.2 b (ltC e)).trans z⟩
     ·have hbD:b≠D:=Nat.ne_of_lt (ltS e)
      rw [zu hbD]
      exact B.free b o e nn hx
     ·obtain ⟨o',z⟩:=B.there b o e hx
      exact ⟨o',(hsb.2 b (ltC e)).trans z⟩
     ·have z:=B.tups b xs e
      rw [zu (neD z)];exact z
     ·have z:=B.frzs b o u e
      rw [zu (neD z)];exact z
     ·obtain ⟨more,z⟩:=B.tbls b ps e
      exact ⟨more,by rw [zu (neD z)];exact z⟩
    ·intro a o e
     by_cases ha:a=D
     ·subst ha
      rw [zx] at e
      cases e
      exact ⟨hz,its,k,rv,(hsb.2 _ hDC).trans gD4⟩
     ·rw [zu ha] at e
      have keepNe:∀b u,H3 b=some u→(upd H3 D (.lst ys)) b=some u:=fun b u z=>by
       have hb:b≠D:=fun w=>by rw [w,nD4] at z;cases z
       rw [zu hb];exact z
      refine (I4.hok a o e).stay (fun b u hb z=>(hsb.2 b ?_).trans z) (fun b z=>keepNe b _ z) fun b xs z=>keepNe b _ z
      rcases hb with hb|hb
      ·rw [hb];exact neC e
      ·exact neC hb
   have hCD:C≠D:=fun z=>hDC z.symm
   have IX:=fin s4.heap ⟨rfl,fun _ _=>rfl⟩
   obtain ⟨oC,eC,pC,gC,rC⟩:=id hn4
   have hCn:upd H3 D (.lst ys) C=none:=by rw [zu hCD];exact I4.free
   have hCe:∀b o,s₂.heap.get? b=some o→b≠C:=fun b o e z=>ar2 (ltS e) hC z
   have hCl:C≠X.env.locals:=fun z=>by
    obtain ⟨m2,hn2,_⟩:=id I2.loc
    obtain ⟨o2,_,_,g2,_⟩:=hn2
    exact hCe _ _ g2 z.symm
   have hCf:C∉X.fs:=I2.nofs (by rw [hD];omega)
   have IP:Inv X (pins++[(C,oC)]) σ (upd H3 D (.lst ys)) s4:=IX.pins_of fun p hp=>by
    rcases List.mem_append.mp hp with hp|hp
    ·exact IX.pin p (List.mem_append_right _ hp)
    ·have ep:p=(C,oC):=by simpa using hp
     subst ep
     exact ⟨gC,hCn,hCl,hCf,fun v z=>by rw [rC.1] at z;cases z⟩
   show wpAny _ _ (assign (.Name y pos') X.env (.ref D)) _ _ s4
   have hst:wpAny (model X.prog X.w) X.A (assign (.Name y pos') X.env (.ref D)) (fun _ s5=>Inv X (pins++[(C,oC)]) (σ.set iy (some (.ref D))) (upd H3 D (.lst ys)) s5) X.xe s4:=wpAny_assign_Name (zdi IP hNX hiy hy (v:=.ref D) rfl (fun s5 I5=>I5) hfy)
   refine thn hst fun _ s5 I5=>?_
   have g5:=(I5.pin (C,oC) (List.mem_append_right _ (List.mem_append_right _ List.mem_cons_self))).1
   refine ⟨m4,⟨oC,eC,pC,g5,rC⟩,fun h'' hsb=>wpAny_pure (wpAny_pure ⟨_,_,?_,q D nD4⟩)⟩
   exact (I5.pins_of (pins':=pins) fun p hp=>I5.pin p (List.mem_append_right _ (List.mem_append_left _ hp))).turned (it:=C) (t':=s5.toks) (fun b o hb e=>(hsb.2 b hb).trans e) hCn hCl
    (.inr (by have:=I2.sz;rw [hD] at this;omega)) (fun a c ha z=>by
     obtain ⟨v',o',ho',_⟩:=I2.cell a c ha
     exact hCe _ _ ho' z) (fun p hp=>hCe _ _ (I2.pin p hp).1)
  ·refine thn (T.item Y rfl rfl rfl hc i _ s3 _ H3 E' I3 (fpY pinl fr3) st3 go) fun r s4 ⟨u,hr,h4⟩=>?_
   subst hr
   refine thn h4 fun _ s5 ⟨z,H5,I5,r5,y5,st5,fr5⟩=>?_
   have I5':=I5.pinned (fpY pinl fr5) (T.obj _ _ st5)
   have pgx:PG Y (.Name x px) (gName 0):=zc3 (X:=Y) hN rfl (.inl (lookup_relabel_local S.hx)) (.inr (lookup_relabel_local S.hx))
   have peY:PE Y elt te:=PE.nox (X:=Y) (he cl C s₂ H2 fp)
   refine thn (pgx _ s5 (none::σ) H5 z u (fun σ' H'=>σ'=some z::σ∧H'=H5) I5' r5 ⟨rfl,rfl⟩) fun _ s6 ⟨σ6,H6,I6,e1,e2⟩=>?_
   subst e1 e2
   refine thn (peY _ s6 _ _ _ I6 (step z _ y5)) fun uy s7 ⟨y,H7,I7,ry,m',hm,w7⟩=>?_
   obtain ⟨gD7,nD7,_,_,_⟩:=I7.pin (D,_) (List.mem_append_right _ (List.mem_append_left _ List.mem_cons_self))
   refine wpAny_list_append_plain ⟨k,gD7⟩ (fun h' hpl hsb=>?_) (by rw [List.size_toArray,←rv.length];exact hz)
   obtain ⟨k',gD'⟩:=hpl
   have I8:Inv Y [] (some z::σ) H7 { s7 with heap:=h' }:=(I7.pins_of (pins':=[]) (fun p hp=>nomatch hp)).turned (it:=D) (t':=s7.toks) (fun b o hb e=>(hsb.2 b hb).trans e) nD7 hDC
    (.inr (by show s₂.heap.objs.size≤D;omega)) (fun a c hy hz'=>by
     obtain ⟨v',o',ho',_⟩:=I2.cell a c (hcl1 a c hy)
     exact Nat.ne_of_lt (ltS ho') hz') (fun p hp=>by simp [Y,cxH] at hp)
   have I9:Inv Y [] (none::σ) H7 { s7 with heap:=h' }:=I8.weak (by simp) fun j v e=>by
    cases j with
    | zero=>simp at e
    | succ j=>simpa using e
   have pinOf:∀b∈fp,∃o,s5.heap.get? b=some o∧s7.heap.get? b=some o∧H7 b=none:=fun b hb=>by
    obtain ⟨o,e,_⟩:=T.obj _ _ st5 b hb
    have q:=I7.pin (b,o) (List.mem_append_right _ (List.mem_append_right _ (zcQ hb e)))
    exact ⟨o,e,q.1,q.2.1⟩
   have fpD:∀b∈fp,b≠D:=fun b hb=>by
    obtain ⟨o,ho,_⟩:=T.obj 0 _ st2 b hb
    exact Nat.ne_of_lt (ltS ho)
   have eT:its.toArray.push uy=(its++[uy]).toArray:=by simp
   rw [eT] at gD'
   refine ⟨m',hm,i+1,ys++[y],H7,its++[uy],k',I9.pins_of (hpinD gD' nD7 fun v e=>by cases e),rv.append (.cons ry .nil),T.keep (i+1) _ _ st5 fun b hb o e=>?_,fun b hb=>?_,w7⟩
   ·obtain ⟨o',e1,e2,_⟩:=pinOf b hb
    rw [e] at e1
    cases e1
    exact (hsb.2 b (fpD b hb)).trans e2
   ·obtain ⟨_,_,_,q⟩:=pinOf b hb
    exact q
 exact codeAny_compStart_list loop (T.self X.A 0 _ _ _ (T.keep 0 _ _ st2 (fun b hb o e=>old b o e)) loop)
end L2
namespace Mi
open PySem L2 PySem.W PySem.Spec
section
variable {X:Cx} {Er:XK} {pos:Pos}
def tMI (X:Cx) (Er:XK) (src:PEnv→Mo Sq):TI:=fun σ H R=>∃env st ρ,EnvR X.K X.mg ρ H env σ∧StR X.K X.mg ρ H st∧Out X.K X.mg ρ H (src env st) (fun ρ' H' q st'=>∀J,Walk X.K X.mg J ρ' H' q→R J H') Er
theorem zji {src:PEnv→Mo Sq} {fe:PEnv→Mo PV} (σ:L2.St) (H:Hp) (Q:VK) (hh:tM X.K X.mg Er (mComp src fe) σ H Q):tComp (tMI X Er src) (tM X.K X.mg XN fe) σ H Q:=by
 obtain ⟨env,st,ρ,re,rs,h⟩:=hh
 refine ⟨env,st,ρ,re,rs,h.then fun ρ0 H0 q st0 e0 s0 h0 J wk=>?_⟩
 cases q with
 | im xs =>
  obtain ⟨hl,h0⟩:=Out.ifp h0
  obtain ⟨w1,w2,w3⟩:=wk
  refine ⟨fun i m ys H=>m=xs.length-i∧i≤xs.length∧ys.length=i∧∃ps st ρ,Rs X.K X.mg ρ H ps ys∧StR X.K X.mg ρ H st∧Ext ρ0 H0 ρ H∧Out X.K X.mg ρ H (compL fe env (xs.drop i) ps st) (gV X.K X.mg Q) Er,⟨xs.length,by simp,Nat.zero_le _,rfl,[],st0,ρ0,rfl,s0,Ext.refl,h0⟩,?_⟩
  rintro i m ys H ⟨rfl,hi,hy,ps,st,ρ,rps,rs,ex,h⟩
  by_cases hlt:i<xs.length
  ·refine .inr ⟨w1 i ρ H ex hlt,zR (by omega),fun v H' y=>?_⟩
   obtain ⟨x,hx,ex2,s2,rx⟩:=w3 i ρ H st v H' ex rs hlt y
   have hd:xs.drop i=x::xs.drop (i+1):=by
    rw [List.drop_eq_getElem_cons hlt]
    have:=(List.getElem?_eq_some_iff.mp hx).2
    rw [this]
   rw [hd] at h
   simp only [compL] at h
   refine ⟨some x::env,st,ρ,(re.ext (e0.trans (ex.trans ex2))).cons rx,s2,zb2 (Out.ext h ex2) fun ρ3 H3 y st3 e3 s3 h3 v ry=>⟨xs.length-(i+1),by omega,rfl,hlt,by simp [hy],ps++[y],st3,ρ3,Rs.snoc ry (Rs.ext (ex2.trans e3) ps rps),s3,(ex.trans ex2).trans e3,h3⟩⟩
  ·have e:i=xs.length:=by omega
   subst e
   rw [List.drop_length] at h
   exact .inl ⟨w2 _ ρ H ex (Nat.le_refl _),zR (by omega),fun l hl=>Out.newList h rs rps hl⟩
 | rf n =>
  obtain ⟨a,ha,rfl⟩:=wk
  refine ⟨fun i m ys H=>m+i=lim+1∧ys.length=i∧∃ps st ρ,Rs X.K X.mg ρ H ps ys∧StR X.K X.mg ρ H st∧Ext ρ0 H0 ρ H∧ρ[n]?=some a∧Out X.K X.mg ρ H (compR fe env n m i ps st) (gV X.K X.mg Q) Er,⟨lim+1,rfl,rfl,[],st0,ρ0,rfl,s0,Ext.refl,ha,h0⟩,?_⟩
  rintro i m ys H ⟨hm,hy,ps,st,ρ,rps,rs,ex,ha,h⟩
  cases m with
  | zero=>exact False.elim h
  | succ m =>
   obtain ⟨xs,hn,h⟩:=zE h
   obtain ⟨vs,hH,hR⟩:=rs.addr hn ha
   cases hx:xs[i]? with
   | none =>
    simp only [hx] at h
    have:vs.length≤i:=by rw [←hR.len];exact List.getElem?_eq_none_iff.mp hx
    exact .inl ⟨⟨vs,SqL.of hH,this⟩,zR (by omega),fun l hl=>Out.newList h rs rps hl⟩
   | some x =>
    simp only [hx] at h
    obtain ⟨v,hv,rv⟩:=hR.get hx
    refine .inr ⟨⟨vs,v,SqL.of hH,hv⟩,zR (by omega),fun v' H' y=>?_⟩
    obtain ⟨e1,y⟩:=y
    subst e1
    have e2:=y vs (SqL.of hH)
    rw [hv] at e2
    cases e2
    exact ⟨some x::env,st,ρ,(re.ext (e0.trans ex)).cons rv,rs,zb2 h fun ρ3 H3 y st3 e3 s3 h3 v ry=>⟨m,Nat.lt_succ_self m,by omega,by simp [hy],ps++[y],st3,ρ3,Rs.snoc ry (Rs.ext e3 ps rps),s3,ex.trans e3,e3.get ha,h3⟩⟩
theorem zgz (i:Nat) {elt iter:Expr} {x y:Str} {px pos' spos:Pos} {scope:Scope} {src:PEnv→Mo Sq} {fe:PEnv→Mo PV} {M:List Str} (hc:X.calm=true) (S:CompSc X.env.scope scope x) (eN:Hid scope M X.N) (hN0:((".0" : Str)::x::M).Nodup)
  (hi:MI X Er (.Name x px) iter src) (he:∀cl C s₂ H₂ fp,ME (cxH X M scope cl x C s₂ H₂ fp (fun _ _=>False)) XN elt fe) (hNX:X.N.Nodup) (hiy:X.N[i]?=some y) (hy:Loc X.env.scope y) (hfy:X.fn y=true∨X.env.scope.names.lookup y=some .local)
  (hsw:swapsWith (.ListComp elt [⟨.Name x px,iter,[],0⟩] scope pos) (some (.Name y pos')) spos.line X.env=pure true) (hs:∀v,foldedSetIterable iter X.env v=pure v:=by intro _;rfl) :
  MS X Er (.Assign [.Name y pos'] (.ListComp elt [⟨.Name x px,iter,[],0⟩] scope pos) spos) (sSet i (mComp src fe)) :=
 PS.weak (zhT (te:=tM X.K X.mg XN fe) hc S eN hN0 hi (fun cl C s₂ H₂ fp=>he cl C s₂ H₂ fp) hNX hiy hy hfy hsw hs) fun D σ H ⟨env,st,ρ,re,rs,h⟩=>by
  refine zji (X:=X) (Er:=Er) (src:=src) (fe:=fe) σ H (fun v H2=>D.nx (σ.set i (some v)) H2) ⟨env,st,ρ,re,rs,h.then fun ρ1 H1 x st1 e1 s1 h1 v rv=>?_⟩
  exact h1.now s1 (σ.set i (some v)) ((re.ext e1).set i rv)
end
end Mi
namespace L2
open PySem PySem.Spec PyProof.Rows PySem.W
section
variable {X:Cx} {pins:List (Addr×Obj)} {σ:St} {H:Hp} {s:Shared} {a:Addr} {kvs:List (Key×V)} {o:Obj}
end
end L2
namespace Mi
open PySem L2 PySem.W PySem.Spec
section
variable {K:Frag} {mg:Str→Option Value} {ρ:List Addr} {H:Hp} {a:Addr} {o:Obj} {kvs:List (Key×V)} {u:HO}
theorem zjj (ha:H a=some (.frz o (.dK kvs))) {b:Addr} {w:HO} (h:H b=some w) (n:∀o k,w ≠ .frz o (.dK k)):upd H a u b=some w:=by
 rw [zu]
 ·exact h
 ·intro z;subst z;rw [ha] at h;cases h;exact n _ _ rfl
theorem zoc (ha:H a=some (.frz o (.dK kvs))) {p:Addr} {xs:List V} (h:SqT K H p xs):SqT K (upd H a u) p xs:=by
 rcases h with (h|⟨o,h⟩)|h
 ·exact .inl (.inl (zjj ha h (fun _ _=>nofun)))
 ·exact .inl (.inr ⟨o,zjj ha h (fun _ _=>nofun)⟩)
 ·exact .inr h
theorem zod (ha:H a=some (.frz o (.dK kvs))) {p:Addr} {xs:List V} (h:FrL K H p xs):FrL K (upd H a u) p xs:=by
 rcases h with ⟨o,h⟩|h
 ·exact .inl ⟨o,zjj ha h (fun _ _=>nofun)⟩
 ·exact .inr h
mutual
theorem R.th (ha:H a=some (.frz o (.dK kvs))):∀(x:PV) {v:V},R K mg ρ H x v→R K mg ρ (upd H a u) x v
 | .non,_,h=>h
 | .bl _,_,h=>h
 | .int _,_,h=>h
 | .str _,_,h=>h
 | .ty _,_,h=>h
 | .tup xs,_,h=>by
  obtain ⟨a,vs,h1,h2,h3⟩:=h
  exact ⟨a,vs,h1,zoc ha h2,Rs.th ha xs h3⟩
 | .frl xs,_,h=>by
  obtain ⟨a,vs,h1,h2,h3⟩:=h
  exact ⟨a,vs,h1,zod ha h2,Rs.th ha xs h3⟩
 | .ref n,_,h=>h
 | .fn _,_,h=>h
 | .kd ks xs,_,h=>by
  obtain ⟨a,us,vs,h1,h2,h4,h3⟩:=h
  exact ⟨a,us,vs,h1,h2,h4,Rs.th ha xs h3⟩
 | .exo c ks xs,_,h=>by
  obtain ⟨a,C,d,vs,h1,h2,h3,h4,h5,h6⟩:=h
  exact ⟨a,C,d,vs,h1,h2,zjj ha h3 (fun _ _=>nofun),zjj ha h4 (fun _ _=>nofun),Rs.th ha xs h5,h6⟩
theorem Rs.th (ha:H a=some (.frz o (.dK kvs))):∀(xs:List PV) {vs:List V},Rs K mg ρ H xs vs→Rs K mg ρ (upd H a u) xs vs
 | [],_,h=>h
 | x::xs,_,h=>by
  obtain ⟨v,r,h1,h2,h3⟩:=h
  exact ⟨v,r,h1,R.th ha x h2,Rs.th ha xs h3⟩
end
theorem EnvR.th (ha:H a=some (.frz o (.dK kvs))) {env:PEnv} {σ:L2.St} (h:EnvR K mg ρ H env σ):EnvR K mg ρ (upd H a u) env σ :=
 ⟨h.len,fun i x hx=>let ⟨v,p,q⟩:=h.at_ i x hx;⟨v,p,R.th ha x q⟩⟩
end
section
variable {X:Cx} {Er:XK} {pos:Pos} {o:Expr} {sts:List Stmt} {gb:PEnv→Mo Fl} {fo:PEnv→Mo PV} {fs:PEnv→Mo (List PV)}
end
end Mi
namespace L2
open PySem PySem.Spec PyProof.Rows PySem.W
end L2
namespace Mi
open PySem L2 PySem.W PySem.Spec
section
variable {X:Cx} {Er:XK} {K:Frag} {mg:Str→Option Value} {pos p apos cpos:Pos} {o e f:Expr} {fo fk fx:PEnv→Mo PV}
def boolsP:List PV→Option (List Bool)
 | []=>some []
 | .bl b::r=>(boolsP r).map (b::·)
 | _::_=>none
theorem zha {ρ:List Addr} {H:Hp}:∀{xs:List PV} {bs:List Bool} {vs:List V},boolsP xs=some bs→Rs K mg ρ H xs vs→vs=bs.map V.bl
 | [],bs,vs,e,h=>by cases e;cases h;rfl
 | .bl i::r,bs,vs,e,h=>by
  simp only [boolsP,Option.map_eq_some_iff] at e
  obtain ⟨ir,e1,rfl⟩:=e
  obtain ⟨v,r',rfl,h1,h2⟩:=h
  cases h1
  rw [zha e1 h2]
  rfl
 | .non::_,_,_,e,_=>by cases e
 | .int _::_,_,_,e,_=>by cases e
 | .str _::_,_,_,e,_=>by cases e
 | .ty _::_,_,_,e,_=>by cases e
 | .tup _::_,_,_,e,_=>by cases e
 | .frl _::_,_,_,e,_=>by cases e
 | .ref _::_,_,_,e,_=>by cases e
 | .fn _::_,_,_,e,_=>by cases e
 | .kd _ _::_,_,_,e,_=>by cases e
 | .exo _ _ _::_,_,_,e,_=>by cases e
theorem zeZ:∀bs:List Bool,boolsP (bs.map PV.bl)=some bs
 | []=>rfl
 | b::bs=>by simp [boolsP,zeZ bs]
def oAll:List PV→Mo PV:=fun vs st=>(oneL vs st).bind fun n st=>withL st n fun xs=>match boolsP xs with
 | some bs=>.ok (.bl (bs.all id)) st
 | none=>.stuck
theorem zps (hc:X.calm=true):BltOk X (.builtin "all") oAll:=⟨_,zj5 hc,fun ρ H st xs vs Q E s r h=>by
 obtain ⟨n,ys,rfl,hn,h⟩:=zfj h
 obtain ⟨xs',hn',h⟩:=zE h
 obtain ⟨v,rfl,rv⟩:=r.one
 obtain ⟨a,rfl,ha⟩:=rv
 obtain ⟨ws,hH,hR⟩:=s.addr hn' ha
 cases hi:boolsP xs' with
 | none=>simp only [hi] at h;exact False.elim h
 | some bs =>
  simp only [hi] at h
  have e:=zha hi hR
  subst e
  exact ⟨a,bs,rfl,SqL.of hH,Out.now (x:=PV.bl (bs.all id)) h s _ rfl⟩⟩
theorem zoe:bootBuiltins "all" = some (.builtin "all"):=by decide +kernel
inductive MPk (X:Cx) (Er:XK):List (Option Expr)→List Expr→List ((PEnv→Mo PV)×(PEnv→Mo PV))→Prop
 | nil:MPk X Er [] [] []
 | cons {k v:Expr} {fk fv:PEnv→Mo PV} {ks:List (Option Expr)} {vs:List Expr} {fs:List ((PEnv→Mo PV)×(PEnv→Mo PV))} (hk:ME X Er k fk) (hv:ME X Er v fv) (hr:MPk X Er ks vs fs):MPk X Er (some k::ks) (v::vs) ((fk,fv)::fs)
theorem MPk.len {ks:List (Option Expr)} {vs:List Expr} {fs:List ((PEnv→Mo PV)×(PEnv→Mo PV))} (h:MPk X Er ks vs fs):ks.length=vs.length∧ks.length=fs.length∧ks.all (·.isSome)=true:=by
 induction h with
 | nil=>exact ⟨rfl,rfl,rfl⟩
 | cons hk hv hr ih=>exact ⟨by simp [ih.1],by simp [ih.2.1],by simpa using ih.2.2⟩
end
section
variable {K:Frag} {mg:Str→Option Value} {h:Heap}
end
end Mi
namespace Mi
open PySem L2 PySem.W PySem.Spec
section
variable {X:Cx} {Er:XK} {K:Frag} {mg:Str→Option Value}
end
section
variable {α:Type} {env:PEnv} {st:Sto} {fa fb fo fk fx:PEnv→Mo PV} {fs:PEnv→Mo (List PV)} {g:PEnv→Mo Fl}
theorem zhb {n:Nat} {ks:List Str} {xs:List PV} (h:st[n]?=some (.dic ks xs)) (k:List Str→List PV→Res α):withD st n k=k ks xs:=by unfold withD;rw [h]
end
end Mi
namespace L2
open PySem PySem.Spec PyProof.Rows PySem.W
section
variable {X:Cx}
end
end L2
namespace Mi
open PySem L2 PySem.W PySem.Spec
section
variable {X:Cx} {Er:XK} {pos:Pos} {K:Frag} {mg:Str→Option Value} {fs:PEnv→Mo (List PV)}
end
end Mi
namespace PySem
open Sem (wp)
section
variable {prog:Program} {w:World} {A:Around} {s:Shared} {R:Result→Shared→Prop}
variable {I:Addr} {fp wr:List Addr} {G:Array GenState→Array GenState→Prop} {n:Nat} {P:Nat→Value→Prop} {St:Nat→Shared→Prop}
end
end PySem
namespace PySem
open Sem (wp)
section
variable {prog:Program} {w:World} {A:Around} {s:Shared} {R:Result→Shared→Prop}
variable {I:Addr} {fp wr:List Addr} {G:Array GenState→Array GenState→Prop} {n:Nat} {P:Nat→Value→Prop} {St:Nat→Shared→Prop}
end
section
variable {prog:Program} {w:World} {A:Around} {E:Value→Shared→Prop} {s:Shared}
variable {I:Addr} {fp wr:List Addr} {G:Array GenState→Array GenState→Prop} {n:Nat} {P:Nat→Value→Prop} {St:Nat→Shared→Prop}
end
end PySem
namespace L2
open PySem PySem.Spec PyProof.Rows PySem.W
section
variable {X:Cx}
end
end L2
namespace Mi
open PySem L2 PySem.W PySem.Spec
section
variable {X:Cx} {Er:XK} {pos:Pos} {K:Frag} {mg:Str→Option Value} {fs:PEnv→Mo (List PV)}
end
end Mi
namespace Mi
open PySem L2 PySem.W PySem.Spec
section
variable {X:Cx} {Er:XK} {pos pos':Pos} {o i value:Expr} {fo fi fv:PEnv→Mo PV}
end
end Mi
namespace Mi
open PySem L2 PySem.W PySem.Spec
section
variable {X:Cx}
def oAbs:List PV→Mo PV
 | [.int i],st=>.ok (.int (if i<0 then -i else i)) st
 | _,_=>.stuck
theorem zpt:BltOk X (.builtin "abs") oAbs:=⟨_,zjV,fun ρ H st xs vs Q E s r h=>by
 unfold oAbs at h
 split at h
 ·rename_i st' i
  obtain ⟨v,rfl,r1⟩:=r.one
  cases r1
  exact ⟨i,rfl,Out.now (x:=PV.int (if i<0 then -i else i)) h s _ rfl⟩
 ·exact False.elim h⟩
theorem zof:bootBuiltins "abs" = some (.builtin "abs"):=by decide +kernel
@[simp] theorem zqa (i:Int) (st:Sto):oAbs [.int i] st=.ok (.int (if i<0 then -i else i)) st:=(rfl)
end
end Mi
namespace L2
open PySem PySem.Spec PyProof.Rows PySem.W
section
variable {prog:Program} {w:World} {A:Around} {E:Value→Shared→Prop} {s:Shared}
theorem zfW {it l:Addr} {items:Array Value} (hne:l≠it):∀(n i:Nat) (s:Shared) (Q:List Value→Shared→Prop),s.heap.IsListIter it l i→s.heap.IsList l items→i+n≤items.size →
  (∀h',h'.IsListIter it l (i+n)→Heap.SameBut it s.heap h'→Q ((items.toList.drop i).take n) { s with heap:=h' })→wpAny (model prog w) A (draw (.ref it) n) Q E s
 | 0,i,s,Q,hit,_,_,hQ=>by
  show wpAny _ _ (pure []) Q E s
  exact wpAny_pure (by simpa using hQ s.heap hit (Heap.SameBut.refl ..))
 | n+1,i,s,Q,hit,hl,hle,hQ=>by
  have hlt:i<items.size:=by omega
  show wpAny _ _ (pyNext (.ref it) >>= _) Q E s
  refine wpAny_bind (wpAny_pyNext_list_item hit hl (x:=items[i]) (by simp [hlt]) fun h₁ hit₁ hs₁=>?_)
  refine wpAny_bind (wpAny_holding (zfW hne n (i+1) _ _ hit₁ (hl.at fun o e=>hs₁.extBut _ o hne e) (by omega) fun h₂ hit₂ hs₂=>wpAny_pure ?_))
  have hd:items.toList.drop i=items[i]::items.toList.drop (i+1):=by simp [List.drop_eq_getElem_cons,hlt]
  have:=hQ h₂ (by rw [show i+(n+1)=i+1+n by omega];exact hit₂) (hs₁.trans hs₂)
  rw [hd,List.take_succ_cons] at this
  exact this
theorem zdQ {env:Env} {elts:List Expr} {x1} {pos:Pos} {t:Addr} {items:Array Value} {Q:Unit→Shared→Prop} (hh:A.handled=none) (ht:s.heap.IsList t items)
  (hn:(assignEach elts env).length=items.size) (hstar:(assignEach elts env).findIdx? (·.1)=none)
  (h:∀h',Heap.ExtBut s.heap.objs.size s.heap h'→wpAny (model prog w) A (assignInOrder ((assignEach elts env).map (·.2)) items.toList) Q E { s with heap:=h' }) :
  wpAny (model prog w) A (assign (.Tuple elts x1 pos) env (.ref t)) Q E s:=by
 rw [assign_Tuple]
 refine wpAny_bind (wpAny_standAt ?_)
 unfold unpack
 rw [hn,hstar]
 refine wpAny_bind (wpAny_holding ?_)
 have hlt:t≠s.heap.objs.size:=by obtain ⟨o,ho,_⟩:=ht;exact Nat.ne_of_lt (Heap.lt_size ho)
 unfold unpackItems
 refine wpAny_bind ?_
 unfold notIterableAtAll
 refine wpAny_bind (wpAny_specialOf ht.typeIs slot_list_iter.lookup ?_)
 refine wpAny_pure ?_
 simp only [Bool.false_eq_true,if_false]
 refine wpAny_bind (wpAny_holding (wpAny_pyIter_list ht ?_))
 refine wpAny_bind (wpAny_holding (zfW hlt items.size 0 _ _ ⟨_,Heap.get?_push_size _ rfl,rfl,rfl⟩ (ht.at fun o e=>Heap.get?_push_of_some _ e) (by omega) fun h₁ hit₁ hs₁=>?_))
 have hall:List.take items.size (List.drop 0 items.toList)=items.toList:=by
  rw [List.drop_zero];exact List.take_of_length_le (by simp)
 rw [hall]
 rw [if_neg (by simp)]
 have ht₁:h₁.IsList t items:=(ht.at fun o e=>Heap.get?_push_of_some _ e).at fun o e=>hs₁.extBut _ o hlt e
 refine wpAny_bind (wpAny_holding (wpAny_pyNext_list_end hh hit₁ ht₁ (by simp) fun h₂ he₂=>?_))
 simp only [Option.isSome_none,Bool.false_eq_true,if_false]
 refine wpAny_pure (h h₂ fun b o hb e=>he₂ b o hb (hs₁.extBut b o hb (Heap.get?_push_of_some _ e)))
end
section
variable {X:Cx} {pos:Pos}
def gTupL (K:PySem.W.Frag) (n:Nat) (t:TGs):TG:=fun v σ H Q=>∃a xs,v=.ref a∧SqL K H a xs∧xs.length=n∧t xs σ H Q
theorem zmA {es:List Expr} {k:Nat} {t:TGs} {n:Nat} (hc:X.calm=true) (h:PGs X es t)
  (hn:(assignEach es X.env).length=n:=by rfl) (hst:(assignEach es X.env).findIdx? (·.1)=none:=by rfl):PG X (.Tuple es k pos) (gTupL X.K n t):=by
 intro pins s σ H v u Q I r hw
 obtain ⟨a,xs,e1,hq,hl,hw⟩:=hw
 subst e1
 cases r
 obtain ⟨its,rv,pl,hz⟩:=I.list hq
 refine zdQ (I.ok.hd hc) pl.isList (by simp [hn,←hl,rv.length]) hst fun h' hx=>?_
 have I1:Inv X pins σ H { s with heap:=h' }:=I.kept (t':=s.toks) fun b o e=>hx b o (Nat.ne_of_lt (Heap.lt_size e)) e
 exact h pins _ σ H xs _ Q I1 (by simpa using rv) hw
end
end L2
namespace Mi
open PySem L2 PySem.W PySem.Spec
section
variable {X:Cx} {Er:XK} {pos:Pos} {e:Expr} {fa:PEnv→Mo PV}
def zkz (i j:Nat) (env:PEnv):PV→Mo Fl
 | .ref n,st=>withL st n fun xs=>match xs with
  | [x,y]=>.ok (.nx ((env.set i (some x)).set j (some y))) st
  | _=>.stuck
 | _,_=>.stuck
def sToL (i j:Nat) (f:PEnv→Mo PV):PEnv→Mo Fl:=fun env st=>(f env st).bind fun x st1=>zkz i j env x st1
theorem zog (i j:Nat) {x y:Str} {kt:Nat} {px py tp:Pos} (hc:X.calm=true) (hN:X.N.Nodup) (he:ME X Er e fa) (hi:X.N[i]?=some x:=by rfl) (hj:X.N[j]?=some y:=by rfl) (hx:Loc X.env.scope x:=by first|exact Or.inl rfl|exact Or.inr rfl) (hy:Loc X.env.scope y:=by first|exact Or.inl rfl|exact Or.inr rfl)
  (hf:X.fn x=true∨X.env.scope.names.lookup x=some .local:=by first|exact .inl rfl|exact .inr rfl|assumption) (hf':X.fn y=true∨X.env.scope.names.lookup y=some .local:=by first|exact .inl rfl|exact .inr rfl|assumption)
  (hs:swapsWithSole [.Tuple [.Name x px,.Name y py] kt tp] e pos.line X.env=pure false:=by rfl) (hw:swappedStores [.Tuple [.Name x px,.Name y py] kt tp] e X.env=pure none:=by rfl)
  (h1:(assignEach [.Tuple [.Name x px,.Name y py] kt tp] X.env).map (·.2)=[assign (.Tuple [.Name x px,.Name y py] kt tp) X.env]:=by rfl):MS X Er (.Assign [.Tuple [.Name x px,.Name y py] kt tp] e pos) (sToL i j fa) :=
 PS.weak (zkY he (zmA (n:=2) hc (zef (zc3 hN hi hx hf) (zef (zc3 hN hj hy hf') zh5))) hs hw h1) fun D σ H ⟨env,st,ρ,re,rs,h⟩=>⟨env,st,ρ,re,rs,h.then fun ρ1 H1 z st1 e1 s1 h1 v rv=>by
  unfold zkz at h1
  split at h1
  ·rename_i z' st' n
   obtain ⟨a,rfl,ha⟩:=rv
   obtain ⟨xs,hn,h2⟩:=zE h1
   obtain ⟨vs,hH,hR⟩:=s1.addr hn ha
   split at h2
   ·rename_i x' y'
    obtain ⟨u,w',rfl,r1,r2⟩:=Rs.two hR
    exact ⟨a,_,rfl,SqL.of hH,rfl,u,[w'],rfl,w',[],rfl,rfl,Out.now (x:=Fl.nx _) h2 s1 _ (((re.ext e1).set i r1).set j r2)⟩
   ·exact False.elim h2
  ·exact False.elim h1⟩
@[simp] theorem zoh (i j:Nat) (env:PEnv) (st:Sto):sToL i j fa env st=(fa env st).bind fun x st1=>zkz i j env x st1:=(rfl)
theorem zkA {st:Sto} {n i j:Nat} {env:PEnv} {x y:PV} (h:st[n]?=some (.lst [x,y])):zkz i j env (.ref n) st=.ok (.nx ((env.set i (some x)).set j (some y))) st:=by
 show withL st n _=_
 unfold withL
 rw [h]
end
end Mi
namespace L2
open PySem PySem.Spec PyProof.Rows PySem.W
def StL (it t:Addr) (xs:Array Value) (k:Nat) (h:Heap):Prop:=h.IsListIter it t k∧h.IsList t xs
theorem zjk {prog:Program} {w:World} {it t:Addr} {xs:Array Value} (ne:t≠it):Ste prog w it t xs (StL it t xs) where
 at_:=fun {k h h'} q k1 k2=>by
  obtain ⟨⟨o,ho,r⟩,⟨o',ho',r'⟩⟩:=q
  exact ⟨⟨o,k1 o ho,r⟩,⟨o',k2 o' ho',r'⟩⟩
 lt:=fun q=>let ⟨⟨_,ho,_⟩,_⟩:=q;Heap.lt_size ho
 item:=fun {A E s k x Q} q hx hQ=>by
  obtain ⟨hit,ht⟩:=q
  obtain ⟨o,ho,hc,hd⟩:=id hit
  obtain ⟨ol,hol,_,nl,hdl⟩:=id ht
  unfold Builtin.SmallTypes.nextOf
  refine wpAny_bind (wpAny_callSpecial?_slot (name:=Str.ofString "__next__") hit.typeIs slot_listiter_next (wpAny_call_entry slot_listiter_next hit.typeIs entry_listiter_next ?_ (args_listiter_next _)))
  change wpAny _ _ (field (.ref it) 0 >>= _) _ _ s
  refine wpAny_bind (wpAny_field ho hd (x:=.ref t) rfl ?_)
  rw [if_neg (by simp)]
  change wpAny _ _ (field (.ref it) 1 >>= _) _ _ s
  refine wpAny_bind (wpAny_field ho hd (x:=.int k 0) rfl ?_)
  change wpAny _ _ (seqItems? (.ref t) >>= _) _ _ s
  refine wpAny_bind (wpAny_seqItems hol hdl ?_)
  simp only [hx,Int.toNat_natCast]
  have fl:=Obj.data_mapFields hd (·.setIfInBounds 1 (rawInt (k+1)))
  refine wpAny_bind (wpAny_setField ho hd (by simp) (wpAny_pure ⟨x,rfl,wpAny_pure (hQ _ ⟨⟨_,Heap.get?_update_self _ ho (Obj.isFreed_of_fields fl),(Obj.cls_mapFields ..).trans hc,?_⟩,?_⟩ (Heap.SameBut.update ..))⟩))
  ·rw [fl];simp [rawInt]
  ·exact ht.at fun o e=>(Heap.SameBut.update ..).extBut _ o ne e
 stop:=fun {A E s k Q} hh q hx hE=>by
  obtain ⟨hit,ht⟩:=q
  obtain ⟨o,ho,hc,hd⟩:=id hit
  obtain ⟨ol,hol,_,nl,hdl⟩:=id ht
  unfold Builtin.SmallTypes.nextOf
  refine wpAny_bind (wpAny_callSpecial?_slot (name:=Str.ofString "__next__") hit.typeIs slot_listiter_next (wpAny_call_entry slot_listiter_next hit.typeIs entry_listiter_next ?_ (args_listiter_next _)))
  change wpAny _ _ (field (.ref it) 0 >>= _) _ _ s
  refine wpAny_bind (wpAny_field ho hd (x:=.ref t) rfl ?_)
  rw [if_neg (by simp)]
  change wpAny _ _ (field (.ref it) 1 >>= _) _ _ s
  refine wpAny_bind (wpAny_field ho hd (x:=.int k 0) rfl ?_)
  change wpAny _ _ (seqItems? (.ref t) >>= _) _ _ s
  refine wpAny_bind (wpAny_seqItems hol hdl ?_)
  simp only [hx,Int.toNat_natCast]
  refine wpAny_bind (wpAny_rule (wpAny_bind (wpAny_setField ho hd (by simp) ?_)))
  change wpAny _ _ (newExc (.type "StopIteration") [] >>= _) _ _ _
  refine wpAny_bind ?_
  simp only [newExc,newTuple]
  refine wpAny_bind (wpAny_newObj_type (wpAny_bind (m:=firstArgMember _ _) (wpAny_of_eq (a:=Value.none) (by first|rfl|(simp only [firstArgMember];rfl)) (wpAny_newObj_type ?_ (by size_fits)))) (by size_fits))
  simp only [raiseNew]
  refine wpAny_bind (wpAny_handled ?_)
  first|rw [show A.in1.handled=none from hh]|rw [hh]
  exact wpAny_bind (wpAny_pure (wpAny_throw (hE _ _ (((Heap.SameBut.update ..).extBut.push _).push _) ⟨_,Heap.get?_push_size _ rfl,rfl⟩)))
def Itzl (K:Frag) (a b:Addr):It :=
 ⟨fun i H=>∃xs ys x y,SqL K H a xs∧SqT K H b ys∧xs[i]?=some x∧ys[i]?=some y,
  fun i H v H'=>∃T x y,H T=none∧v=.ref T∧H'=upd H T (.tup [x,y])∧(∀xs,SqL K H a xs→xs[i]?=some x)∧∀ys,SqT K H b ys→ys[i]?=some y,
  fun i H=>∃xs ys,SqL K H a xs∧SqT K H b ys∧(xs.length≤i∨ys.length≤i)⟩
def Zstl (z TI TO i1 i2 a b:Addr) (k:Nat) (h:Heap):Prop:=IsZip h z TI TO .none∧IsPair h TI (.ref i1) (.ref i2)∧(∃u v,IsPair h TO u v)∧h.IsListIter i1 a k∧IsTupIter h i2 b k
theorem zmB {P:Program} {w:World} {K:Frag} {elts:List Expr} {kt:Nat} {pos:Pos} {z TI TO i1 i2 a b:Addr} (V5:Five z TI TO i1 i2):Turn P w K (.Tuple elts kt pos) (Itzl K a b) [z,TI,TO,i1,i2] z (Zstl z TI TO i1 i2 a b) where
 mem:=by simp
 obj:=fun i h st c hc=>by
  obtain ⟨hz,hTI,⟨u,v,hTO⟩,⟨o1,e1,_,d1⟩,⟨o2,e2,_,d2⟩⟩:=st
  simp only [List.mem_cons,List.not_mem_nil,or_false] at hc
  rcases hc with q|q|q|q|q<;>rw [q]
  ·exact ⟨_,hz,fun v z=>by cases z⟩
  ·exact ⟨_,hTI,fun v z=>by cases z⟩
  ·exact ⟨_,hTO,fun v z=>by cases z⟩
  ·exact ⟨_,e1,fun v z=>by rw [d1] at z;cases z⟩
  ·exact ⟨_,e2,fun v z=>by rw [d2] at z;cases z⟩
 keep:=fun i h h' st k=>by
  obtain ⟨hz,hTI,⟨u,v,hTO⟩,⟨o1,e1,r1⟩,⟨o2,e2,r2⟩⟩:=st
  exact ⟨k z (by simp) _ hz,k TI (by simp) _ hTI,⟨u,v,k TO (by simp) _ hTO⟩,⟨o1,k i1 (by simp) _ e1,r1⟩,⟨o2,k i2 (by simp) _ e2,r2⟩⟩
 item:=by
  intro X hP hw hK hc i pins s σ H E I hf st hg
  subst hP hw hK
  obtain ⟨xs,ys,x,y,hq1,hq2,hx,hy⟩:=hg
  obtain ⟨hz,hTI,⟨u0,v0,hTO⟩,hi1,hi2⟩:=st
  obtain ⟨its1,rv1,p1,_⟩:=I.list hq1
  obtain ⟨its2,rv2,p2,_⟩:=I.tuple hq2
  obtain ⟨u,hu,ru⟩:=rv1.get hx
  obtain ⟨v,hv,rv⟩:=rv2.get hy
  have n1:∀c∈[z,TI,TO,i1,i2],a≠c:=fun c h=>zi9 I (hf c h) hq1
  have n2:∀c∈[z,TI,TO,i1,i2],b≠c:=fun c h=>zhM I (hf c h) hq2
  have D:ZipApart z TI TO i1 i2 a b:=⟨V5.TIz,V5.TOz,V5.i1z,V5.i2z,V5.TITO,V5.TIi1,V5.TIi2,V5.TOi1,V5.TOi2,V5.i12,n1 z (by simp),n1 TO (by simp),n1 i1 (by simp),n1 i2 (by simp),n2 z (by simp),n2 TO (by simp),n2 i1 (by simp),n2 i2 (by simp)⟩
  have hT:s.TypeIs (.ref z) "zip" := ⟨_,hz,rfl⟩
  unfold pyNext
  refine wpAny_bind (wpAny_attempt (wpAny_callSpecial?_slot (name:=Str.ofString "__next__") hT F.slot_zip_next (wpAny_call_entry F.slot_zip_next hT F.entry_zip_next
   (zev D (zjk D.l1i1) (zaB D.l2i2) hz hTI hTO ⟨hi1,p1.isList⟩ ⟨hi2,p2⟩ (by simpa using hu) (by simpa using hv) fun h1 z1 o1 f1 f2 pT kk=>wpAny_pure ⟨_,rfl,?_⟩) (F.args_zip_next_1 _))))
  refine wpAny_letOwnedTupleGo_zip (s:={ s with heap:=h1 }) z1 fun h2 z2 e2=>?_
  have fr:H s.heap.objs.size=none:=I.hok.fresh (Nat.le_refl _)
  have up:∀c o,c≠z→h1.get? c=some o→h2.get? c=some o:=fun c o n e=>e2.extBut _ _ n e
  have nz:s.heap.objs.size≠z:=Nat.ne_of_gt (Heap.lt_size hz)
  have k2:∀c o,c∉[z,TI,TO,i1,i2]→s.heap.get? c=some o→h2.get? c=some o:=fun c o nc e =>
   up c o (fun q=>nc (by simp [q])) (kk c o (fun q=>nc (by simp [q])) (fun q=>nc (by simp [q])) (fun q=>nc (by simp [q])) (fun q=>nc (by simp [q])) e)
  refine ⟨.ref s.heap.objs.size,upd H s.heap.objs.size (.tup [x,y]),?_,rfl,⟨s.heap.objs.size,x,y,fr,rfl,rfl,fun xs' h'=>by rw [I.list_inj h' hq1];exact hx,fun ys' h'=>by rw [I.tuple_inj h' hq2];exact hy⟩,?_,fun c hc'=>?_⟩
  ·exact Inv.turnN (s:=s) (h':=h2) (t':=s.toks) I hf k2 (Nat.le_refl _) ⟨show 2≤sizeLine by decide,[u,v],.cons ru (.cons rv .nil),_,up _ _ nz pT,rfl,_,rfl⟩
  ·exact ⟨z2,up _ _ D.TIz (kk _ _ D.TIz D.TITO D.TIi1 D.TIi2 hTI),⟨_,_,up _ _ D.TOz o1⟩,(let ⟨o,e,r⟩:=f1.1;⟨o,up _ _ D.i1z e,r⟩),(let ⟨o,e,r⟩:=f2.1;⟨o,up _ _ D.i2z e,r⟩)⟩
  ·have q:c≠s.heap.objs.size:=by
    have lt:∃o,s.heap.get? c=some o:=by
     simp only [List.mem_cons,List.not_mem_nil,or_false] at hc'
     rcases hc' with q|q|q|q|q<;>rw [q]
     ·exact ⟨_,hz⟩
     ·exact ⟨_,hTI⟩
     ·exact ⟨_,hTO⟩
     ·exact let ⟨o,e,_⟩:=hi1;⟨o,e⟩
     ·exact let ⟨o,e,_⟩:=hi2;⟨o,e⟩
    obtain ⟨o,e⟩:=lt
    exact Nat.ne_of_lt (Heap.lt_size e)
   rw [zu q]
   exact (hf c hc').1
 done:=by
  intro X hP hw hK hc i pins s σ H E I hf st hg
  subst hP hw hK
  obtain ⟨xs,ys,hq1,hq2,hx⟩:=hg
  obtain ⟨hz,hTI,⟨u0,v0,hTO⟩,hi1,hi2⟩:=st
  obtain ⟨its1,rv1,p1,_⟩:=I.list hq1
  obtain ⟨its2,rv2,p2,_⟩:=I.tuple hq2
  have l1:=rv1.length
  have l2:=rv2.length
  have n1:∀c∈[z,TI,TO,i1,i2],a≠c:=fun c h=>zi9 I (hf c h) hq1
  have n2:∀c∈[z,TI,TO,i1,i2],b≠c:=fun c h=>zhM I (hf c h) hq2
  have D:ZipApart z TI TO i1 i2 a b:=⟨V5.TIz,V5.TOz,V5.i1z,V5.i2z,V5.TITO,V5.TIi1,V5.TIi2,V5.TOi1,V5.TOi2,V5.i12,n1 z (by simp),n1 TO (by simp),n1 i1 (by simp),n1 i2 (by simp),n2 z (by simp),n2 TO (by simp),n2 i1 (by simp),n2 i2 (by simp)⟩
  have hT:s.TypeIs (.ref z) "zip" := ⟨_,hz,rfl⟩
  unfold pyNext
  refine wpAny_bind (wpAny_attempt (wpAny_callSpecial?_slot (name:=Str.ofString "__next__") hT F.slot_zip_next (wpAny_call_entry F.slot_zip_next hT F.entry_zip_next
   (zew (I.ok.hd hc) D (zjk D.l1i1) (zaB D.l2i2) hz hTI hTO ⟨hi1,p1.isList⟩ ⟨hi2,p2⟩ (hx.imp (fun h=>by simp;omega) fun h=>by simp;omega) fun h1 e kk he=>?_) (F.args_zip_next_1 _))))
  obtain ⟨o,ho,hco⟩:=he
  refine wpAny_bind (wpAny_isInstance (T := "StopIteration") (b:=true) ⟨o,ho,hco⟩ isSubtype_stop ?_)
  exact wpAny_pure ⟨rfl,Inv.turnL (t':=s.toks) I hf fun c o nc e=>kk c o (fun q=>nc (by simp [q])) (fun q=>nc (by simp [q])) (fun q=>nc (by simp [q])) (fun q=>nc (by simp [q])) e⟩
 self:=fun _ _ _ _ _ st h=>wpAny_pyIter_zip st.1 h
abbrev zl1 (h:Heap) (a:Addr):Heap:=h.push { cls:=.type "list_iterator", data:=.fields #[.ref a,.int 0 0] }
abbrev zl2 (h:Heap) (a b:Addr):Heap:=(zl1 h a).push { cls:=.type "tuple_iterator", data:=.fields #[.ref b,.int 0 0] }
abbrev zl3 (h:Heap) (a b:Addr):Heap:=(zl2 h a b).push { cls:=.type "tuple", data:=.seq #[.ref h.objs.size,.ref (zl1 h a).objs.size] }
abbrev zl4 (h:Heap) (a b:Addr):Heap:=(zl3 h a b).push { cls:=.type "tuple", data:=.seq #[.none,.none] }
abbrev zl5 (h:Heap) (a b:Addr):Heap:=(zl4 h a b).push { cls:=.type "zip", data:=.fields #[.none,.bool false,.bool false,.ref (zl2 h a b).objs.size,.ref (zl3 h a b).objs.size] }
theorem zkB (a b:Addr) (xs ys:Array Value) :
  Meets (Builtin.«zip.__new__» ⟨[.type "zip", .ref a,.ref b],[]⟩) (fun _ R s=>s.heap.IsList a xs∧IsTup s.heap b ys∧R (.ok (.ret (.ref (zl4 s.heap a b).objs.size))) { s with heap:=zl5 s.heap a b }) :=
 .of_wp fun prog w A R s h=>by
  obtain ⟨hp,g,d,tk,os⟩:=s
  obtain ⟨h1,h2,h⟩:=h
  have hsub:=sub_zip
  have H1:Heap.IsList (Shared.heap ⟨hp,g,d,tk,os⟩) a xs:=h1
  have H2:IsTup (Shared.heap ⟨hp.push { cls:=.type "list_iterator", data:=.fields #[.ref a,.int 0 0] },g,d,tk,os⟩) b ys:=h2.push _
  wp_walk using wpAny_pyIter_list H1,iter_tuple H2
  exact ⟨_,rfl,h⟩
section
variable {prog:Program} {w:World} {A:Around} {E:Value→Shared→Prop} {s:Shared}
theorem zmC {a b:Addr} {xs ys:Array Value} {Q:Value→Shared→Prop} (h1:s.heap.IsList a xs) (h2:IsTup s.heap b ys)
  (h:Zstl (s.heap.objs.size+4) (s.heap.objs.size+2) (s.heap.objs.size+3) s.heap.objs.size (s.heap.objs.size+1) a b 0 (zl5 s.heap a b)→Q (.ref (s.heap.objs.size+4)) { s with heap:=zl5 s.heap a b }) :
  wpAny (model prog w) A (call (.type "zip") [.ref a,.ref b]) Q E s:=by
 refine callType_new F.called_zip (by decide) (F.typeCall_zip_2 _ _) (F.newCall_zip_2 _ _) (fun obj=>F.args_object_init_3 obj _ _) F.entry_zip_new (zkB a b xs ys) ⟨h1,h2,?_⟩
 have z1:(zl1 s.heap a).objs.size=s.heap.objs.size+1:=Heap.size_push ..
 have z2:(zl2 s.heap a b).objs.size=s.heap.objs.size+2:=by rw [Heap.size_push,z1]
 have z3:(zl3 s.heap a b).objs.size=s.heap.objs.size+3:=by rw [Heap.size_push,z2]
 have z4:(zl4 s.heap a b).objs.size=s.heap.objs.size+4:=by rw [Heap.size_push,z3]
 have g5:(zl5 s.heap a b).get? (zl4 s.heap a b).objs.size=some _:=Heap.get?_push_size _ rfl
 have g4:(zl5 s.heap a b).get? (zl3 s.heap a b).objs.size=some _:=Heap.get?_push_of_some _ (Heap.get?_push_size _ rfl)
 have g3:(zl5 s.heap a b).get? (zl2 s.heap a b).objs.size=some _:=Heap.get?_push_of_some _ (Heap.get?_push_of_some _ (Heap.get?_push_size _ rfl))
 have g2:(zl5 s.heap a b).get? (zl1 s.heap a).objs.size=some _:=Heap.get?_push_of_some _ (Heap.get?_push_of_some _ (Heap.get?_push_of_some _ (Heap.get?_push_size _ rfl)))
 have g1:(zl5 s.heap a b).get? s.heap.objs.size=some _:=Heap.get?_push_of_some _ (Heap.get?_push_of_some _ (Heap.get?_push_of_some _ (Heap.get?_push_of_some _ (Heap.get?_push_size _ rfl))))
 show _∧_
 rw [z2,z3,z4] at g5
 rw [z1,z2] at g3
 rw [z3] at g4
 rw [z1] at g2
 rw [z4]
 exact ⟨⟨_,g5,rfl⟩,h ⟨g5,g3,⟨_,_,g4⟩,⟨_,g1,rfl,rfl⟩,⟨_,g2,rfl,rfl⟩⟩⟩
end
def iZl (K:Frag) (ta:TA):TI:=fun σ H R=>ta σ H fun vs H1=>∃a b,vs=[.ref a,.ref b]∧(∃xs,SqL K H1 a xs)∧(∃ys,SqT K H1 b ys)∧R (Itzl K a b) H1
theorem zpu {X:Cx} {elts:List Expr} {kt:Nat} {tp:Pos} {x y:Expr} {ta:TA} {p pos:Pos} (hg:Gl X "zip") (hm:X.mg "zip" = none) (ha:PA X [x,y] ta) (hs:starEach [x,y] X.env=[(false,eval x X.env),(false,eval y X.env)]:=by rfl) (hs2:starEach [y] X.env=[(false,eval y X.env)]:=by rfl) :
  PI X (.Tuple elts kt tp) (.Call (.Name "zip" p) [x,y] [] pos) (iZl X.K ta):=by
 intro pins s σ H R I h
 refine Call_ (zcV I hg hm zfc (PyProof.Rows.callWith_type1 (thn (ha pos pins s σ H _ I h) fun us s1 ⟨vs,H1,I1,r1,q1⟩=>?_) (by rw [hs,hs2]) (by rw [hs2];rfl)))
 obtain ⟨a,b,e,⟨xs,hq1⟩,⟨ys,hq2⟩,q⟩:=q1
 subst e
 obtain ⟨u,v,rfl,ru,rv⟩:=zib r1
 obtain rfl:u=Value.ref a:=ru
 obtain rfl:v=Value.ref b:=rv
 obtain ⟨its1,_,p1,_⟩:=I1.list hq1
 obtain ⟨its2,_,p2,_⟩:=I1.tuple hq2
 refine zmC p1.isList p2 fun st=>wpAny_pyIter_zip st.1 ?_
 have kk:∀c o,s1.heap.get? c=some o→(zl5 s1.heap a b).get? c=some o:=fun c o e=>Heap.get?_push_of_some _ (Heap.get?_push_of_some _ (Heap.get?_push_of_some _ (Heap.get?_push_of_some _ (Heap.get?_push_of_some _ e))))
 refine ⟨_,[s1.heap.objs.size+4,s1.heap.objs.size+2,s1.heap.objs.size+3,s1.heap.objs.size,s1.heap.objs.size+1],_,_,H1,rfl,I1.kept (t':=s1.toks) kk,zmB ?_,st,fun c hc=>?_,q⟩
 ·have ne:∀(n i j:Nat),i≠j→n+i≠n+j:=fun n i j h z=>h (Nat.add_left_cancel z)
  have ne0:∀(n i:Nat),i≠0→n+i≠n:=fun n i h z=>h (by omega)
  exact ⟨ne _ 2 4 (by decide),ne _ 3 4 (by decide),(ne0 _ 4 (by decide)).symm,ne _ 1 4 (by decide),ne _ 2 3 (by decide),ne0 _ 2 (by decide),ne _ 2 1 (by decide),ne0 _ 3 (by decide),ne _ 3 1 (by decide),(ne0 _ 1 (by decide)).symm⟩
 ·have le:s1.heap.objs.size≤c:=by
   simp only [List.mem_cons,List.not_mem_nil,or_false] at hc
   rcases hc with q|q|q|q|q<;>rw [q]<;>first|exact Nat.le_refl _|exact Nat.le_add_right _ _
  exact I1.fpOk le (I1.hok.fresh le)
end L2
namespace Mi
open PySem L2 PySem.W PySem.Spec
section
variable {X:Cx} {Er:XK} {pos:Pos} {sts:List Stmt} {gb:PEnv→Mo Fl} {fs:PEnv→Mo (List PV)}
def forZ (g:PV→PEnv→Option PEnv) (body:PEnv→Mo Fl) (n:Nat) (ys:List PV):Nat→Nat→PEnv→Mo Fl
 | 0,_,_,_=>.stuck
 | m+1,i,env,st=>withL st n fun xs=>match xs[i]?,ys[i]? with
  | some x,some y=>match g (.tup [x,y]) env with
   | none=>.stuck
   | some env1=>(body env1 st).bind fun fl st2=>match fl with
    | .nx e=>forZ g body n ys m (i+1) e st2
    | .ct e=>forZ g body n ys m (i+1) e st2
    | .bk e=>.ok (.nx e) st2
    | .rt v=>.ok (.rt v) st2
  | _,_=>.ok (.nx env) st
def zipLT (vs:List PV) (st:Sto) (f:Nat→List PV→Res Fl):Res Fl:=match vs with
 | [.ref n,.tup ys]=>withL st n fun _=>f n ys
 | _=>.stuck
theorem zjl {K:Frag} {mg:Str→Option Value} {ρ:List Addr} {H:Hp} {vs:List PV} {st:Sto} {f:Nat→List PV→Res Fl} {good:List Addr→Hp→Fl→Sto→Prop} (h:Out K mg ρ H (zipLT vs st f) good Er):∃n xs ys,vs=[.ref n,.tup ys]∧st[n]?=some (.lst xs)∧Out K mg ρ H (f n ys) good Er:=by
 unfold zipLT at h
 split at h
 ·obtain ⟨xs,hn,h⟩:=zE h
  exact ⟨_,xs,_,rfl,hn,h⟩
 ·exact False.elim h
def sForZ (fs:PEnv→Mo (List PV)) (g:PV→PEnv→Option PEnv) (body:PEnv→Mo Fl):PEnv→Mo Fl:=fun env st=>(fs env st).bind fun vs st1=>zipLT vs st1 fun n ys=>forZ g body n ys (lim+1) 0 env st1
theorem zmD {elts:List Expr} {kt:Nat} {tp p ip:Pos} {x y:Expr} {gt:PV→PEnv→Option PEnv} (hp:PassesOwn (model X.prog X.w) X.A X.env X.xe) (hc:X.calm=true) (hm:X.mg "zip" = none) (ha:MA X Er [x,y] fs) (hg:MG X Er (.Tuple elts kt tp) gt) (hb:MSs X Er sts gb)
  (hgl:Gl X "zip" := by rfl) (hst:starEach [x,y] X.env=[(false,eval x X.env),(false,eval y X.env)]:=by rfl) (hs2:starEach [y] X.env=[(false,eval y X.env)]:=by rfl) (hs:∀v,foldedSetIterable (.Call (.Name "zip" p) [x,y] [] ip) X.env v=pure v:=by intro _;rfl) :
  MS X Er (.For (.Tuple elts kt tp) (.Call (.Name "zip" p) [x,y] [] ip) sts [] pos) (sForZ fs gt gb) :=
 PS.weak (zh9 hp hc (zpu hgl hm ha hst hs2) hg hb hs) fun D σ H ⟨env,st,ρ,re,rs,h⟩=>⟨env,st,ρ,re,rs,h.then fun ρ0 H0 vs st0 e0 s0 h0 us ru=>by
  obtain ⟨n,xs0,ys,rfl,hn0,h0⟩:=zjl h0
  obtain ⟨v,w,rfl,rv,b,ws,rfl,k3,k4⟩:=Rs.two ru
  obtain ⟨a,rfl,ha⟩:=rv
  obtain ⟨vs0,hH0,hR0⟩:=s0.addr hn0 ha
  refine ⟨a,b,rfl,⟨_,SqL.of hH0⟩,⟨ws,k3⟩,?_⟩
  refine ⟨fun i m σ H=>∃env st ρ,EnvR X.K X.mg ρ H env σ∧StR X.K X.mg ρ H st∧Ext ρ0 H0 ρ H∧ρ[n]?=some a∧Out X.K X.mg ρ H (forZ gt gb n ys m i env st) (gS X.K X.mg D) Er,⟨lim+1,env,st0,ρ0,re.ext e0,s0,Ext.refl,ha,h0⟩,?_⟩
  rintro i m σ H ⟨env,st,ρ,re,rs,ex0,ha,h⟩
  have k3':=ex0.sqT k3
  have k4':=Rs.ext ex0 ys k4
  cases m with
  | zero=>exact False.elim h
  | succ m =>
   obtain ⟨xs,hn,h⟩:=zE h
   obtain ⟨vs,hH,hR⟩:=rs.addr hn ha
   cases hx:xs[i]? with
   | none =>
    simp only [hx] at h
    have:vs.length≤i:=by rw [←hR.len];exact List.getElem?_eq_none_iff.mp hx
    exact .inl ⟨⟨vs,ws,SqL.of hH,k3',.inl this⟩,Out.now (x:=Fl.nx env) h rs σ re⟩
   | some x =>
    cases hy:ys[i]? with
    | none =>
     simp only [hx,hy] at h
     have:ws.length≤i:=by rw [←k4'.len];exact List.getElem?_eq_none_iff.mp hy
     exact .inl ⟨⟨vs,ws,SqL.of hH,k3',.inr this⟩,Out.now (x:=Fl.nx env) h rs σ re⟩
    | some y =>
    simp only [hx,hy] at h
    obtain ⟨v,hv,rv⟩:=hR.get hx
    obtain ⟨w,hw,rw'⟩:=k4'.get hy
    refine .inr ⟨⟨vs,ws,v,w,SqL.of hH,k3',hv,hw⟩,_,fun σ' H' p'=>⟨m,Nat.lt_succ_self m,p'⟩,fun v' H' yl=>?_⟩
    obtain ⟨T,x',y',hT,rfl,rfl,y1,y2⟩:=yl
    have e2:=y1 vs (SqL.of hH)
    rw [hv] at e2
    cases e2
    have e3:=y2 ws k3'
    rw [hw] at e3
    cases e3
    have ex:Ext ρ H ρ (upd H T (.tup [v,w])):=Ext.new hT
    cases hgx:gt (.tup [x,y]) env with
    | none=>simp only [hgx] at h;exact False.elim h
    | some env1 =>
     simp only [hgx] at h
     refine ⟨.tup [x,y],env,env1,ρ,⟨T,[v,w],rfl,.inl (.inl zx),_,_,rfl,R.ext ex x rv,_,_,rfl,R.ext ex y rw',rfl⟩,re.ext ex,hgx,fun σ1 r1=>⟨env1,st,ρ,r1,rs.new hT,Out.then (Out.ext h ex) fun ρ3 H3 fl st3 e3 s3 h3=>?_⟩⟩
     cases fl with
     | nx e=>exact fun σ4 r4=>⟨e,st3,ρ3,r4,s3,ex0.trans (ex.trans e3),e3.get ha,h3⟩
     | ct e=>exact fun σ4 r4=>⟨e,st3,ρ3,r4,s3,ex0.trans (ex.trans e3),e3.get ha,h3⟩
     | bk e=>exact Out.fl (D:=D) (fl:=.nx e) (E:=Er) h3 s3
     | rt v=>exact Out.fl (D:=D) (fl:=.rt v) (E:=Er) h3 s3⟩
@[simp] theorem zmE (gt:PV→PEnv→Option PEnv) (env:PEnv) (st:Sto):sForZ fs gt gb env st=(fs env st).bind fun vs st1=>zipLT vs st1 fun n ys=>forZ gt gb n ys (lim+1) 0 env st1:=(rfl)
@[simp] theorem zmF (n:Nat) (ys:List PV) (st:Sto) (f:Nat→List PV→Res Fl):zipLT [.ref n,.tup ys] st f=withL st n fun _=>f n ys:=(rfl)
end
end Mi
namespace FK31
open PySem L2 PySem.W Mi
def top (i:Nat):Stmt:=PySem.Challenge.pw_foreknown_k31_straight_lines.main.body.getD i (.Pass ⟨0,0,0,0⟩)
abbrev zbT:Stmt:=top 47
abbrev zc4:Stmt:=top 48
abbrev zbI:Stmt:=top 49
abbrev zc5:Stmt:=top 50
abbrev zbJ:Stmt:=top 51
abbrev zc6:Stmt:=top 52
abbrev zcS:Stmt:=top 53
abbrev zax:Stmt:=top 41
abbrev za5:Stmt:=inClass (top 43) 0
abbrev zaN:Stmt:=inClass (top 44) 0
abbrev zaO:Stmt:=inClass (top 43) 1
abbrev za6:Stmt:=inClass (top 43) 4
abbrev zeD:Stmt:=top 10
abbrev zcg:Stmt:=top 36
abbrev zc7:Stmt:=top 8
abbrev zbp:Stmt:=top 14
abbrev zdR:Stmt:=top 16
abbrev zdS:Stmt:=top 17
abbrev zdT:Stmt:=top 18
abbrev zc8:Stmt:=top 15
abbrev zc9:Stmt:=top 21
abbrev zda:Stmt:=top 22
abbrev zcA:Stmt:=top 25
abbrev zbq:Stmt:=top 9
abbrev zcB:Stmt:=top 11
abbrev zgA:Stmt:=top 12
abbrev zdb:Stmt:=inClass (top 38) 1
abbrev zch:Stmt:=inClass (top 38) 0
abbrev zgB:Stmt:=top 39
abbrev za7:Stmt:=inClass (top 43) 2
abbrev zal:Stmt:=inClass (top 43) 3
abbrev zbU:Stmt:=inClass (top 44) 2
abbrev za8:Stmt:=inClass (top 44) 1
abbrev zaF:Stmt:=inClass (top 44) 3
abbrev zci:Stmt:=inClass (top 43) 5
abbrev zbr:Stmt:=top 37
abbrev za9:Stmt:=inClass (top 44) 4
abbrev zmG:Stmt:=top 45
abbrev zbK:Stmt:=top 54
abbrev zhU:Stmt:=top 55
abbrev s_x_Fault:Stmt:=inClass (top 3) 0
abbrev s_x_NoOp:Stmt:=inClass (top 4) 0
def insOf (c:Str):Bool:=decide (c = "Frame")||decide (c = "Op")||decide (c = "Runner")
def excOf (c:Str):Bool:=decide (c = "Fault")||decide (c = "NoOp")
def isT:IsT where
 isx c:=false
 sub c B :=  none
 subT c n :=  none
 tyC _ _:=none
def zay:List Str:=["add", "sub", "mul", "less", "same", "front"]
def zaz:List PV:=[.tup [.tup [.str "number", .str "number"],.fn "tell_add"],.tup [.tup [.str "number", .str "number"],.fn "tell_sub"],.tup [.tup [.str "number", .str "number"],.fn "tell_mul"],.tup [.tup [.str "number", .str "number"],.fn "tell_less"],.tup [.tup [.str "any", .str "any"],.fn "tell_same"],.tup [.tup [.str "any", .str "row"],.fn "tell_front"]]
abbrev full_OPS:Bool:=false
structure Txt (w:World) (K:Frag) (mg:Str→Option Value):Prop where
 f__law_cell_at:FnF K mg "_law_cell_at" zbT ["_law_script", "_law_k"]
 f__law_name:FnF K mg "_law_name" zc4 ["_law_script", "_law_k"]
 f__law_value:FnF K mg "_law_value" zbI ["_law_cell"]
 f__law_atom:FnF K mg "_law_atom" zc5 ["_law_cell", "_law_names"]
 f__law_parts:FnF K mg "_law_parts" zbJ ["_law_value_here"]
 f__law_told:FnF K mg "_law_told" zc6 ["_law_op", "_law_one", "_law_other"]
 f__law_due:FnF K mg "_law_due" zcS ["_law_steps", "_law_last", "_law_things", "_law_budget"]
 f_functions_by_name:FnF K mg "functions_by_name" zax ["program"]
 n_Frame:NwF K mg "Frame" "Frame.__init__" za5 ["self", "function", "values"]
 n_Runner:NwF K mg "Runner" "Runner.__init__" zaN ["self", "program", "inputs"]
 m_Frame_line_here:MtF K mg "Frame" "line_here" "Frame.line_here" zaO ["self"]
 m_Frame_end_step:MtF K mg "Frame" "end_step" "Frame.end_step" za6 ["self", "value"]
 f_kind_of:FnF K mg "kind_of" zeD ["value"]
 f_check_kinds:FnF K mg "check_kinds" zcg ["kinds", "values"]
 f_in_bounds:FnF K mg "in_bounds" zc7 ["number"]
 f_within_bounds:FnF K mg "within_bounds" zbp ["number"]
 f_tell_add:FnF K mg "tell_add" zdR ["values"]
 f_tell_sub:FnF K mg "tell_sub" zdS ["values"]
 f_tell_mul:FnF K mg "tell_mul" zdT ["values"]
 f_number_of:FnF K mg "number_of" zc8 ["truth"]
 f_tell_less:FnF K mg "tell_less" zc9 ["values"]
 f_tell_same:FnF K mg "tell_same" zda ["values"]
 f_tell_front:FnF K mg "tell_front" zcA ["values"]
 f_things_within:FnF K mg "things_within" zbq ["thing"]
 f_all_within:FnF K mg "all_within" zcB ["thing"]
 f_parts:FnF K mg "parts" zgA ["value"]
 m_Op_answer:MtF K mg "Op" "answer" "Op.answer" zdb ["self", "values"]
 n_Op:NwF K mg "Op" "Op.__init__" zch ["self", "word"]
 f_op_of:FnF K mg "op_of" zgB ["word"]
 m_Frame_value_of:MtF K mg "Frame" "value_of" "Frame.value_of" za7 ["self", "atom"]
 m_Frame_values_by:MtF K mg "Frame" "values_by" "Frame.values_by" zal ["self", "atoms"]
 m_Runner_begin:MtF K mg "Runner" "begin" "Runner.begin" zbU ["self", "name", "values"]
 m_Runner_at_rest:MtF K mg "Runner" "at_rest" "Runner.at_rest" za8 ["self"]
 m_Runner_give_back:MtF K mg "Runner" "give_back" "Runner.give_back" zaF ["self", "value"]
 m_Frame_enter:MtF K mg "Frame" "enter" "Frame.enter" zci ["self", "block"]
 f_chooses_first:FnF K mg "chooses_first" zbr ["value"]
 m_Runner_go_line:MtF K mg "Runner" "go_line" "Runner.go_line" za9 ["self"]
 f_run:FnF K mg "run" zmG ["program", "inputs", "budget"]
 f__law_plain:FnF K mg "_law_plain" zbK ["_law_value_here"]
 f_law:FnF K mg "law" zhU ["_law_script"]
 x_Fault:XnF K mg "Fault" "word" "Fault.__init__" s_x_Fault
 x_NoOp:XnF K mg "NoOp" "word" "NoOp.__init__" s_x_NoOp
 b_abs:mg "abs" = none
 b_all:mg "all" = none
 b_bool:mg "bool" = none
 b_dict:mg "dict" = none
 b_enumerate:mg "enumerate" = none
 b_int:mg "int" = none
 b_isinstance:mg "isinstance" = none
 b_len:mg "len" = none
 b_list:mg "list" = none
 b_min:mg "min" = none
 b_range:mg "range" = none
 b_str:mg "str" = none
 b_sum:mg "sum" = none
 b_tuple:mg "tuple" = none
 b_zip:mg "zip" = none
 c_MOST_PARTS:∃t,mg "MOST_PARTS" = some (.int 60 t)
 c_NUMBER_BOUND:∃t,mg "NUMBER_BOUND" = some (.int 1000000000000000000 t)
 d_block:FldF K mg "block" insOf excOf
 d_bound:FldF K mg "bound" insOf excOf
 d_frames:FldF K mg "frames" insOf excOf
 d_functions:FldF K mg "functions" insOf excOf
 d_many:FldF K mg "many" insOf excOf
 d_place:FldF K mg "place" insOf excOf
 d_told:FldF K mg "told" insOf excOf
 d_word:FldF K mg "word" insOf excOf
 is:IsF K mg isT
 kd_OPS:∀X:Cx,X.K=K→X.mg=mg→X.w=w→KdF X "OPS" zay zaz full_OPS
section
variable {P:Program} {w:World} {K:Frag} {mg:Str→Option Value} {base:Heap}
theorem zhV:FnScope ["self", "word"] ["self", "word"] (defScope s_x_Fault):=⟨rfl,rfl,rfl,by decide +kernel,rfl,by decide +kernel,by decide +kernel⟩
theorem zcT (T:Txt w K mg):XOk P w K mg base "Fault" "word" := T.x_Fault.ok zhV fun _ _ _ _ _ _ _ _ _=>zgp (ziw (pv 0) (pv 1) rfl)
theorem zjm:FnScope ["self", "word"] ["self", "word"] (defScope s_x_NoOp):=⟨rfl,rfl,rfl,by decide +kernel,rfl,by decide +kernel,by decide +kernel⟩
theorem zjn (T:Txt w K mg):XOk P w K mg base "NoOp" "word" := T.x_NoOp.ok zjm fun _ _ _ _ _ _ _ _ _=>zgp (ziw (pv 0) (pv 1) rfl)
theorem zeE:FnScope ["_law_script", "_law_k"] ["_law_script", "_law_k"] (defScope zbT):=⟨rfl,rfl,rfl,by decide +kernel,rfl,by decide +kernel,by decide +kernel⟩
def zb5:PEnv→Mo Fl :=
  (sRet (mC (.int 0)))
def zbV:PEnv→Mo Fl :=
  sSeq (sIf (mB (mOp oLt (mVar 1) (mCall oLen (aCons (mVar 0) aNil))))
  (sRet (mOp oIxD (mVar 0) (mVar 1)))
  sNext) (zb5)
def m__law_cell_at:List PV→Mo PV:=mirror 2 2 (zbV)
theorem zK (T:Txt w K mg):FOk P w K mg base "_law_cell_at" 1 m__law_cell_at:=T.f__law_cell_at.ok (k:=0) zeE fun f cdv A outer s H E hr =>
  by
 refine ze ?_ ?_
 refine zW ?_ ?_ ?_
 refine zP zjM ?_ ?_
 exact (zc 1)
 refine zat zdm T.b_len zbG ?_
 refine zb ?_ ?_ ?_
 exact (zc 0)
 exact zf
 exact zd
 refine zh ?_
 refine zw ?_
 refine zak ?_ ?_ ?_ ?_
 exact (zo (zp hr))
 exact (zc 0)
 exact (zc 1)
 exact fun _ _=>rfl
 exact zB
 refine zh ?_
 refine zw ?_
 exact zg
theorem zbL:FnScope ["_law_script", "_law_k", "_law_pre", "_law_at", "_law_sign"] ["_law_script", "_law_k"] (defScope zc4):=⟨rfl,rfl,rfl,by decide +kernel,rfl,by decide +kernel,by decide +kernel⟩
def zbW:PEnv→Mo Fl :=
  (sRet (mOp oAdd (mOp oAdd (mSl (mVar 2) pNone (pSome (mVar 3))) (mVar 4)) (mSl (mVar 2) (pSome (mVar 3)) pNone)))
def zcX:PEnv→Mo Fl :=
  sSeq (sSet 4 (mOp oAdd (mOp oIxD (mC (.str "abcdefghijklmnopqrstuvwxyz")) (mOp oMod (mVar 1) (mC (.int 26)))) (mOp oIxD (mC (.str "hjkl")) (mOp oDiv (mVar 1) (mC (.int 26)))))) (zbW)
def zcY:PEnv→Mo Fl :=
  sSeq (sSet 3 (mOp oMod (mCall m__law_cell_at (aCons (mVar 0) (aCons (mC (.int 1)) aNil))) (mOp oAdd (mCall oLen (aCons (mVar 2) aNil)) (mC (.int 1))))) (zcX)
def zdc:PEnv→Mo Fl :=
  sSeq (sSet 2 (mOp oIxD (mLst (aStrs ["", "a", "b7", "x0zq", "zzzzzz"])) (mOp oMod (mCall m__law_cell_at (aCons (mVar 0) (aCons (mC (.int 0)) aNil))) (mC (.int 5))))) (zcY)
def m__law_name:List PV→Mo PV:=mirror 2 5 (zdc)
theorem zcC (T:Txt w K mg):FOk P w K mg base "_law_name" 2 m__law_name:=T.f__law_name.ok (k:=1) zbL fun f cdv A outer s H E hr =>
  by
 refine ze ?_ ?_
 refine zL 2 ?_ ?_ ?_ ?_ ?_ ?_
 refine zak ?_ ?_ ?_ ?_
 exact (zo (zp hr))
 refine zey ?_
 refine zjf ?_
 decide +kernel
 refine zF zce ?_ ?_
 refine zH (zK T) (hr.mono (by decide)) zj ?_
 refine zb ?_ ?_ ?_
 exact (zc 0)
 refine zb ?_ ?_ ?_
 exact zg
 exact zf
 exact zl
 exact zd
 exact zg
 exact fun _ _=>rfl
 exact zbL.nd
 rfl
 first|exact Or.inl rfl|exact Or.inr rfl
 rfl
 first|exact .inl rfl|exact .inr rfl|assumption
 refine ze ?_ ?_
 refine zL 3 ?_ ?_ ?_ ?_ ?_ ?_
 refine zF zce ?_ ?_
 refine zH (zK T) (hr.mono (by decide)) zj ?_
 refine zb ?_ ?_ ?_
 exact (zc 0)
 refine zb ?_ ?_ ?_
 exact zg
 exact zf
 exact zl
 exact zd
 refine zF zcw ?_ ?_
 refine zat zdm T.b_len zbG ?_
 refine zb ?_ ?_ ?_
 exact (zc 2)
 exact zf
 exact zd
 exact zg
 exact zbL.nd
 rfl
 first|exact Or.inl rfl|exact Or.inr rfl
 rfl
 first|exact .inl rfl|exact .inr rfl|assumption
 refine ze ?_ ?_
 refine zL 4 ?_ ?_ ?_ ?_ ?_ ?_
 refine zF zcw ?_ ?_
 refine zak ?_ ?_ ?_ ?_
 exact (zo (zp hr))
 exact zD
 refine zF zce ?_ ?_
 exact (zc 1)
 exact zg
 exact fun _ _=>rfl
 refine zak ?_ ?_ ?_ ?_
 exact (zo (zp hr))
 exact zD
 refine zF zdK ?_ ?_
 exact (zc 1)
 exact zg
 exact fun _ _=>rfl
 exact zbL.nd
 rfl
 first|exact Or.inl rfl|exact Or.inr rfl
 rfl
 first|exact .inl rfl|exact .inr rfl|assumption
 refine zh ?_
 refine zw ?_
 refine zF zcw ?_ ?_
 refine zF zcw ?_ ?_
 refine zfe ?_ ?_ ?_
 exact (zc 2)
 exact zgv
 refine zeA ?_
 exact (zc 3)
 exact (zc 4)
 refine zfe ?_ ?_ ?_
 exact (zc 2)
 refine zeA ?_
 exact (zc 3)
 exact zgv
theorem zfl:FnScope ["_law_cell"] ["_law_cell"] (defScope zbI):=⟨rfl,rfl,rfl,by decide +kernel,rfl,by decide +kernel,by decide +kernel⟩
def zcD:PEnv→Mo Fl :=
  (sRet (mOp oSub (mOp oMod (mOp oDiv (mVar 0) (mC (.int 7))) (mC (.int 12))) (mC (.int 3))))
def zbs:PEnv→Mo Fl :=
  sSeq (sIf (mB (mOp oEq (mOp oMod (mVar 0) (mC (.int 7))) (mC (.int 6))))
  (sRet (mCall oTuple (aCons (mComp (iRng1 (aCons (mOp oMod (mOp oDiv (mVar 0) (mC (.int 7))) (mC (.int 25))) aNil)) (mOp oSub (mOp oMulT (mVar 0) (mVar 0)) (mC (.int 3)))) aNil)))
  sNext) (zcD)
def zbM:PEnv→Mo Fl :=
  sSeq (sIf (mB (mOp oEq (mOp oMod (mVar 0) (mC (.int 7))) (mC (.int 5))))
  (sRet (mOp oSub (mOp oMod (mOp oDiv (mVar 0) (mC (.int 7))) (mOp oSub (mOp oMulT (mC (.int 2)) (mOp oPow (mC (.int 10)) (mC (.int 18)))) (mC (.int 1)))) (mOp oSub (mOp oPow (mC (.int 10)) (mC (.int 18))) (mC (.int 1)))))
  sNext) (zbs)
def m__law_value:List PV→Mo PV:=mirror 1 1 (zbM)
theorem zdu (T:Txt w K mg):FOk P w K mg base "_law_value" 1 m__law_value:=T.f__law_value.ok (k:=0) zfl fun f cdv A outer s H E hr =>
  by
 refine ze ?_ ?_
 refine zW ?_ ?_ ?_
 refine zP (zdH (zp hr)) ?_ ?_
 refine zF zce ?_ ?_
 exact (zc 0)
 exact zg
 exact zg
 refine zh ?_
 refine zw ?_
 refine zF zfO ?_ ?_
 refine zF zce ?_ ?_
 refine zF zdK ?_ ?_
 exact (zc 0)
 exact zg
 refine zF zfO ?_ ?_
 refine zF zg8 ?_ ?_
 exact zg
 refine zF zl6 ?_ ?_
 exact zg
 exact zg
 exact zg
 refine zF zfO ?_ ?_
 refine zF zl6 ?_ ?_
 exact zg
 exact zg
 exact zg
 exact zB
 refine ze ?_ ?_
 refine zW ?_ ?_ ?_
 refine zP (zdH (zp hr)) ?_ ?_
 refine zF zce ?_ ?_
 exact (zc 0)
 exact zg
 exact zg
 refine zh ?_
 refine zw ?_
 refine zd5 zeB T.b_tuple zaE ?_
 refine zb ?_ ?_ ?_
 refine zfQ (N:=["_law_cell"]) rfl (by exact ⟨rfl,by decide +kernel,by decide +kernel,rfl,by show ∀y:Str×NameKind,y∈_→y.2=NameKind.free→List.lookup y.1 (defScope zbI).names=some NameKind.cell;decide +kernel⟩) rfl (by decide +kernel) ?_ ?_
 refine zeC T.b_range ?_
 refine zb ?_ ?_ ?_
 refine zF zce ?_ ?_
 refine zF zdK ?_ ?_
 exact (zc 0)
 exact zg
 exact zg
 exact zf
 exact zaw
 intro _ _ _ _ _
 refine zF zfO ?_ ?_
 refine zF zg8 ?_ ?_
 exact (zc 0)
 exact (zc 0)
 exact zg
 exact zf
 exact zbo
 exact zB
 refine zh ?_
 refine zw ?_
 refine zF zfO ?_ ?_
 refine zF zce ?_ ?_
 refine zF zdK ?_ ?_
 exact (zc 0)
 exact zg
 exact zg
 exact zg
theorem zfX:FnScope ["_law_cell", "_law_names"] ["_law_cell", "_law_names"] (defScope zc5):=⟨rfl,rfl,rfl,by decide +kernel,rfl,by decide +kernel,by decide +kernel⟩
def zcZ:PEnv→Mo Fl :=
  (sRet (mTup (aCons (mC (.str "of")) (aCons (mOp oIxD (mVar 1) (mOp oMod (mOp oDiv (mVar 0) (mC (.int 4))) (mCall oLen (aCons (mVar 1) aNil)))) aNil))))
def zbX:PEnv→Mo Fl :=
  sSeq (sIf (mB (mOp oLt (mOp oMod (mVar 0) (mC (.int 4))) (mC (.int 3))))
  (sRet (mTup (aCons (mC (.str "of")) (aCons (mOp oIxD (mVar 1) (mOp oSub (mUn oNeg (mC (.int 1))) (mOp oMod (mOp oDiv (mVar 0) (mC (.int 4))) (mCall oMin (aCons (mC (.int 3)) (aCons (mCall oLen (aCons (mVar 1) aNil)) aNil)))))) aNil))))
  sNext) (zcZ)
def zaf:PEnv→Mo Fl :=
  sSeq (sIf (bOr (mB (mOp oEq (mOp oMod (mVar 0) (mC (.int 4))) (mC (.int 0)))) (mB (mOp oEq (mCall oLen (aCons (mVar 1) aNil)) (mC (.int 0)))))
  (sRet (mTup (aCons (mC (.str "is")) (aCons (mCall m__law_value (aCons (mOp oDiv (mVar 0) (mC (.int 4))) aNil)) aNil))))
  sNext) (zbX)
def zbt:PEnv→Mo Fl :=
  sSeq (sIf (bAnd (mB (mOp oEq (mOp oMod (mVar 0) (mC (.int 16))) (mC (.int 4)))) (bAnd (mB (mOp oGt (mCall oLen (aCons (mVar 1) aNil)) (mC (.int 0)))) (mB (mUn oAlpha (mOp oIxD (mVar 1) (mC (.int 0)))))))
  (sRet (mTup (aCons (mC (.str "is")) (aCons (mOp oIxD (mVar 1) (mOp oMod (mOp oDiv (mVar 0) (mC (.int 16))) (mCall oLen (aCons (mVar 1) aNil)))) aNil))))
  sNext) (zaf)
def m__law_atom:List PV→Mo PV:=mirror 2 2 (zbt)
theorem zcE (T:Txt w K mg):FOk P w K mg base "_law_atom" 2 m__law_atom:=T.f__law_atom.ok (k:=1) zfX fun f cdv A outer s H E hr =>
  by
 refine ze ?_ ?_
 refine zW ?_ ?_ ?_
 refine znJ ?_
 refine ziE ?_ ?_
 refine zP (zdH (zp hr)) ?_ ?_
 refine zF zce ?_ ?_
 exact (zc 0)
 exact zg
 exact zg
 refine ziE ?_ ?_
 refine zP zpC ?_ ?_
 refine zat zdm T.b_len zbG ?_
 refine zb ?_ ?_ ?_
 exact (zc 1)
 exact zf
 exact zd
 exact zg
 refine ziC ?_
 refine zaC ?_
 refine zjd ?_
 refine zak ?_ ?_ ?_ ?_
 exact (zo (zp hr))
 exact (zc 1)
 exact zg
 exact fun _ _=>rfl
 refine zh ?_
 refine zw ?_
 refine zV ?_
 refine zb ?_ ?_ ?_
 exact zD
 refine zb ?_ ?_ ?_
 refine zak ?_ ?_ ?_ ?_
 exact (zo (zp hr))
 exact (zc 1)
 refine zF zce ?_ ?_
 refine zF zdK ?_ ?_
 exact (zc 0)
 exact zg
 refine zat zdm T.b_len zbG ?_
 refine zb ?_ ?_ ?_
 exact (zc 1)
 exact zf
 exact zd
 exact fun _ _=>rfl
 exact zf
 exact zm
 exact zl
 exact zB
 refine ze ?_ ?_
 refine zW ?_ ?_ ?_
 refine znJ ?_
 refine zlV ?_ ?_
 refine zP (zdH (zp hr)) ?_ ?_
 refine zF zce ?_ ?_
 exact (zc 0)
 exact zg
 exact zg
 refine ziD ?_
 refine zP (zdH (zp hr)) ?_ ?_
 refine zat zdm T.b_len zbG ?_
 refine zb ?_ ?_ ?_
 exact (zc 1)
 exact zf
 exact zd
 exact zg
 refine zh ?_
 refine zw ?_
 refine zV ?_
 refine zb ?_ ?_ ?_
 exact zD
 refine zb ?_ ?_ ?_
 refine zH (zdu T) (hr.mono (by decide)) zj ?_
 refine zb ?_ ?_ ?_
 refine zF zdK ?_ ?_
 exact (zc 0)
 exact zg
 exact zf
 exact zaw
 exact zf
 exact zab
 exact zl
 exact zB
 refine ze ?_ ?_
 refine zW ?_ ?_ ?_
 refine zP zjM ?_ ?_
 refine zF zce ?_ ?_
 exact (zc 0)
 exact zg
 exact zg
 refine zh ?_
 refine zw ?_
 refine zV ?_
 refine zb ?_ ?_ ?_
 exact zD
 refine zb ?_ ?_ ?_
 refine zak ?_ ?_ ?_ ?_
 exact (zo (zp hr))
 exact (zc 1)
 refine zF zfO ?_ ?_
 refine znM ziG ?_
 exact zg
 refine zF zce ?_ ?_
 refine zF zdK ?_ ?_
 exact (zc 0)
 exact zg
 refine zat (zpq rfl) T.b_min zoa ?_
 refine zb ?_ ?_ ?_
 exact zg
 refine zb ?_ ?_ ?_
 refine zat zdm T.b_len zbG ?_
 refine zb ?_ ?_ ?_
 exact (zc 1)
 exact zf
 exact zd
 exact zf
 exact zab
 exact zl
 exact fun _ _=>rfl
 exact zf
 exact zm
 exact zl
 exact zB
 refine zh ?_
 refine zw ?_
 refine zV ?_
 refine zb ?_ ?_ ?_
 exact zD
 refine zb ?_ ?_ ?_
 refine zak ?_ ?_ ?_ ?_
 exact (zo (zp hr))
 exact (zc 1)
 refine zF zce ?_ ?_
 refine zF zdK ?_ ?_
 exact (zc 0)
 exact zg
 refine zat zdm T.b_len zbG ?_
 refine zb ?_ ?_ ?_
 exact (zc 1)
 exact zf
 exact zd
 exact fun _ _=>rfl
 exact zf
 exact zm
 exact zl
theorem zdv:FnScope ["_law_value_here"] ["_law_value_here"] (defScope zbJ):=⟨rfl,rfl,rfl,by decide +kernel,rfl,by decide +kernel,by decide +kernel⟩
def zbu (mr:List PV→Mo PV):PEnv→Mo Fl :=
  (sRet (mC (.int 1)))
def zbN (mr:List PV→Mo PV):PEnv→Mo Fl :=
  sSeq (sIf (mB (mCall (oIsi isT) (aCons (mVar 0) (aCons (mC (.ty "tuple")) aNil))))
  (sRet (mOp oAdd (mC (.int 1)) (mCall oSum (aCons (mComp (iVal (mVar 0)) (mCall mr (aCons (mVar 0) aNil))) aNil))))
  sNext) (zbu mr)
def za3 (mr:List PV→Mo PV):List PV→Mo PV:=mirror 1 1 (zbN mr)
theorem zfm (T:Txt w K mg) {k:Nat} (hk:1≤k) {mr:List PV→Mo PV} (hmr:FOk P w K mg base "_law_parts" k mr):FOk P w K mg base "_law_parts" (k+1) (za3 mr):=T.f__law_parts.ok (k:=k+0) zdv fun f cdv A outer s H E hr =>
  by
 refine ze ?_ ?_
 refine zW ?_ ?_ ?_
 refine zaC ?_
 refine zat (zdo T.is) T.b_isinstance zA ?_
 refine zb ?_ ?_ ?_
 exact (zc 0)
 refine zb ?_ ?_ ?_
 exact (zgZ T.b_tuple zaE)
 exact zf
 exact zd
 exact zd
 refine zh ?_
 refine zw ?_
 refine zF zcw ?_ ?_
 exact zg
 refine zat (zpn rfl) T.b_sum zn7 ?_
 refine zb ?_ ?_ ?_
 refine zfQ (N:=["_law_value_here"]) rfl (by exact ⟨rfl,by decide +kernel,by decide +kernel,rfl,by show ∀y:Str×NameKind,y∈_→y.2=NameKind.free→List.lookup y.1 (defScope zbJ).names=some NameKind.cell;decide +kernel⟩) rfl (by decide +kernel) ?_ ?_
 refine zeW ?_
 exact (zc 0)
 intro _ _ _ _ _
 refine zH hmr (hr.mono (by omega)) zb4 ?_
 refine zb ?_ ?_ ?_
 exact (zc 0)
 exact zf
 exact zd
 exact zf
 exact zbo
 exact zB
 refine zh ?_
 refine zw ?_
 exact zg
def zC:Nat→List PV→Mo PV
 | 0=>mirror 1 1 sStuck
 | n+1=>za3 (zC n)
theorem zaP (T:Txt w K mg):∀n,FOk P w K mg base "_law_parts" (1+1+1*n) (zC n)
 | 0=>T.f__law_parts.ok (k:=1) zdv fun f cdv A outer s H E hr=>zfV
 | n+1=>(zfm T (by omega) (zaP T n)).mono (by omega)
theorem zbO:FnScope ["_law_op", "_law_one", "_law_other", "_law_found"] ["_law_op", "_law_one", "_law_other"] (defScope zc6):=⟨rfl,rfl,rfl,by decide +kernel,rfl,by decide +kernel,by decide +kernel⟩
def zaW:PEnv→Mo Fl :=
  (sRet (mTup (aCons (mOp oLt (mCall oAbs (aCons (mVar 3) aNil)) (mOp oPow (mC (.int 10)) (mC (.int 18)))) (aCons (mVar 3) aNil))))
def zaX:PEnv→Mo Fl :=
  sSeq (sIf (mB (mOp oEq (mVar 0) (mC (.str "sub"))))
  (sSet 3 (mOp oSub (mVar 1) (mVar 2)))
  sNext) (zaW)
def zaY:PEnv→Mo Fl :=
  sSeq (sIf (mB (mOp oEq (mVar 0) (mC (.str "add"))))
  (sSet 3 (mOp oAdd (mVar 1) (mVar 2)))
  sNext) (zaX)
def zaZ:PEnv→Mo Fl :=
  sSeq (sSet 3 (mOp oMulT (mVar 1) (mVar 2))) (zaY)
def zag:PEnv→Mo Fl :=
  sSeq (sIf (mB (mOp oEq (mVar 0) (mC (.str "less"))))
  (sRet (mTup (aCons (mC (.bl true)) (aCons (mCall oInt (aCons (mOp oLt (mVar 1) (mVar 2)) aNil)) aNil))))
  sNext) (zaZ)
def zS:PEnv→Mo Fl :=
  sSeq (sIf (bOr (bNot (mB (mCall (oIsi isT) (aCons (mVar 1) (aCons (mC (.ty "int")) aNil))))) (bNot (mB (mCall (oIsi isT) (aCons (mVar 2) (aCons (mC (.ty "int")) aNil))))))
  (sRet (mTup (aCons (mC (.bl false)) (aCons (mC (.str "kind")) aNil))))
  sNext) (zag)
def zI:PEnv→Mo Fl :=
  sSeq (sIf (mB (mOp oEq (mVar 0) (mC (.str "front"))))
  (sSeq (sIf (bNot (mB (mCall (oIsi isT) (aCons (mVar 2) (aCons (mC (.ty "tuple")) aNil)))))
  (sRet (mTup (aCons (mC (.bl false)) (aCons (mC (.str "kind")) aNil))))
  sNext)
  (sRet (mTup (aCons (mOp oLe (mOp oAdd (mCall (zC 64) (aCons (mVar 1) aNil)) (mCall (zC 64) (aCons (mVar 2) aNil))) (mC (.int 60))) (aCons (mOp oAdd (mTup (aCons (mVar 1) aNil)) (mVar 2)) aNil)))))
  sNext) (zS)
def zM:PEnv→Mo Fl :=
  sSeq (sIf (mB (mOp oEq (mVar 0) (mC (.str "same"))))
  (sRet (mTup (aCons (mC (.bl true)) (aCons (mCall oInt (aCons (mOp oEq (mVar 1) (mVar 2)) aNil)) aNil))))
  sNext) (zI)
def m__law_told:List PV→Mo PV:=mirror 3 4 (zM)
theorem zfY (T:Txt w K mg):FOk P w K mg base "_law_told" 67 m__law_told:=T.f__law_told.ok (k:=66) zbO fun f cdv A outer s H E hr =>
  by
 refine ze ?_ ?_
 refine zW ?_ ?_ ?_
 refine zP (zdH (zp hr)) ?_ ?_
 exact (zc 0)
 exact zD
 refine zh ?_
 refine zw ?_
 refine zV ?_
 refine zb ?_ ?_ ?_
 exact ziB
 refine zb ?_ ?_ ?_
 refine zd5 znP T.b_int zfP ?_
 refine zb ?_ ?_ ?_
 refine zez (zdH (zp hr)) ?_ ?_
 exact (zc 1)
 exact (zc 2)
 exact zf
 exact zbk
 exact zf
 exact zab
 exact zl
 exact zB
 refine ze ?_ ?_
 refine zW ?_ ?_ ?_
 refine zP (zdH (zp hr)) ?_ ?_
 exact (zc 0)
 exact zD
 refine ze ?_ ?_
 refine zW ?_ ?_ ?_
 refine zex ?_
 refine zaC ?_
 refine zat (zdo T.is) T.b_isinstance zA ?_
 refine zb ?_ ?_ ?_
 exact (zc 2)
 refine zb ?_ ?_ ?_
 exact (zgZ T.b_tuple zaE)
 exact zf
 exact zd
 exact zd
 refine zh ?_
 refine zw ?_
 refine zV ?_
 refine zb ?_ ?_ ?_
 exact ziB
 refine zb ?_ ?_ ?_
 exact zD
 exact zf
 exact zl
 exact zl
 exact zB
 refine zh ?_
 refine zw ?_
 refine zV ?_
 refine zb ?_ ?_ ?_
 refine zez zqe ?_ ?_
 refine zF zcw ?_ ?_
 refine zH (zaP T 64) (hr.mono (by decide)) zj ?_
 refine zb ?_ ?_ ?_
 exact (zc 1)
 exact zf
 exact zd
 refine zH (zaP T 64) (hr.mono (by decide)) zj ?_
 refine zb ?_ ?_ ?_
 exact (zc 2)
 exact zf
 exact zd
 exact zg
 refine zb ?_ ?_ ?_
 refine zF zcw ?_ ?_
 refine zV ?_
 refine zb ?_ ?_ ?_
 exact (zc 1)
 exact zf
 exact zd
 exact (zc 2)
 exact zf
 exact zaw
 exact zbk
 exact zB
 refine ze ?_ ?_
 refine zW ?_ ?_ ?_
 refine znJ ?_
 refine zlV ?_ ?_
 refine zex ?_
 refine zaC ?_
 refine zat (zdo T.is) T.b_isinstance zA ?_
 refine zb ?_ ?_ ?_
 exact (zc 1)
 refine zb ?_ ?_ ?_
 exact (zgZ T.b_int zfP)
 exact zf
 exact zd
 exact zd
 refine ziD ?_
 refine zex ?_
 refine zaC ?_
 refine zat (zdo T.is) T.b_isinstance zA ?_
 refine zb ?_ ?_ ?_
 exact (zc 2)
 refine zb ?_ ?_ ?_
 exact (zgZ T.b_int zfP)
 exact zf
 exact zd
 exact zd
 refine zh ?_
 refine zw ?_
 refine zV ?_
 refine zb ?_ ?_ ?_
 exact ziB
 refine zb ?_ ?_ ?_
 exact zD
 exact zf
 exact zl
 exact zl
 exact zB
 refine ze ?_ ?_
 refine zW ?_ ?_ ?_
 refine zP (zdH (zp hr)) ?_ ?_
 exact (zc 0)
 exact zD
 refine zh ?_
 refine zw ?_
 refine zV ?_
 refine zb ?_ ?_ ?_
 exact ziB
 refine zb ?_ ?_ ?_
 refine zd5 znP T.b_int zfP ?_
 refine zb ?_ ?_ ?_
 refine zez zjM ?_ ?_
 exact (zc 1)
 exact (zc 2)
 exact zf
 exact zbk
 exact zf
 exact zab
 exact zl
 exact zB
 refine ze ?_ ?_
 refine zL 3 ?_ ?_ ?_ ?_ ?_ ?_
 refine zF zg8 ?_ ?_
 exact (zc 1)
 exact (zc 2)
 exact zbO.nd
 rfl
 first|exact Or.inl rfl|exact Or.inr rfl
 rfl
 first|exact .inl rfl|exact .inr rfl|assumption
 refine ze ?_ ?_
 refine zW ?_ ?_ ?_
 refine zP (zdH (zp hr)) ?_ ?_
 exact (zc 0)
 exact zD
 refine zh ?_
 refine zL 3 ?_ ?_ ?_ ?_ ?_ ?_
 refine zF zcw ?_ ?_
 exact (zc 1)
 exact (zc 2)
 exact zbO.nd
 rfl
 first|exact Or.inl rfl|exact Or.inr rfl
 rfl
 first|exact .inl rfl|exact .inr rfl|assumption
 exact zB
 refine ze ?_ ?_
 refine zW ?_ ?_ ?_
 refine zP (zdH (zp hr)) ?_ ?_
 exact (zc 0)
 exact zD
 refine zh ?_
 refine zL 3 ?_ ?_ ?_ ?_ ?_ ?_
 refine zF zfO ?_ ?_
 exact (zc 1)
 exact (zc 2)
 exact zbO.nd
 rfl
 first|exact Or.inl rfl|exact Or.inr rfl
 rfl
 first|exact .inl rfl|exact .inr rfl|assumption
 exact zB
 refine zh ?_
 refine zw ?_
 refine zV ?_
 refine zb ?_ ?_ ?_
 refine zez zjM ?_ ?_
 refine zat zpt T.b_abs zof ?_
 refine zb ?_ ?_ ?_
 exact (zc 3)
 exact zf
 exact zd
 refine zF zl6 ?_ ?_
 exact zg
 exact zg
 refine zb ?_ ?_ ?_
 exact (zc 3)
 exact zf
 exact zd
 exact zbk
theorem zac:FnScope ["_law_steps", "_law_last", "_law_things", "_law_budget", "_law_gone", "_law_step", "_law_one", "_law_other", "_law_good", "_law_found", "_law_word"] ["_law_steps", "_law_last", "_law_things", "_law_budget"] (defScope zcS):=⟨rfl,rfl,rfl,by decide +kernel,rfl,by decide +kernel,by decide +kernel⟩
def zcj:PEnv→Mo Fl :=
  (sRet (mTup (aCons (mC (.str "told")) (aCons (mOp oIxD (mVar 1) (mC (.int 1))) (aCons (mOp oAdd (mVar 4) (mC (.int 1))) aNil)))))
def zck:PEnv→Mo Fl :=
  sSeq (sIf (mB (mOp oEq (mOp oIxD (mVar 1) (mC (.int 0))) (mC (.str "of"))))
  (sRet (mTup (aCons (mC (.str "told")) (aCons (mOp oIxD (mVar 2) (mOp oIxD (mVar 1) (mC (.int 1)))) (aCons (mOp oAdd (mVar 4) (mC (.int 1))) aNil)))))
  sNext) (zcj)
def zam:PEnv→Mo Fl :=
  sSeq (sIf (mB (mOp oEq (mVar 4) (mVar 3)))
  (sRet (mTup (aCons (mC (.str "out")) (aCons (mC .non) (aCons (mVar 3) aNil)))))
  sNext) (zck)
def zdw:PEnv→Mo Fl :=
  sSeq (sFor (iVal (mVar 0)) (gN 5)
  (sSeq (sIf (mB (mOp oEq (mVar 4) (mVar 3)))
  (sRet (mTup (aCons (mC (.str "out")) (aCons (mC .non) (aCons (mVar 3) aNil)))))
  sNext)
  (sSeq (sSet 4 (mOp oAdd (mVar 4) (mC (.int 1))))
  (sSeq (sToL 6 7 (mComp (iVal (mOp oIxD (mVar 5) (mC (.int 3)))) (mIf (mB (mOp oEq (mOp oIxD (mVar 0) (mC (.int 0))) (mC (.str "of")))) (mOp oIxD (mVar 3) (mOp oIxD (mVar 0) (mC (.int 1)))) (mOp oIxD (mVar 0) (mC (.int 1))))))
  (sSeq (sTo (g2 8 9) (mCall m__law_told (aCons (mOp oIxD (mVar 5) (mC (.int 2))) (aCons (mVar 6) (aCons (mVar 7) aNil)))))
  (sSeq (sIf (bNot (mB (mVar 8)))
  (sSeq (sSet 10 (mC (.str "wide")))
  (sSeq (sIf (mB (mOp oEq (mOp oIxD (mVar 5) (mC (.int 2))) (mC (.str "front"))))
  (sSet 10 (mC (.str "large")))
  sNext)
  (sSeq (sIf (mB (mOp oEq (mVar 9) (mC (.str "kind"))))
  (sSet 10 (mC (.str "kind")))
  sNext)
  (sRet (mTup (aCons (mC (.str "fault")) (aCons (mVar 10) (aCons (mVar 4) aNil))))))))
  sNext)
  (sDPutM (mVar 2) (mOp oIxD (mVar 5) (mC (.int 1))) (mVar 9)))))))) (zam)
def zdU:PEnv→Mo Fl :=
  sSeq (sSet 4 (mC (.int 0))) (zdw)
def m__law_due:List PV→Mo PV:=mirror 4 11 (zdU)
theorem zgC (T:Txt w K mg):FOk P w K mg base "_law_due" 68 m__law_due:=T.f__law_due.ok (k:=67) zac fun f cdv A outer s H E hr =>
  by
 refine ze ?_ ?_
 refine zL 4 ?_ ?_ ?_ ?_ ?_ ?_
 exact zg
 exact zac.nd
 rfl
 first|exact Or.inl rfl|exact Or.inr rfl
 rfl
 first|exact .inl rfl|exact .inr rfl|assumption
 refine ze ?_ ?_
 refine ziR (zbm rfl rfl) rfl ?_ ?_ ?_
 refine zeW ?_
 exact (zc 0)
 exact (ziQ 5 zac.nd)
 refine ze ?_ ?_
 refine zW ?_ ?_ ?_
 refine zP (zdH (zp hr)) ?_ ?_
 exact (zc 4)
 exact (zc 3)
 refine zh ?_
 refine zw ?_
 refine zV ?_
 refine zb ?_ ?_ ?_
 exact zD
 refine zb ?_ ?_ ?_
 exact zfL
 refine zb ?_ ?_ ?_
 exact (zc 3)
 exact zf
 exact zd
 exact zl
 exact zl
 exact zB
 refine ze ?_ ?_
 refine zL 4 ?_ ?_ ?_ ?_ ?_ ?_
 refine zF zcw ?_ ?_
 exact (zc 4)
 exact zg
 exact zac.nd
 rfl
 first|exact Or.inl rfl|exact Or.inr rfl
 rfl
 first|exact .inl rfl|exact .inr rfl|assumption
 refine ze ?_ ?_
 refine zog 6 7 rfl zac.nd ?_
 refine zfQ (N:=["_law_steps", "_law_last", "_law_things", "_law_budget", "_law_gone", "_law_step", "_law_one", "_law_other", "_law_good", "_law_found", "_law_word"]) rfl (by exact ⟨rfl,by decide +kernel,by decide +kernel,rfl,by show ∀y:Str×NameKind,y∈_→y.2=NameKind.free→List.lookup y.1 (defScope zcS).names=some NameKind.cell;decide +kernel⟩) rfl (by decide +kernel) ?_ ?_
 refine zeW ?_
 refine zak ?_ ?_ ?_ ?_
 exact (zo (zp hr))
 exact (zc 5)
 exact zg
 exact fun _ _=>rfl
 intro _ _ _ _ _
 refine zlW ?_ ?_ ?_
 refine zP (zdH (zp hr)) ?_ ?_
 refine zak ?_ ?_ ?_ ?_
 exact (zo (zp hr))
 exact (zc 0)
 exact zg
 exact fun _ _=>rfl
 exact zD
 refine zak ?_ ?_ ?_ ?_
 exact (zo (zp hr))
 exact (zc 3)
 refine zak ?_ ?_ ?_ ?_
 exact (zo (zp hr))
 exact (zc 0)
 exact zg
 exact fun _ _=>rfl
 exact fun _ _=>rfl
 refine zak ?_ ?_ ?_ ?_
 exact (zo (zp hr))
 exact (zc 0)
 exact zg
 exact fun _ _=>rfl
 refine ze ?_ ?_
 refine zo1 ?_ ?_
 exact (zox 8 9 rfl zac.nd)
 refine zH (zfY T) (hr.mono (by decide)) zj ?_
 refine zb ?_ ?_ ?_
 refine zak ?_ ?_ ?_ ?_
 exact (zo (zp hr))
 exact (zc 5)
 exact zg
 exact fun _ _=>rfl
 refine zb ?_ ?_ ?_
 exact (zc 6)
 refine zb ?_ ?_ ?_
 exact (zc 7)
 exact zf
 exact zd
 exact zd
 exact zm
 refine ze ?_ ?_
 refine zW ?_ ?_ ?_
 refine zex ?_
 refine zaC ?_
 exact (zc 8)
 refine ze ?_ ?_
 refine zL 10 ?_ ?_ ?_ ?_ ?_ ?_
 exact zD
 exact zac.nd
 rfl
 first|exact Or.inl rfl|exact Or.inr rfl
 rfl
 first|exact .inl rfl|exact .inr rfl|assumption
 refine ze ?_ ?_
 refine zW ?_ ?_ ?_
 refine zP (zdH (zp hr)) ?_ ?_
 refine zak ?_ ?_ ?_ ?_
 exact (zo (zp hr))
 exact (zc 5)
 exact zg
 exact fun _ _=>rfl
 exact zD
 refine zh ?_
 refine zL 10 ?_ ?_ ?_ ?_ ?_ ?_
 exact zD
 exact zac.nd
 rfl
 first|exact Or.inl rfl|exact Or.inr rfl
 rfl
 first|exact .inl rfl|exact .inr rfl|assumption
 exact zB
 refine ze ?_ ?_
 refine zW ?_ ?_ ?_
 refine zP (zdH (zp hr)) ?_ ?_
 exact (zc 9)
 exact zD
 refine zh ?_
 refine zL 10 ?_ ?_ ?_ ?_ ?_ ?_
 exact zD
 exact zac.nd
 rfl
 first|exact Or.inl rfl|exact Or.inr rfl
 rfl
 first|exact .inl rfl|exact .inr rfl|assumption
 exact zB
 refine zh ?_
 refine zw ?_
 refine zV ?_
 refine zb ?_ ?_ ?_
 exact zD
 refine zb ?_ ?_ ?_
 exact (zc 10)
 refine zb ?_ ?_ ?_
 exact (zc 4)
 exact zf
 exact zd
 exact zd
 exact zl
 exact zB
 refine zh ?_
 refine zfi ?_ ?_ ?_ ?_ ?_
 exact (zp hr)
 exact (zc 2)
 refine zak ?_ ?_ ?_ ?_
 exact (zo (zp hr))
 exact (zc 5)
 exact zg
 exact fun _ _=>rfl
 exact (zc 9)
 rfl
 refine ze ?_ ?_
 refine zW ?_ ?_ ?_
 refine zP (zdH (zp hr)) ?_ ?_
 exact (zc 4)
 exact (zc 3)
 refine zh ?_
 refine zw ?_
 refine zV ?_
 refine zb ?_ ?_ ?_
 exact zD
 refine zb ?_ ?_ ?_
 exact zfL
 refine zb ?_ ?_ ?_
 exact (zc 3)
 exact zf
 exact zd
 exact zl
 exact zl
 exact zB
 refine ze ?_ ?_
 refine zW ?_ ?_ ?_
 refine zP (zdH (zp hr)) ?_ ?_
 refine zak ?_ ?_ ?_ ?_
 exact (zo (zp hr))
 exact (zc 1)
 exact zg
 exact fun _ _=>rfl
 exact zD
 refine zh ?_
 refine zw ?_
 refine zV ?_
 refine zb ?_ ?_ ?_
 exact zD
 refine zb ?_ ?_ ?_
 refine zak ?_ ?_ ?_ ?_
 exact (zo (zp hr))
 exact (zc 2)
 refine zak ?_ ?_ ?_ ?_
 exact (zo (zp hr))
 exact (zc 1)
 exact zg
 exact fun _ _=>rfl
 exact fun _ _=>rfl
 refine zb ?_ ?_ ?_
 refine zF zcw ?_ ?_
 exact (zc 4)
 exact zg
 exact zf
 exact zaw
 exact zm
 exact zl
 exact zB
 refine zh ?_
 refine zw ?_
 refine zV ?_
 refine zb ?_ ?_ ?_
 exact zD
 refine zb ?_ ?_ ?_
 refine zak ?_ ?_ ?_ ?_
 exact (zo (zp hr))
 exact (zc 1)
 exact zg
 exact fun _ _=>rfl
 refine zb ?_ ?_ ?_
 refine zF zcw ?_ ?_
 exact (zc 4)
 exact zg
 exact zf
 exact zaw
 exact zm
 exact zl
theorem zar:FnScope ["program", "functions", "function"] ["program"] (defScope zax):=⟨rfl,rfl,rfl,by decide +kernel,rfl,by decide +kernel,by decide +kernel⟩
def zaJ:PEnv→Mo Fl :=
  (sRet (mVar 1))
def zaK:PEnv→Mo Fl :=
  sSeq (sFor (iVal (mVar 0)) (gN 2)
  (sDPutM (mVar 1) (mOp oIxD (mVar 2) (mC (.int 0))) (mVar 2))) (zaJ)
def zbv:PEnv→Mo Fl :=
  sSeq (sSet 1 mDNew) (zaK)
def m_functions_by_name:List PV→Mo PV:=mirror 1 3 (zbv)
theorem zcU (T:Txt w K mg):FOk P w K mg base "functions_by_name" 1 m_functions_by_name:=T.f_functions_by_name.ok (k:=0) zar fun f cdv A outer s H E hr =>
  by
 refine ze ?_ ?_
 refine zL 1 ?_ ?_ ?_ ?_ ?_ ?_
 exact zlf
 exact zar.nd
 rfl
 first|exact Or.inl rfl|exact Or.inr rfl
 rfl
 first|exact .inl rfl|exact .inr rfl|assumption
 refine ze ?_ ?_
 refine ziR (zbm rfl rfl) rfl ?_ ?_ ?_
 refine zeW ?_
 exact (zc 0)
 exact (ziQ 2 zar.nd)
 refine zh ?_
 refine zfi ?_ ?_ ?_ ?_ ?_
 exact (zp hr)
 exact (zc 1)
 refine zak ?_ ?_ ?_ ?_
 exact (zo (zp hr))
 exact (zc 2)
 exact zg
 exact fun _ _=>rfl
 exact (zc 2)
 rfl
 refine zh ?_
 refine zw ?_
 exact (zc 1)
theorem zdV:FnScope ["self", "function", "values"] ["self", "function", "values"] (defScope za5):=⟨rfl,rfl,rfl,by decide +kernel,rfl,by decide +kernel,by decide +kernel⟩
def zbw:PEnv→Mo Fl :=
  (sFld "place" insOf (mVar 0) (mC (.int 0)))
def zbx:PEnv→Mo Fl :=
  sSeq (sFld "block" insOf (mVar 0) (mOp oIxD (mVar 1) (mC (.int 2)))) (zbw)
def zcr:PEnv→Mo Fl :=
  sSeq (sFld "bound" insOf (mVar 0) (mCall oDZip (aCons (mOp oIxD (mVar 1) (mC (.int 1))) (aCons (mVar 2) aNil)))) (zbx)
def m_Frame___init__:List PV→Mo PV:=mirror 3 3 (zcr)
theorem zb6 (T:Txt w K mg):NOk P w K mg base "Frame" 1 m_Frame___init__:=T.n_Frame.ok (k:=0) zdV fun f cdv A outer s H E hr =>
  by
 refine ze ?_ ?_
 refine zcy T.d_bound ?_ ?_
 exact (zc 0)
 refine zi8 rfl T.b_dict T.b_zip ?_
 refine zb ?_ ?_ ?_
 refine zak ?_ ?_ ?_ ?_
 exact (zo (zp hr))
 exact (zc 1)
 exact zg
 exact fun _ _=>rfl
 refine zb ?_ ?_ ?_
 exact (zc 2)
 exact zf
 exact zd
 exact zm
 refine ze ?_ ?_
 refine zcy T.d_block ?_ ?_
 exact (zc 0)
 refine zak ?_ ?_ ?_ ?_
 exact (zo (zp hr))
 exact (zc 1)
 exact zg
 exact fun _ _=>rfl
 refine zh ?_
 refine zcy T.d_place ?_ ?_
 exact (zc 0)
 exact zg
theorem zdx:FnScope ["self", "program", "inputs"] ["self", "program", "inputs"] (defScope zaN):=⟨rfl,rfl,rfl,by decide +kernel,rfl,by decide +kernel,by decide +kernel⟩
def zbe:PEnv→Mo Fl :=
  (sFld "told" insOf (mVar 0) (mC .non))
def zbf:PEnv→Mo Fl :=
  sSeq (sFld "frames" insOf (mVar 0) (mLst (aCons (mCall (newI "Frame" m_Frame___init__) (aCons (mOp oIxD (mVar 1) (mC (.int 0))) (aCons (mVar 2) aNil))) aNil))) (zbe)
def zb7:PEnv→Mo Fl :=
  sSeq (sFld "functions" insOf (mVar 0) (mCall m_functions_by_name (aCons (mVar 1) aNil))) (zbf)
def m_Runner___init__:List PV→Mo PV:=mirror 3 3 (zb7)
theorem zdy (T:Txt w K mg):NOk P w K mg base "Runner" 3 m_Runner___init__:=T.n_Runner.ok (k:=2) zdx fun f cdv A outer s H E hr =>
  by
 refine ze ?_ ?_
 refine zcy T.d_functions ?_ ?_
 exact (zc 0)
 refine zH (zcU T) (hr.mono (by decide)) zj ?_
 refine zb ?_ ?_ ?_
 exact (zc 1)
 exact zf
 exact zd
 refine ze ?_ ?_
 refine zcy T.d_frames ?_ ?_
 exact (zc 0)
 refine zey ?_
 refine zb ?_ ?_ ?_
 refine zg0 (zb6 T) (hr.mono (by decide)) zj ?_
 refine zb ?_ ?_ ?_
 refine zak ?_ ?_ ?_ ?_
 exact (zo (zp hr))
 exact (zc 1)
 exact zg
 exact fun _ _=>rfl
 refine zb ?_ ?_ ?_
 exact (zc 2)
 exact zf
 exact zd
 exact zm
 exact zf
 exact zab
 refine zh ?_
 refine zcy T.d_told ?_ ?_
 exact (zc 0)
 exact zfL
theorem zbP:FnScope ["self", "steps"] ["self"] (defScope zaO):=⟨rfl,rfl,rfl,by decide +kernel,rfl,by decide +kernel,by decide +kernel⟩
def zbg:PEnv→Mo Fl :=
  (sRet (mOp oIxD (mUn (fldAt "block" insOf excOf) (mVar 0)) (mC (.int 1))))
def zas:PEnv→Mo Fl :=
  sSeq (sIf (mB (mOp oLt (mUn (fldAt "place" insOf excOf) (mVar 0)) (mCall oLen (aCons (mVar 1) aNil))))
  (sRet (mOp oIxD (mVar 1) (mUn (fldAt "place" insOf excOf) (mVar 0))))
  sNext) (zbg)
def zaQ:PEnv→Mo Fl :=
  sSeq (sSet 1 (mOp oIxD (mUn (fldAt "block" insOf excOf) (mVar 0)) (mC (.int 0)))) (zas)
def m_Frame_line_here:List PV→Mo PV:=mirror 1 2 (zaQ)
theorem zdz (T:Txt w K mg):MOk P w K mg base "Frame" "line_here" 1 m_Frame_line_here:=T.m_Frame_line_here.ok (k:=0) zbP fun f cdv A outer s H E hr =>
  by
 refine ze ?_ ?_
 refine zL 1 ?_ ?_ ?_ ?_ ?_ ?_
 refine zak ?_ ?_ ?_ ?_
 exact (zo (zp hr))
 refine zcx T.d_block ?_
 exact (zc 0)
 exact zg
 exact fun _ _=>rfl
 exact zbP.nd
 rfl
 first|exact Or.inl rfl|exact Or.inr rfl
 rfl
 first|exact .inl rfl|exact .inr rfl|assumption
 refine ze ?_ ?_
 refine zW ?_ ?_ ?_
 refine zP zjM ?_ ?_
 refine zcx T.d_place ?_
 exact (zc 0)
 refine zat zdm T.b_len zbG ?_
 refine zb ?_ ?_ ?_
 exact (zc 1)
 exact zf
 exact zd
 refine zh ?_
 refine zw ?_
 refine zak ?_ ?_ ?_ ?_
 exact (zo (zp hr))
 exact (zc 1)
 refine zcx T.d_place ?_
 exact (zc 0)
 exact fun _ _=>rfl
 exact zB
 refine zh ?_
 refine zw ?_
 refine zak ?_ ?_ ?_ ?_
 exact (zo (zp hr))
 refine zcx T.d_block ?_
 exact (zc 0)
 exact zg
 exact fun _ _=>rfl
def zT (c:Str):Option (List PV→Mo PV):=if c = "Frame" then some m_Frame_line_here else none
theorem zb8 (T:Txt w K mg) {c:Str} {m:List PV→Mo PV} (h:zT c=some m):MOk P w K mg base c "line_here" 1 m:=by
 unfold zT at h
 by_cases e0:c = "Frame"
 ·rw [if_pos e0] at h;cases h;rw [e0];exact (zdz T).mono (by decide)
 rw [if_neg e0] at h
 cases h
theorem zb9:FnScope ["self", "value", "name"] ["self", "value"] (defScope za6):=⟨rfl,rfl,rfl,by decide +kernel,rfl,by decide +kernel,by decide +kernel⟩
def zby:PEnv→Mo Fl :=
  (sFldAdd "place" insOf (mVar 0) (mC (.int 1)))
def zbz:PEnv→Mo Fl :=
  sSeq (sDPutM (mUn (fldAt "bound" insOf excOf) (mVar 0)) (mVar 2) (mVar 1)) (zby)
def zcs:PEnv→Mo Fl :=
  sSeq (sSet 2 (mOp oIxD (mMeth "line_here" zT (mVar 0) aNil) (mC (.int 1)))) (zbz)
def m_Frame_end_step:List PV→Mo PV:=mirror 2 3 (zcs)
theorem zdW (T:Txt w K mg):MOk P w K mg base "Frame" "end_step" 2 m_Frame_end_step:=T.m_Frame_end_step.ok (k:=1) zb9 fun f cdv A outer s H E hr =>
  by
 refine ze ?_ ?_
 refine zL 2 ?_ ?_ ?_ ?_ ?_ ?_
 refine zak ?_ ?_ ?_ ?_
 exact (zo (zp hr))
 refine zff (fun c m h=>zb8 T h) ?_ (hr.mono (by decide)) zj
 exact (zc 0)
 exact zg
 exact fun _ _=>rfl
 exact zb9.nd
 rfl
 first|exact Or.inl rfl|exact Or.inr rfl
 rfl
 first|exact .inl rfl|exact .inr rfl|assumption
 refine ze ?_ ?_
 refine zfi ?_ ?_ ?_ ?_ ?_
 exact (zp hr)
 refine zcx T.d_bound ?_
 exact (zc 0)
 exact (zc 2)
 exact (zc 1)
 rfl
 refine zh ?_
 refine zi6 T.d_place ?_ ?_
 exact (zc 0)
 exact zg
def zan (c:Str):Option (List PV→Mo PV):=if c = "Frame" then some m_Frame_end_step else none
theorem zct (T:Txt w K mg) {c:Str} {m:List PV→Mo PV} (h:zan c=some m):MOk P w K mg base c "end_step" 2 m:=by
 unfold zan at h
 by_cases e0:c = "Frame"
 ·rw [if_pos e0] at h;cases h;rw [e0];exact (zdW T).mono (by decide)
 rw [if_neg e0] at h
 cases h
theorem zhW:FnScope ["value"] ["value"] (defScope zeD):=⟨rfl,rfl,rfl,by decide +kernel,rfl,by decide +kernel,by decide +kernel⟩
def zcF:PEnv→Mo Fl :=
  (sRet (mC (.str "number")))
def zcG:PEnv→Mo Fl :=
  sSeq (sIf (mB (mCall (oIsi isT) (aCons (mVar 0) (aCons (mC (.ty "dict")) aNil))))
  (sRet (mC (.str "record")))
  sNext) (zcF)
def zcH:PEnv→Mo Fl :=
  sSeq (sIf (mB (mCall (oIsi isT) (aCons (mVar 0) (aCons (mC (.ty "tuple")) aNil))))
  (sRet (mC (.str "row")))
  sNext) (zcG)
def zeF:PEnv→Mo Fl :=
  sSeq (sIf (mB (mCall (oIsi isT) (aCons (mVar 0) (aCons (mC (.ty "str")) aNil))))
  (sRet (mC (.str "word")))
  sNext) (zcH)
def m_kind_of:List PV→Mo PV:=mirror 1 1 (zeF)
theorem zhX (T:Txt w K mg):FOk P w K mg base "kind_of" 1 m_kind_of:=T.f_kind_of.ok (k:=0) zhW fun f cdv A outer s H E hr =>
  by
 refine ze ?_ ?_
 refine zW ?_ ?_ ?_
 refine zaC ?_
 refine zat (zdo T.is) T.b_isinstance zA ?_
 refine zb ?_ ?_ ?_
 exact (zc 0)
 refine zb ?_ ?_ ?_
 exact (zgZ T.b_str zla)
 exact zf
 exact zd
 exact zd
 refine zh ?_
 refine zw ?_
 exact zD
 exact zB
 refine ze ?_ ?_
 refine zW ?_ ?_ ?_
 refine zaC ?_
 refine zat (zdo T.is) T.b_isinstance zA ?_
 refine zb ?_ ?_ ?_
 exact (zc 0)
 refine zb ?_ ?_ ?_
 exact (zgZ T.b_tuple zaE)
 exact zf
 exact zd
 exact zd
 refine zh ?_
 refine zw ?_
 exact zD
 exact zB
 refine ze ?_ ?_
 refine zW ?_ ?_ ?_
 refine zaC ?_
 refine zat (zdo T.is) T.b_isinstance zA ?_
 refine zb ?_ ?_ ?_
 exact (zc 0)
 refine zb ?_ ?_ ?_
 exact (zgZ T.b_dict ziT)
 exact zf
 exact zd
 exact zd
 refine zh ?_
 refine zw ?_
 exact zD
 exact zB
 refine zh ?_
 refine zw ?_
 exact zD
theorem zc0:FnScope ["kinds", "values", "kind", "value"] ["kinds", "values"] (defScope zcg):=⟨rfl,rfl,rfl,by decide +kernel,rfl,by decide +kernel,by decide +kernel⟩
def zaG:PEnv→Mo Fl :=
  (sFor (zmh (aCons (mVar 0) (aCons (mVar 1) aNil))) (g2 2 3)
  (sIf (bAnd (mB (mOp oNe (mVar 2) (mC (.str "any")))) (mB (mOp oNe (mVar 2) (mCall m_kind_of (aCons (mVar 3) aNil)))))
  (sRaise "Fault" "word" (mC (.str "kind")))
  sNext))
def m_check_kinds:List PV→Mo PV:=mirror 2 4 (zaG)
theorem zc1 (T:Txt w K mg):FOk P w K mg base "check_kinds" 3 m_check_kinds:=T.f_check_kinds.ok (k:=2) zc0 fun f cdv A outer s H E hr =>
  by
 refine zh ?_
 refine ziR (zbm rfl rfl) rfl ?_ ?_ ?_
 refine znT T.b_zip ?_
 refine zb ?_ ?_ ?_
 exact (zc 0)
 refine zb ?_ ?_ ?_
 exact (zc 1)
 exact zf
 exact zd
 exact zd
 exact (zox 2 3 rfl zc0.nd)
 refine zh ?_
 refine zW ?_ ?_ ?_
 refine znJ ?_
 refine ziE ?_ ?_
 refine zP (zo0 (zp hr)) ?_ ?_
 exact (zc 2)
 exact zD
 refine ziC ?_
 refine zP (zo0 (zp hr)) ?_ ?_
 exact (zc 2)
 refine zH (zhX T) (hr.mono (by decide)) zj ?_
 refine zb ?_ ?_ ?_
 exact (zc 3)
 exact zf
 exact zd
 refine zh ?_
 refine zdp (zcT T) ?_ (hr.mono (by decide)) zj rfl
 exact zD
 exact zB
theorem zfZ:FnScope ["number"] ["number"] (defScope zc7):=⟨rfl,rfl,rfl,by decide +kernel,rfl,by decide +kernel,by decide +kernel⟩
def zcl:PEnv→Mo Fl :=
  (sRet (mChain oLt oLt (mUn oNeg (mC (.int 1000000000000000000))) (mVar 0) (mC (.int 1000000000000000000))))
def m_in_bounds:List PV→Mo PV:=mirror 1 1 (zcl)
theorem zf0 (T:Txt w K mg):FOk P w K mg base "in_bounds" 1 m_in_bounds:=T.f_in_bounds.ok (k:=0) zfZ fun f cdv A outer s H E hr =>
  by
 refine zh ?_
 refine zw ?_
 refine zlX zjM zjM ?_ ?_ ?_
 refine znM ziG ?_
 exact (zfh T.c_NUMBER_BOUND)
 exact (zc 0)
 exact (zfh T.c_NUMBER_BOUND)
theorem zea:FnScope ["number"] ["number"] (defScope zbp):=⟨rfl,rfl,rfl,by decide +kernel,rfl,by decide +kernel,by decide +kernel⟩
def zah:PEnv→Mo Fl :=
  (sRet (mVar 0))
def zaH:PEnv→Mo Fl :=
  sSeq (sIf (bNot (mB (mCall m_in_bounds (aCons (mVar 0) aNil))))
  (sRaise "Fault" "word" (mC (.str "wide")))
  sNext) (zah)
def m_within_bounds:List PV→Mo PV:=mirror 1 1 (zaH)
theorem zba (T:Txt w K mg):FOk P w K mg base "within_bounds" 3 m_within_bounds:=T.f_within_bounds.ok (k:=2) zea fun f cdv A outer s H E hr =>
  by
 refine ze ?_ ?_
 refine zW ?_ ?_ ?_
 refine zex ?_
 refine zaC ?_
 refine zH (zf0 T) (hr.mono (by decide)) zj ?_
 refine zb ?_ ?_ ?_
 exact (zc 0)
 exact zf
 exact zd
 refine zh ?_
 refine zdp (zcT T) ?_ (hr.mono (by decide)) zj rfl
 exact zD
 exact zB
 refine zh ?_
 refine zw ?_
 exact (zc 0)
theorem zgD:FnScope ["values"] ["values"] (defScope zdR):=⟨rfl,rfl,rfl,by decide +kernel,rfl,by decide +kernel,by decide +kernel⟩
def ze0:PEnv→Mo Fl :=
  (sRet (mCall m_within_bounds (aCons (mOp oAdd (mOp oIxD (mVar 0) (mC (.int 0))) (mOp oIxD (mVar 0) (mC (.int 1)))) aNil)))
def m_tell_add:List PV→Mo PV:=mirror 1 1 (ze0)
theorem zgE (T:Txt w K mg):FOk P w K mg base "tell_add" 4 m_tell_add:=T.f_tell_add.ok (k:=3) zgD fun f cdv A outer s H E hr =>
  by
 refine zh ?_
 refine zw ?_
 refine zH (zba T) (hr.mono (by decide)) zj ?_
 refine zb ?_ ?_ ?_
 refine zF zcw ?_ ?_
 refine zak ?_ ?_ ?_ ?_
 exact (zo (zp hr))
 exact (zc 0)
 exact zg
 exact fun _ _=>rfl
 refine zak ?_ ?_ ?_ ?_
 exact (zo (zp hr))
 exact (zc 0)
 exact zg
 exact fun _ _=>rfl
 exact zf
 exact zaw
theorem zgF:FnScope ["values"] ["values"] (defScope zdS):=⟨rfl,rfl,rfl,by decide +kernel,rfl,by decide +kernel,by decide +kernel⟩
def ze1:PEnv→Mo Fl :=
  (sRet (mCall m_within_bounds (aCons (mOp oSub (mOp oIxD (mVar 0) (mC (.int 0))) (mOp oIxD (mVar 0) (mC (.int 1)))) aNil)))
def m_tell_sub:List PV→Mo PV:=mirror 1 1 (ze1)
theorem zgG (T:Txt w K mg):FOk P w K mg base "tell_sub" 4 m_tell_sub:=T.f_tell_sub.ok (k:=3) zgF fun f cdv A outer s H E hr =>
  by
 refine zh ?_
 refine zw ?_
 refine zH (zba T) (hr.mono (by decide)) zj ?_
 refine zb ?_ ?_ ?_
 refine zF zfO ?_ ?_
 refine zak ?_ ?_ ?_ ?_
 exact (zo (zp hr))
 exact (zc 0)
 exact zg
 exact fun _ _=>rfl
 refine zak ?_ ?_ ?_ ?_
 exact (zo (zp hr))
 exact (zc 0)
 exact zg
 exact fun _ _=>rfl
 exact zf
 exact zaw
theorem zgH:FnScope ["values"] ["values"] (defScope zdT):=⟨rfl,rfl,rfl,by decide +kernel,rfl,by decide +kernel,by decide +kernel⟩
def ze2:PEnv→Mo Fl :=
  (sRet (mCall m_within_bounds (aCons (mOp oMulT (mOp oIxD (mVar 0) (mC (.int 0))) (mOp oIxD (mVar 0) (mC (.int 1)))) aNil)))
def m_tell_mul:List PV→Mo PV:=mirror 1 1 (ze2)
theorem zgI (T:Txt w K mg):FOk P w K mg base "tell_mul" 4 m_tell_mul:=T.f_tell_mul.ok (k:=3) zgH fun f cdv A outer s H E hr =>
  by
 refine zh ?_
 refine zw ?_
 refine zH (zba T) (hr.mono (by decide)) zj ?_
 refine zb ?_ ?_ ?_
 refine zF zg8 ?_ ?_
 refine zak ?_ ?_ ?_ ?_
 exact (zo (zp hr))
 exact (zc 0)
 exact zg
 exact fun _ _=>rfl
 refine zak ?_ ?_ ?_ ?_
 exact (zo (zp hr))
 exact (zc 0)
 exact zg
 exact fun _ _=>rfl
 exact zf
 exact zaw
theorem zf1:FnScope ["truth"] ["truth"] (defScope zc8):=⟨rfl,rfl,rfl,by decide +kernel,rfl,by decide +kernel,by decide +kernel⟩
def zbA:PEnv→Mo Fl :=
  (sRet (mIf (mB (mVar 0)) (mC (.int 1)) (mC (.int 0))))
def m_number_of:List PV→Mo PV:=mirror 1 1 (zbA)
theorem zd7 (T:Txt w K mg):FOk P w K mg base "number_of" 1 m_number_of:=T.f_number_of.ok (k:=0) zf1 fun f cdv A outer s H E hr =>
  by
 refine zh ?_
 refine zw ?_
 refine zlW ?_ ?_ ?_
 refine zaC ?_
 exact (zc 0)
 exact zg
 exact zg
theorem zf2:FnScope ["values"] ["values"] (defScope zc9):=⟨rfl,rfl,rfl,by decide +kernel,rfl,by decide +kernel,by decide +kernel⟩
def zdd:PEnv→Mo Fl :=
  (sRet (mCall m_number_of (aCons (mOp oLt (mOp oIxD (mVar 0) (mC (.int 0))) (mOp oIxD (mVar 0) (mC (.int 1)))) aNil)))
def m_tell_less:List PV→Mo PV:=mirror 1 1 (zdd)
theorem zf3 (T:Txt w K mg):FOk P w K mg base "tell_less" 2 m_tell_less:=T.f_tell_less.ok (k:=1) zf2 fun f cdv A outer s H E hr =>
  by
 refine zh ?_
 refine zw ?_
 refine zH (zd7 T) (hr.mono (by decide)) zj ?_
 refine zb ?_ ?_ ?_
 refine zez zjM ?_ ?_
 refine zak ?_ ?_ ?_ ?_
 exact (zo (zp hr))
 exact (zc 0)
 exact zg
 exact fun _ _=>rfl
 refine zak ?_ ?_ ?_ ?_
 exact (zo (zp hr))
 exact (zc 0)
 exact zg
 exact fun _ _=>rfl
 exact zf
 exact zbk
theorem zf4:FnScope ["values"] ["values"] (defScope zda):=⟨rfl,rfl,rfl,by decide +kernel,rfl,by decide +kernel,by decide +kernel⟩
def zde:PEnv→Mo Fl :=
  (sRet (mCall m_number_of (aCons (mOp oEq (mOp oIxD (mVar 0) (mC (.int 0))) (mOp oIxD (mVar 0) (mC (.int 1)))) aNil)))
def m_tell_same:List PV→Mo PV:=mirror 1 1 (zde)
theorem zf5 (T:Txt w K mg):FOk P w K mg base "tell_same" 2 m_tell_same:=T.f_tell_same.ok (k:=1) zf4 fun f cdv A outer s H E hr =>
  by
 refine zh ?_
 refine zw ?_
 refine zH (zd7 T) (hr.mono (by decide)) zj ?_
 refine zb ?_ ?_ ?_
 refine zez (zdH (zp hr)) ?_ ?_
 refine zak ?_ ?_ ?_ ?_
 exact (zo (zp hr))
 exact (zc 0)
 exact zg
 exact fun _ _=>rfl
 refine zak ?_ ?_ ?_ ?_
 exact (zo (zp hr))
 exact (zc 0)
 exact zg
 exact fun _ _=>rfl
 exact zf
 exact zbk
theorem zfn:FnScope ["values"] ["values"] (defScope zcA):=⟨rfl,rfl,rfl,by decide +kernel,rfl,by decide +kernel,by decide +kernel⟩
def zd8:PEnv→Mo Fl :=
  (sRet (mOp oAdd (mTup (aCons (mOp oIxD (mVar 0) (mC (.int 0))) aNil)) (mOp oIxD (mVar 0) (mC (.int 1)))))
def m_tell_front:List PV→Mo PV:=mirror 1 1 (zd8)
theorem zfo (T:Txt w K mg):FOk P w K mg base "tell_front" 1 m_tell_front:=T.f_tell_front.ok (k:=0) zfn fun f cdv A outer s H E hr =>
  by
 refine zh ?_
 refine zw ?_
 refine zF zcw ?_ ?_
 refine zV ?_
 refine zb ?_ ?_ ?_
 refine zak ?_ ?_ ?_ ?_
 exact (zo (zp hr))
 exact (zc 0)
 exact zg
 exact fun _ _=>rfl
 exact zf
 exact zm
 refine zak ?_ ?_ ?_ ?_
 exact (zo (zp hr))
 exact (zc 0)
 exact zg
 exact fun _ _=>rfl
def za0 (y:Str):Option (List PV→Mo PV):=if y = "tell_add" then some m_tell_add else if y = "tell_sub" then some m_tell_sub else if y = "tell_mul" then some m_tell_mul else if y = "tell_less" then some m_tell_less else if y = "tell_same" then some m_tell_same else if y = "tell_front" then some m_tell_front else none
theorem zgJ (T:Txt w K mg) {y:Str} {m:List PV→Mo PV} (h:za0 y=some m):FOk P w K mg base y 4 m:=by
 unfold za0 at h
 by_cases e0:y = "tell_add"
 ·rw [if_pos e0] at h;cases h;rw [e0];exact (zgE T).mono (by decide)
 rw [if_neg e0] at h
 by_cases e1:y = "tell_sub"
 ·rw [if_pos e1] at h;cases h;rw [e1];exact (zgG T).mono (by decide)
 rw [if_neg e1] at h
 by_cases e2:y = "tell_mul"
 ·rw [if_pos e2] at h;cases h;rw [e2];exact (zgI T).mono (by decide)
 rw [if_neg e2] at h
 by_cases e3:y = "tell_less"
 ·rw [if_pos e3] at h;cases h;rw [e3];exact (zf3 T).mono (by decide)
 rw [if_neg e3] at h
 by_cases e4:y = "tell_same"
 ·rw [if_pos e4] at h;cases h;rw [e4];exact (zf5 T).mono (by decide)
 rw [if_neg e4] at h
 by_cases e5:y = "tell_front"
 ·rw [if_pos e5] at h;cases h;rw [e5];exact (zfo T).mono (by decide)
 rw [if_neg e5] at h
 cases h
theorem zeb:FnScope ["thing"] ["thing"] (defScope zbq):=⟨rfl,rfl,rfl,by decide +kernel,rfl,by decide +kernel,by decide +kernel⟩
def zbQ:PEnv→Mo Fl :=
  (sRet (mLst aNil))
def zbR:PEnv→Mo Fl :=
  sSeq (sIf (mB (mCall (oIsi isT) (aCons (mVar 0) (aCons (mC (.ty "dict")) aNil))))
  (sRet (mUn oVals (mVar 0)))
  sNext) (zbQ)
def zcI:PEnv→Mo Fl :=
  sSeq (sIf (mB (mCall (oIsi isT) (aCons (mVar 0) (aCons (mC (.ty "tuple")) aNil))))
  (sRet (mCall oList (aCons (mVar 0) aNil)))
  sNext) (zbR)
def m_things_within:List PV→Mo PV:=mirror 1 1 (zcI)
theorem zec (T:Txt w K mg):FOk P w K mg base "things_within" 1 m_things_within:=T.f_things_within.ok (k:=0) zeb fun f cdv A outer s H E hr =>
  by
 refine ze ?_ ?_
 refine zW ?_ ?_ ?_
 refine zaC ?_
 refine zat (zdo T.is) T.b_isinstance zA ?_
 refine zb ?_ ?_ ?_
 exact (zc 0)
 refine zb ?_ ?_ ?_
 exact (zgZ T.b_tuple zaE)
 exact zf
 exact zd
 exact zd
 refine zh ?_
 refine zw ?_
 refine zd5 znQ T.b_list ziU ?_
 refine zb ?_ ?_ ?_
 exact (zc 0)
 exact zf
 exact zd
 exact zB
 refine ze ?_ ?_
 refine zW ?_ ?_ ?_
 refine zaC ?_
 refine zat (zdo T.is) T.b_isinstance zA ?_
 refine zb ?_ ?_ ?_
 exact (zc 0)
 refine zb ?_ ?_ ?_
 exact (zgZ T.b_dict ziT)
 exact zf
 exact zd
 exact zd
 refine zh ?_
 refine zw ?_
 refine zhS rfl T.b_list ?_
 exact (zc 0)
 exact zB
 refine zh ?_
 refine zw ?_
 refine zey ?_
 exact zf
theorem zbi:FnScope ["thing", "found", "place"] ["thing"] (defScope zcB):=⟨rfl,rfl,rfl,by decide +kernel,rfl,by decide +kernel,by decide +kernel⟩
def zcJ:PEnv→Mo Fl :=
  (sRet (mVar 1))
def zcK:PEnv→Mo Fl :=
  sSeq (sWhile (mB (mOp oLt (mVar 2) (mCall oLen (aCons (mVar 1) aNil))))
  (sSeq (sExpr (mMut oExtend (mVar 1) (mCall m_things_within (aCons (mOp oIxD (mVar 1) (mVar 2)) aNil))))
  (sAug 2 ipAdd (mC (.int 1))))) (zcJ)
def zcL:PEnv→Mo Fl :=
  sSeq (sSet 2 (mC (.int 0))) (zcK)
def zcM:PEnv→Mo Fl :=
  sSeq (sSet 1 (mLst (aCons (mVar 0) aNil))) (zcL)
def m_all_within:List PV→Mo PV:=mirror 1 3 (zcM)
theorem zfp (T:Txt w K mg):FOk P w K mg base "all_within" 2 m_all_within:=T.f_all_within.ok (k:=1) zbi fun f cdv A outer s H E hr =>
  by
 refine ze ?_ ?_
 refine zL 1 ?_ ?_ ?_ ?_ ?_ ?_
 refine zey ?_
 refine zb ?_ ?_ ?_
 exact (zc 0)
 exact zf
 exact zd
 exact zbi.nd
 rfl
 first|exact Or.inl rfl|exact Or.inr rfl
 rfl
 first|exact .inl rfl|exact .inr rfl|assumption
 refine ze ?_ ?_
 refine zL 2 ?_ ?_ ?_ ?_ ?_ ?_
 exact zg
 exact zbi.nd
 rfl
 first|exact Or.inl rfl|exact Or.inr rfl
 rfl
 first|exact .inl rfl|exact .inr rfl|assumption
 refine ze ?_ ?_
 refine zg2 (zbm rfl rfl) ?_ ?_
 refine zP zjM ?_ ?_
 exact (zc 2)
 refine zat zdm T.b_len zbG ?_
 refine zb ?_ ?_ ?_
 exact (zc 1)
 exact zf
 exact zd
 refine ze ?_ ?_
 refine zaD ?_
 refine zkt ?_ ?_
 exact (zc 1)
 refine zH (zec T) (hr.mono (by decide)) zj ?_
 refine zb ?_ ?_ ?_
 refine zak ?_ ?_ ?_ ?_
 exact (zo (zp hr))
 exact (zc 1)
 exact (zc 2)
 exact fun _ _=>rfl
 exact zf
 exact zm
 refine zh ?_
 refine zk8 2 ziO ?_ zbi.nd
 exact zg
 refine zh ?_
 refine zw ?_
 exact (zc 1)
theorem zkC:FnScope ["value"] ["value"] (defScope zgA):=⟨rfl,rfl,rfl,by decide +kernel,rfl,by decide +kernel,by decide +kernel⟩
def zjo:PEnv→Mo Fl :=
  (sRet (mCall oLen (aCons (mCall m_all_within (aCons (mVar 0) aNil)) aNil)))
def m_parts:List PV→Mo PV:=mirror 1 1 (zjo)
theorem zkD (T:Txt w K mg):FOk P w K mg base "parts" 3 m_parts:=T.f_parts.ok (k:=2) zkC fun f cdv A outer s H E hr =>
  by
 refine zh ?_
 refine zw ?_
 refine zat zdm T.b_len zbG ?_
 refine zb ?_ ?_ ?_
 refine zH (zfp T) (hr.mono (by decide)) zj ?_
 refine zb ?_ ?_ ?_
 exact (zc 0)
 exact zf
 exact zd
 exact zf
 exact zab
theorem zcN:FnScope ["self", "values", "tell", "told"] ["self", "values"] (defScope zdb):=⟨rfl,rfl,rfl,by decide +kernel,rfl,by decide +kernel,by decide +kernel⟩
def zbY:PEnv→Mo Fl :=
  (sRet (mVar 3))
def zbZ:PEnv→Mo Fl :=
  sSeq (sIf (mB (mOp oGt (mCall m_parts (aCons (mVar 3) aNil)) (mC (.int 60))))
  (sRaise "Fault" "word" (mC (.str "large")))
  sNext) (zbY)
def za1:PEnv→Mo Fl :=
  sSeq (sSet 3 (mCallV za0 (mVar 2) (aCons (mVar 1) aNil))) (zbZ)
def za2:PEnv→Mo Fl :=
  sSeq (sSet 2 (mOp oIxD (mUn (kdAt zay zaz) (mUn (fldAt "word" insOf excOf) (mVar 0))) (mC (.int 1)))) (za1)
def zbB:PEnv→Mo Fl :=
  sSeq (sExpr (mCall m_check_kinds (aCons (mOp oIxD (mUn (kdAt zay zaz) (mUn (fldAt "word" insOf excOf) (mVar 0))) (mC (.int 0))) (aCons (mVar 1) aNil)))) (za2)
def m_Op_answer:List PV→Mo PV:=mirror 2 4 (zbB)
theorem zf6 (T:Txt w K mg):MOk P w K mg base "Op" "answer" 5 m_Op_answer:=T.m_Op_answer.ok (k:=4) zcN fun f cdv A outer s H E hr =>
  by
 refine ze ?_ ?_
 refine zaD ?_
 refine zH (zc1 T) (hr.mono (by decide)) zj ?_
 refine zb ?_ ?_ ?_
 refine zak ?_ ?_ ?_ ?_
 exact (zo (zp hr))
 refine zo2 (T.kd_OPS _ rfl rfl rfl) ?_
 refine zcx T.d_word ?_
 exact (zc 0)
 exact zg
 exact fun _ _=>rfl
 refine zb ?_ ?_ ?_
 exact (zc 1)
 exact zf
 exact zd
 exact zm
 refine ze ?_ ?_
 refine zL 2 ?_ ?_ ?_ ?_ ?_ ?_
 refine zak ?_ ?_ ?_ ?_
 exact (zo (zp hr))
 refine zo2 (T.kd_OPS _ rfl rfl rfl) ?_
 refine zcx T.d_word ?_
 exact (zc 0)
 exact zg
 exact fun _ _=>rfl
 exact zcN.nd
 rfl
 first|exact Or.inl rfl|exact Or.inr rfl
 rfl
 first|exact .inl rfl|exact .inr rfl|assumption
 refine ze ?_ ?_
 refine zL 3 ?_ ?_ ?_ ?_ ?_ ?_
 refine zmd (fun y m h=>zgJ T h) ?_ (hr.mono (by decide)) zj ?_
 exact (zc 2)
 refine zb ?_ ?_ ?_
 exact (zc 1)
 exact zf
 exact zd
 exact zcN.nd
 rfl
 first|exact Or.inl rfl|exact Or.inr rfl
 rfl
 first|exact .inl rfl|exact .inr rfl|assumption
 refine ze ?_ ?_
 refine zW ?_ ?_ ?_
 refine zP zpC ?_ ?_
 refine zH (zkD T) (hr.mono (by decide)) zj ?_
 refine zb ?_ ?_ ?_
 exact (zc 3)
 exact zf
 exact zd
 exact (zfh T.c_MOST_PARTS)
 refine zh ?_
 refine zdp (zcT T) ?_ (hr.mono (by decide)) zj rfl
 exact zD
 exact zB
 refine zh ?_
 refine zw ?_
 exact (zc 3)
def zbC (c:Str):Option (List PV→Mo PV):=if c = "Op" then some m_Op_answer else none
theorem zeM (T:Txt w K mg) {c:Str} {m:List PV→Mo PV} (h:zbC c=some m):MOk P w K mg base c "answer" 5 m:=by
 unfold zbC at h
 by_cases e0:c = "Op"
 ·rw [if_pos e0] at h;cases h;rw [e0];exact (zf6 T).mono (by decide)
 rw [if_neg e0] at h
 cases h
theorem zeN:FnScope ["self", "word"] ["self", "word"] (defScope zch):=⟨rfl,rfl,rfl,by decide +kernel,rfl,by decide +kernel,by decide +kernel⟩
def zN:PEnv→Mo Fl :=
  (sFld "many" insOf (mVar 0) (mCall oLen (aCons (mOp oIxD (mUn (kdAt zay zaz) (mVar 1)) (mC (.int 0))) aNil)))
def zad:PEnv→Mo Fl :=
  sSeq (sFld "word" insOf (mVar 0) (mVar 1)) (zN)
def m_Op___init__:List PV→Mo PV:=mirror 2 2 (zad)
theorem zeO (T:Txt w K mg):NOk P w K mg base "Op" 1 m_Op___init__:=T.n_Op.ok (k:=0) zeN fun f cdv A outer s H E hr =>
  by
 refine ze ?_ ?_
 refine zcy T.d_word ?_ ?_
 exact (zc 0)
 exact (zc 1)
 refine zh ?_
 refine zcy T.d_many ?_ ?_
 exact (zc 0)
 refine zat zdm T.b_len zbG ?_
 refine zb ?_ ?_ ?_
 refine zak ?_ ?_ ?_ ?_
 exact (zo (zp hr))
 refine zo2 (T.kd_OPS _ rfl rfl rfl) ?_
 exact (zc 1)
 exact zg
 exact fun _ _=>rfl
 exact zf
 exact zm
theorem zkE:FnScope ["word"] ["word"] (defScope zgB):=⟨rfl,rfl,rfl,by decide +kernel,rfl,by decide +kernel,by decide +kernel⟩
def zaR:PEnv→Mo Fl :=
  (sRet (mCall (newI "Op" m_Op___init__) (aCons (mVar 0) aNil)))
def zdf:PEnv→Mo Fl :=
  sSeq (sIf (mB (mUn (kdIn true zay zaz full_OPS) (mVar 0)))
  (sRaise "NoOp" "word" (mVar 0))
  sNext) (zaR)
def m_op_of:List PV→Mo PV:=mirror 1 1 (zdf)
theorem zkF (T:Txt w K mg):FOk P w K mg base "op_of" 3 m_op_of:=T.f_op_of.ok (k:=2) zkE fun f cdv A outer s H E hr =>
  by
 refine ze ?_ ?_
 refine zW ?_ ?_ ?_
 refine ziS (T.kd_OPS _ rfl rfl rfl) ?_
 exact (zc 0)
 refine zh ?_
 refine zdp (zjn T) ?_ (hr.mono (by decide)) zj rfl
 exact (zc 0)
 exact zB
 refine zh ?_
 refine zw ?_
 refine zg0 (zeO T) (hr.mono (by decide)) zj ?_
 refine zb ?_ ?_ ?_
 exact (zc 0)
 exact zf
 exact zd
theorem zdX:FnScope ["self", "atom"] ["self", "atom"] (defScope za7):=⟨rfl,rfl,rfl,by decide +kernel,rfl,by decide +kernel,by decide +kernel⟩
def zbD:PEnv→Mo Fl :=
  (sRet (mOp oIxD (mUn (fldAt "bound" insOf excOf) (mVar 0)) (mOp oIxD (mVar 1) (mC (.int 1)))))
def zbb:PEnv→Mo Fl :=
  sSeq (sIf (mB (mOp oEq (mOp oIxD (mVar 1) (mC (.int 0))) (mC (.str "is"))))
  (sRet (mOp oIxD (mVar 1) (mC (.int 1))))
  sNext) (zbD)
def m_Frame_value_of:List PV→Mo PV:=mirror 2 2 (zbb)
theorem zdY (T:Txt w K mg):MOk P w K mg base "Frame" "value_of" 1 m_Frame_value_of:=T.m_Frame_value_of.ok (k:=0) zdX fun f cdv A outer s H E hr =>
  by
 refine ze ?_ ?_
 refine zW ?_ ?_ ?_
 refine zP (zdH (zp hr)) ?_ ?_
 refine zak ?_ ?_ ?_ ?_
 exact (zo (zp hr))
 exact (zc 1)
 exact zg
 exact fun _ _=>rfl
 exact zD
 refine zh ?_
 refine zw ?_
 refine zak ?_ ?_ ?_ ?_
 exact (zo (zp hr))
 exact (zc 1)
 exact zg
 exact fun _ _=>rfl
 exact zB
 refine zh ?_
 refine zw ?_
 refine zak ?_ ?_ ?_ ?_
 exact (zo (zp hr))
 refine zcx T.d_bound ?_
 exact (zc 0)
 refine zak ?_ ?_ ?_ ?_
 exact (zo (zp hr))
 exact (zc 1)
 exact zg
 exact fun _ _=>rfl
 exact fun _ _=>rfl
def zJ (c:Str):Option (List PV→Mo PV):=if c = "Frame" then some m_Frame_value_of else none
theorem zbc (T:Txt w K mg) {c:Str} {m:List PV→Mo PV} (h:zJ c=some m):MOk P w K mg base c "value_of" 1 m:=by
 unfold zJ at h
 by_cases e0:c = "Frame"
 ·rw [if_pos e0] at h;cases h;rw [e0];exact (zdY T).mono (by decide)
 rw [if_neg e0] at h
 cases h
theorem zdA:FnScope ["self", "atoms"] ["self", "atoms"] (defScope zal):=⟨rfl,rfl,rfl,by decide +kernel,rfl,by decide +kernel,by decide +kernel⟩
def zaS:PEnv→Mo Fl :=
  (sRet (mCall oTuple (aCons (mComp (iVal (mVar 1)) (mMeth "value_of" zJ (mVar 1) (aCons (mVar 0) aNil))) aNil)))
def m_Frame_values_by:List PV→Mo PV:=mirror 2 2 (zaS)
theorem zdB (T:Txt w K mg):MOk P w K mg base "Frame" "values_by" 2 m_Frame_values_by:=T.m_Frame_values_by.ok (k:=1) zdA fun f cdv A outer s H E hr =>
  by
 refine zh ?_
 refine zw ?_
 refine zd5 zeB T.b_tuple zaE ?_
 refine zb ?_ ?_ ?_
 refine zfQ (N:=["self", "atoms"]) rfl (by exact ⟨rfl,by decide +kernel,by decide +kernel,rfl,by show ∀y:Str×NameKind,y∈_→y.2=NameKind.free→List.lookup y.1 (defScope zal).names=some NameKind.cell;decide +kernel⟩) rfl (by decide +kernel) ?_ ?_
 refine zeW ?_
 exact (zc 1)
 intro _ _ _ _ _
 refine zb1 (fun c m h=>zbc T h) ?_ (hr.mono (by decide)) zb4 ?_
 exact (zc 1)
 refine zb ?_ ?_ ?_
 exact (zc 0)
 exact zf
 exact zd
 exact zf
 exact zbo
def zU (c:Str):Option (List PV→Mo PV):=if c = "Frame" then some m_Frame_values_by else none
theorem zaT (T:Txt w K mg) {c:Str} {m:List PV→Mo PV} (h:zU c=some m):MOk P w K mg base c "values_by" 2 m:=by
 unfold zU at h
 by_cases e0:c = "Frame"
 ·rw [if_pos e0] at h;cases h;rw [e0];exact (zdB T).mono (by decide)
 rw [if_neg e0] at h
 cases h
theorem zeG:FnScope ["self", "name", "values"] ["self", "name", "values"] (defScope zbU):=⟨rfl,rfl,rfl,by decide +kernel,rfl,by decide +kernel,by decide +kernel⟩
def zc2:PEnv→Mo Fl :=
  (sExpr (mMut oAppend (mUn (fldAt "frames" insOf excOf) (mVar 0)) (mCall (newI "Frame" m_Frame___init__) (aCons (mOp oIxD (mUn (fldAt "functions" insOf excOf) (mVar 0)) (mVar 1)) (aCons (mVar 2) aNil)))))
def m_Runner_begin:List PV→Mo PV:=mirror 3 3 (zc2)
theorem zeH (T:Txt w K mg):MOk P w K mg base "Runner" "begin" 3 m_Runner_begin:=T.m_Runner_begin.ok (k:=2) zeG fun f cdv A outer s H E hr =>
  by
 refine zh ?_
 refine zaD ?_
 refine zfg ?_ ?_
 refine zcx T.d_frames ?_
 exact (zc 0)
 refine zg0 (zb6 T) (hr.mono (by decide)) zj ?_
 refine zb ?_ ?_ ?_
 refine zak ?_ ?_ ?_ ?_
 exact (zo (zp hr))
 refine zcx T.d_functions ?_
 exact (zc 0)
 exact (zc 1)
 exact fun _ _=>rfl
 refine zb ?_ ?_ ?_
 exact (zc 2)
 exact zf
 exact zd
 exact zm
def zbl (c:Str):Option (List PV→Mo PV):=if c = "Runner" then some m_Runner_begin else none
theorem zdC (T:Txt w K mg) {c:Str} {m:List PV→Mo PV} (h:zbl c=some m):MOk P w K mg base c "begin" 3 m:=by
 unfold zbl at h
 by_cases e0:c = "Runner"
 ·rw [if_pos e0] at h;cases h;rw [e0];exact (zeH T).mono (by decide)
 rw [if_neg e0] at h
 cases h
theorem zdZ:FnScope ["self"] ["self"] (defScope za8):=⟨rfl,rfl,rfl,by decide +kernel,rfl,by decide +kernel,by decide +kernel⟩
def zcu:PEnv→Mo Fl :=
  (sRet (mOp oEq (mCall oLen (aCons (mUn (fldAt "frames" insOf excOf) (mVar 0)) aNil)) (mC (.int 0))))
def m_Runner_at_rest:List PV→Mo PV:=mirror 1 1 (zcu)
theorem zd0 (T:Txt w K mg):MOk P w K mg base "Runner" "at_rest" 1 m_Runner_at_rest:=T.m_Runner_at_rest.ok (k:=0) zdZ fun f cdv A outer s H E hr =>
  by
 refine zh ?_
 refine zw ?_
 refine zez (zdH (zp hr)) ?_ ?_
 refine zat zdm T.b_len zbG ?_
 refine zb ?_ ?_ ?_
 refine zcx T.d_frames ?_
 exact (zc 0)
 exact zf
 exact zcz
 exact zg
def zY (c:Str):Option (List PV→Mo PV):=if c = "Runner" then some m_Runner_at_rest else none
theorem zcO (T:Txt w K mg) {c:Str} {m:List PV→Mo PV} (h:zY c=some m):MOk P w K mg base c "at_rest" 1 m:=by
 unfold zY at h
 by_cases e0:c = "Runner"
 ·rw [if_pos e0] at h;cases h;rw [e0];exact (zd0 T).mono (by decide)
 rw [if_neg e0] at h
 cases h
theorem zdg:FnScope ["self", "value"] ["self", "value"] (defScope zaF):=⟨rfl,rfl,rfl,by decide +kernel,rfl,by decide +kernel,by decide +kernel⟩
def zaj:PEnv→Mo Fl :=
  (sIf (mB (mMeth "at_rest" zY (mVar 0) aNil))
  (sFld "told" insOf (mVar 0) (mVar 1))
  (sExpr (mMeth "end_step" zan (mOp oIxD (mUn (fldAt "frames" insOf excOf) (mVar 0)) (mUn oNeg (mC (.int 1)))) (aCons (mVar 1) aNil))))
def zai:PEnv→Mo Fl :=
  sSeq (sExpr (mUn oPop (mUn (fldAt "frames" insOf excOf) (mVar 0)))) (zaj)
def m_Runner_give_back:List PV→Mo PV:=mirror 2 2 (zai)
theorem zdh (T:Txt w K mg):MOk P w K mg base "Runner" "give_back" 3 m_Runner_give_back:=T.m_Runner_give_back.ok (k:=2) zdg fun f cdv A outer s H E hr =>
  by
 refine ze ?_ ?_
 refine zaD ?_
 refine zn6 ?_
 refine zcx T.d_frames ?_
 exact (zc 0)
 refine zh ?_
 refine zW ?_ ?_ ?_
 refine zaC ?_
 refine zff (fun c m h=>zcO T h) ?_ (hr.mono (by decide)) zj
 exact (zc 0)
 refine zh ?_
 refine zcy T.d_told ?_ ?_
 exact (zc 0)
 exact (zc 1)
 refine zh ?_
 refine zaD ?_
 refine zb1 (fun c m h=>zct T h) ?_ (hr.mono (by decide)) zj ?_
 refine zak ?_ ?_ ?_ ?_
 exact (zo (zp hr))
 refine zcx T.d_frames ?_
 exact (zc 0)
 refine znM ziG ?_
 exact zg
 exact fun _ _=>rfl
 refine zb ?_ ?_ ?_
 exact (zc 1)
 exact zf
 exact zd
def zav (c:Str):Option (List PV→Mo PV):=if c = "Runner" then some m_Runner_give_back else none
theorem zd1 (T:Txt w K mg) {c:Str} {m:List PV→Mo PV} (h:zav c=some m):MOk P w K mg base c "give_back" 3 m:=by
 unfold zav at h
 by_cases e0:c = "Runner"
 ·rw [if_pos e0] at h;cases h;rw [e0];exact (zdh T).mono (by decide)
 rw [if_neg e0] at h
 cases h
theorem zeP:FnScope ["self", "block"] ["self", "block"] (defScope zci):=⟨rfl,rfl,rfl,by decide +kernel,rfl,by decide +kernel,by decide +kernel⟩
def zcv:PEnv→Mo Fl :=
  (sFld "place" insOf (mVar 0) (mC (.int 0)))
def zdD:PEnv→Mo Fl :=
  sSeq (sFld "block" insOf (mVar 0) (mVar 1)) (zcv)
def m_Frame_enter:List PV→Mo PV:=mirror 2 2 (zdD)
theorem zeQ (T:Txt w K mg):MOk P w K mg base "Frame" "enter" 1 m_Frame_enter:=T.m_Frame_enter.ok (k:=0) zeP fun f cdv A outer s H E hr =>
  by
 refine ze ?_ ?_
 refine zcy T.d_block ?_ ?_
 exact (zc 0)
 exact (zc 1)
 refine zh ?_
 refine zcy T.d_place ?_ ?_
 exact (zc 0)
 exact zg
def zca (c:Str):Option (List PV→Mo PV):=if c = "Frame" then some m_Frame_enter else none
theorem zfq (T:Txt w K mg) {c:Str} {m:List PV→Mo PV} (h:zca c=some m):MOk P w K mg base c "enter" 1 m:=by
 unfold zca at h
 by_cases e0:c = "Frame"
 ·rw [if_pos e0] at h;cases h;rw [e0];exact (zeQ T).mono (by decide)
 rw [if_neg e0] at h
 cases h
theorem zed:FnScope ["value"] ["value"] (defScope zbr):=⟨rfl,rfl,rfl,by decide +kernel,rfl,by decide +kernel,by decide +kernel⟩
def zbS:PEnv→Mo Fl :=
  (sRet (mOp oNe (mVar 0) (mC (.int 0))))
def zcP:PEnv→Mo Fl :=
  sSeq (sExpr (mCall m_check_kinds (aCons (mTup (aCons (mC (.str "number")) aNil)) (aCons (mTup (aCons (mVar 0) aNil)) aNil)))) (zbS)
def m_chooses_first:List PV→Mo PV:=mirror 1 1 (zcP)
theorem zee (T:Txt w K mg):FOk P w K mg base "chooses_first" 4 m_chooses_first:=T.f_chooses_first.ok (k:=3) zed fun f cdv A outer s H E hr =>
  by
 refine ze ?_ ?_
 refine zaD ?_
 refine zH (zc1 T) (hr.mono (by decide)) zj ?_
 refine zb ?_ ?_ ?_
 refine zV ?_
 refine zb ?_ ?_ ?_
 exact zD
 exact zf
 exact zl
 refine zb ?_ ?_ ?_
 refine zV ?_
 refine zb ?_ ?_ ?_
 exact (zc 0)
 exact zf
 exact zd
 exact zf
 exact zdr
 exact zdr
 refine zh ?_
 refine zw ?_
 refine zez (zo0 (zp hr)) ?_ ?_
 exact (zc 0)
 exact zg
theorem zaU:FnScope ["self", "frame", "line"] ["self"] (defScope za9):=⟨rfl,rfl,rfl,by decide +kernel,rfl,by decide +kernel,by decide +kernel⟩
def zq:PEnv→Mo Fl :=
  (sIf (mB (mOp oEq (mOp oIxD (mVar 2) (mC (.int 0))) (mC (.str "let"))))
  (sExpr (mMeth "end_step" zan (mVar 1) (aCons (mMeth "answer" zbC (mCall m_op_of (aCons (mOp oIxD (mVar 2) (mC (.int 2))) aNil)) (aCons (mMeth "values_by" zU (mVar 1) (aCons (mOp oIxD (mVar 2) (mC (.int 3))) aNil)) aNil)) aNil)))
  (sIf (mB (mOp oEq (mOp oIxD (mVar 2) (mC (.int 0))) (mC (.str "call"))))
  (sExpr (mMeth "begin" zbl (mVar 0) (aCons (mOp oIxD (mVar 2) (mC (.int 2))) (aCons (mMeth "values_by" zU (mVar 1) (aCons (mOp oIxD (mVar 2) (mC (.int 3))) aNil)) aNil))))
  (sIf (mB (mOp oEq (mOp oIxD (mVar 2) (mC (.int 0))) (mC (.str "give"))))
  (sExpr (mMeth "give_back" zav (mVar 0) (aCons (mMeth "value_of" zJ (mVar 1) (aCons (mOp oIxD (mVar 2) (mC (.int 1))) aNil)) aNil)))
  (sIf (mB (mOp oEq (mOp oIxD (mVar 2) (mC (.int 0))) (mC (.str "go"))))
  (sSeq (sExpr (mUn oPop (mUn (fldAt "frames" insOf excOf) (mVar 0))))
  (sExpr (mMeth "begin" zbl (mVar 0) (aCons (mOp oIxD (mVar 2) (mC (.int 1))) (aCons (mMeth "values_by" zU (mVar 1) (aCons (mOp oIxD (mVar 2) (mC (.int 2))) aNil)) aNil)))))
  (sIf (mB (mOp oEq (mOp oIxD (mVar 2) (mC (.int 0))) (mC (.str "if"))))
  (sExpr (mMeth "enter" zca (mVar 1) (aCons (mIf (mB (mCall m_chooses_first (aCons (mMeth "value_of" zJ (mVar 1) (aCons (mOp oIxD (mVar 2) (mC (.int 1))) aNil)) aNil))) (mOp oIxD (mVar 2) (mC (.int 2))) (mOp oIxD (mVar 2) (mC (.int 3)))) aNil)))
  (sRaise "Fault" "word" (mOp oIxD (mVar 2) (mC (.int 1)))))))))
def zbE:PEnv→Mo Fl :=
  sSeq (sSet 2 (mMeth "line_here" zT (mVar 1) aNil)) (zq)
def zbd:PEnv→Mo Fl :=
  sSeq (sSet 1 (mOp oIxD (mUn (fldAt "frames" insOf excOf) (mVar 0)) (mUn oNeg (mC (.int 1))))) (zbE)
def m_Runner_go_line:List PV→Mo PV:=mirror 1 3 (zbd)
theorem zd2 (T:Txt w K mg):MOk P w K mg base "Runner" "go_line" 6 m_Runner_go_line:=T.m_Runner_go_line.ok (k:=5) zaU fun f cdv A outer s H E hr =>
  by
 refine ze ?_ ?_
 refine zL 1 ?_ ?_ ?_ ?_ ?_ ?_
 refine zak ?_ ?_ ?_ ?_
 exact (zo (zp hr))
 refine zcx T.d_frames ?_
 exact (zc 0)
 refine znM ziG ?_
 exact zg
 exact fun _ _=>rfl
 exact zaU.nd
 rfl
 first|exact Or.inl rfl|exact Or.inr rfl
 rfl
 first|exact .inl rfl|exact .inr rfl|assumption
 refine ze ?_ ?_
 refine zL 2 ?_ ?_ ?_ ?_ ?_ ?_
 refine zff (fun c m h=>zb8 T h) ?_ (hr.mono (by decide)) zj
 exact (zc 1)
 exact zaU.nd
 rfl
 first|exact Or.inl rfl|exact Or.inr rfl
 rfl
 first|exact .inl rfl|exact .inr rfl|assumption
 refine zh ?_
 refine zW ?_ ?_ ?_
 refine zP (zdH (zp hr)) ?_ ?_
 refine zak ?_ ?_ ?_ ?_
 exact (zo (zp hr))
 exact (zc 2)
 exact zg
 exact fun _ _=>rfl
 exact zD
 refine zh ?_
 refine zaD ?_
 refine zb1 (fun c m h=>zct T h) ?_ (hr.mono (by decide)) zj ?_
 exact (zc 1)
 refine zb ?_ ?_ ?_
 refine zb1 (fun c m h=>zeM T h) ?_ (hr.mono (by decide)) zj ?_
 refine zH (zkF T) (hr.mono (by decide)) zj ?_
 refine zb ?_ ?_ ?_
 refine zak ?_ ?_ ?_ ?_
 exact (zo (zp hr))
 exact (zc 2)
 exact zg
 exact fun _ _=>rfl
 exact zf
 exact zm
 refine zb ?_ ?_ ?_
 refine zb1 (fun c m h=>zaT T h) ?_ (hr.mono (by decide)) zj ?_
 exact (zc 1)
 refine zb ?_ ?_ ?_
 refine zak ?_ ?_ ?_ ?_
 exact (zo (zp hr))
 exact (zc 2)
 exact zg
 exact fun _ _=>rfl
 exact zf
 exact zm
 exact zf
 exact zab
 exact zf
 exact zab
 refine zh ?_
 refine zW ?_ ?_ ?_
 refine zP (zdH (zp hr)) ?_ ?_
 refine zak ?_ ?_ ?_ ?_
 exact (zo (zp hr))
 exact (zc 2)
 exact zg
 exact fun _ _=>rfl
 exact zD
 refine zh ?_
 refine zaD ?_
 refine zb1 (fun c m h=>zdC T h) ?_ (hr.mono (by decide)) zj ?_
 exact (zc 0)
 refine zb ?_ ?_ ?_
 refine zak ?_ ?_ ?_ ?_
 exact (zo (zp hr))
 exact (zc 2)
 exact zg
 exact fun _ _=>rfl
 refine zb ?_ ?_ ?_
 refine zb1 (fun c m h=>zaT T h) ?_ (hr.mono (by decide)) zj ?_
 exact (zc 1)
 refine zb ?_ ?_ ?_
 refine zak ?_ ?_ ?_ ?_
 exact (zo (zp hr))
 exact (zc 2)
 exact zg
 exact fun _ _=>rfl
 exact zf
 exact zm
 exact zf
 exact zab
 exact zm
 refine zh ?_
 refine zW ?_ ?_ ?_
 refine zP (zdH (zp hr)) ?_ ?_
 refine zak ?_ ?_ ?_ ?_
 exact (zo (zp hr))
 exact (zc 2)
 exact zg
 exact fun _ _=>rfl
 exact zD
 refine zh ?_
 refine zaD ?_
 refine zb1 (fun c m h=>zd1 T h) ?_ (hr.mono (by decide)) zj ?_
 exact (zc 0)
 refine zb ?_ ?_ ?_
 refine zb1 (fun c m h=>zbc T h) ?_ (hr.mono (by decide)) zj ?_
 exact (zc 1)
 refine zb ?_ ?_ ?_
 refine zak ?_ ?_ ?_ ?_
 exact (zo (zp hr))
 exact (zc 2)
 exact zg
 exact fun _ _=>rfl
 exact zf
 exact zm
 exact zf
 exact zab
 refine zh ?_
 refine zW ?_ ?_ ?_
 refine zP (zdH (zp hr)) ?_ ?_
 refine zak ?_ ?_ ?_ ?_
 exact (zo (zp hr))
 exact (zc 2)
 exact zg
 exact fun _ _=>rfl
 exact zD
 refine ze ?_ ?_
 refine zaD ?_
 refine zn6 ?_
 refine zcx T.d_frames ?_
 exact (zc 0)
 refine zh ?_
 refine zaD ?_
 refine zb1 (fun c m h=>zdC T h) ?_ (hr.mono (by decide)) zj ?_
 exact (zc 0)
 refine zb ?_ ?_ ?_
 refine zak ?_ ?_ ?_ ?_
 exact (zo (zp hr))
 exact (zc 2)
 exact zg
 exact fun _ _=>rfl
 refine zb ?_ ?_ ?_
 refine zb1 (fun c m h=>zaT T h) ?_ (hr.mono (by decide)) zj ?_
 exact (zc 1)
 refine zb ?_ ?_ ?_
 refine zak ?_ ?_ ?_ ?_
 exact (zo (zp hr))
 exact (zc 2)
 exact zg
 exact fun _ _=>rfl
 exact zf
 exact zm
 exact zf
 exact zab
 exact zm
 refine zh ?_
 refine zW ?_ ?_ ?_
 refine zP (zdH (zp hr)) ?_ ?_
 refine zak ?_ ?_ ?_ ?_
 exact (zo (zp hr))
 exact (zc 2)
 exact zg
 exact fun _ _=>rfl
 exact zD
 refine zh ?_
 refine zaD ?_
 refine zb1 (fun c m h=>zfq T h) ?_ (hr.mono (by decide)) zj ?_
 exact (zc 1)
 refine zb ?_ ?_ ?_
 refine zlW ?_ ?_ ?_
 refine zaC ?_
 refine zH (zee T) (hr.mono (by decide)) zj ?_
 refine zb ?_ ?_ ?_
 refine zb1 (fun c m h=>zbc T h) ?_ (hr.mono (by decide)) zj ?_
 exact (zc 1)
 refine zb ?_ ?_ ?_
 refine zak ?_ ?_ ?_ ?_
 exact (zo (zp hr))
 exact (zc 2)
 exact zg
 exact fun _ _=>rfl
 exact zf
 exact zm
 exact zf
 exact zab
 refine zak ?_ ?_ ?_ ?_
 exact (zo (zp hr))
 exact (zc 2)
 exact zg
 exact fun _ _=>rfl
 refine zak ?_ ?_ ?_ ?_
 exact (zo (zp hr))
 exact (zc 2)
 exact zg
 exact fun _ _=>rfl
 exact zf
 exact zku
 refine zh ?_
 refine zdp (zcT T) ?_ (hr.mono (by decide)) zj rfl
 refine zak ?_ ?_ ?_ ?_
 exact (zo (zp hr))
 exact (zc 2)
 exact zg
 exact fun _ _=>rfl
def zQ (c:Str):Option (List PV→Mo PV):=if c = "Runner" then some m_Runner_go_line else none
theorem zeI (T:Txt w K mg) {c:Str} {m:List PV→Mo PV} (h:zQ c=some m):MOk P w K mg base c "go_line" 6 m:=by
 unfold zQ at h
 by_cases e0:c = "Runner"
 ·rw [if_pos e0] at h;cases h;rw [e0];exact (zd2 T).mono (by decide)
 rw [if_neg e0] at h
 cases h
theorem zf7:FnScope ["program", "inputs", "budget", "runner", "steps", "fault"] ["program", "inputs", "budget"] (defScope zmG):=⟨rfl,rfl,rfl,by decide +kernel,rfl,by decide +kernel,by decide +kernel⟩
def zhc:PEnv→Mo Fl :=
  (sRet (mTup (aCons (mC (.str "out")) (aCons (mC .non) (aCons (mVar 2) aNil)))))
def zfr:PEnv→Mo Fl :=
  sSeq (sWhile (mB (mOp oLt (mVar 4) (mVar 2)))
  (sSeq (sAug 4 ipAdd (mC (.int 1)))
  (sSeq (sTryE 5 "Fault" (xMeth "go_line" zQ (mVar 3) aNil)
  (sRet (mTup (aCons (mC (.str "fault")) (aCons (mUn (fldAt "word" insOf excOf) (mVar 5)) (aCons (mVar 4) aNil))))))
  (sIf (mB (mMeth "at_rest" zY (mVar 3) aNil))
  (sRet (mTup (aCons (mC (.str "told")) (aCons (mUn (fldAt "told" insOf excOf) (mVar 3)) (aCons (mVar 4) aNil)))))
  sNext)))) (zhc)
def zfs:PEnv→Mo Fl :=
  sSeq (sSet 4 (mC (.int 0))) (zfr)
def zjp:PEnv→Mo Fl :=
  sSeq (sSet 3 (mCall (newI "Runner" m_Runner___init__) (aCons (mVar 0) (aCons (mVar 1) aNil)))) (zfs)
def m_run:List PV→Mo PV:=mirror 3 6 (zjp)
theorem zlg (T:Txt w K mg):FOk P w K mg base "run" 7 m_run:=T.f_run.ok (k:=6) zf7 fun f cdv A outer s H E hr =>
  by
 refine ze ?_ ?_
 refine zL 3 ?_ ?_ ?_ ?_ ?_ ?_
 refine zg0 (zdy T) (hr.mono (by decide)) zj ?_
 refine zb ?_ ?_ ?_
 exact (zc 0)
 refine zb ?_ ?_ ?_
 exact (zc 1)
 exact zf
 exact zd
 exact zd
 exact zf7.nd
 rfl
 first|exact Or.inl rfl|exact Or.inr rfl
 rfl
 first|exact .inl rfl|exact .inr rfl|assumption
 refine ze ?_ ?_
 refine zL 4 ?_ ?_ ?_ ?_ ?_ ?_
 exact zg
 exact zf7.nd
 rfl
 first|exact Or.inl rfl|exact Or.inr rfl
 rfl
 first|exact .inl rfl|exact .inr rfl|assumption
 refine ze ?_ ?_
 refine zg2 (zbm rfl rfl) ?_ ?_
 refine zP zjM ?_ ?_
 exact (zc 4)
 exact (zc 2)
 refine ze ?_ ?_
 refine zk8 4 ziO ?_ zf7.nd
 exact zg
 refine ze ?_ ?_
 refine zmu 5 T.x_Fault.tr ?_ ?_ zf7.nd
 refine zkw (fun c m h=>zeI T h) ?_ (hr.mono (by decide))
 exact (zc 3)
 intro _
 refine zh ?_
 refine zw ?_
 refine zV ?_
 refine zb ?_ ?_ ?_
 exact zD
 refine zb ?_ ?_ ?_
 refine zcx T.d_word ?_
 exact (zc 5)
 refine zb ?_ ?_ ?_
 exact (zc 4)
 exact zf
 exact zd
 exact zcz
 exact zl
 refine zh ?_
 refine zW ?_ ?_ ?_
 refine zaC ?_
 refine zff (fun c m h=>zcO T h) ?_ (hr.mono (by decide)) zj
 exact (zc 3)
 refine zh ?_
 refine zw ?_
 refine zV ?_
 refine zb ?_ ?_ ?_
 exact zD
 refine zb ?_ ?_ ?_
 refine zcx T.d_told ?_
 exact (zc 3)
 refine zb ?_ ?_ ?_
 exact (zc 4)
 exact zf
 exact zd
 exact zcz
 exact zl
 exact zB
 refine zh ?_
 refine zw ?_
 refine zV ?_
 refine zb ?_ ?_ ?_
 exact zD
 refine zb ?_ ?_ ?_
 exact zfL
 refine zb ?_ ?_ ?_
 exact (zc 2)
 exact zf
 exact zd
 exact zl
 exact zl
theorem zdE:FnScope ["_law_value_here"] ["_law_value_here"] (defScope zbK):=⟨rfl,rfl,rfl,by decide +kernel,rfl,by decide +kernel,by decide +kernel⟩
def zaI (mr:List PV→Mo PV):PEnv→Mo Fl :=
  (sRet (mOr (mOp oIsB (mVar 0) (mC .non)) (mOr (mCall (oIsi isT) (aCons (mVar 0) (aCons (mC (.ty "str")) aNil))) (mAnd (mCall (oIsi isT) (aCons (mVar 0) (aCons (mC (.ty "int")) aNil))) (mNot (mCall (oIsi isT) (aCons (mVar 0) (aCons (mC (.ty "bool")) aNil))))))))
def zaA (mr:List PV→Mo PV):PEnv→Mo Fl :=
  sSeq (sIf (mB (mCall (oIsi isT) (aCons (mVar 0) (aCons (mC (.ty "tuple")) aNil))))
  (sRet (mCall oAll (aCons (mComp (iVal (mVar 0)) (mCall mr (aCons (mVar 0) aNil))) aNil)))
  sNext) (zaI mr)
def za4 (mr:List PV→Mo PV):List PV→Mo PV:=mirror 1 1 (zaA mr)
theorem zft (T:Txt w K mg) {k:Nat} (hk:1≤k) {mr:List PV→Mo PV} (hmr:FOk P w K mg base "_law_plain" k mr):FOk P w K mg base "_law_plain" (k+1) (za4 mr):=T.f__law_plain.ok (k:=k+0) zdE fun f cdv A outer s H E hr =>
  by
 refine ze ?_ ?_
 refine zW ?_ ?_ ?_
 refine zaC ?_
 refine zat (zdo T.is) T.b_isinstance zA ?_
 refine zb ?_ ?_ ?_
 exact (zc 0)
 refine zb ?_ ?_ ?_
 exact (zgZ T.b_tuple zaE)
 exact zf
 exact zd
 exact zd
 refine zh ?_
 refine zw ?_
 refine zat (zps rfl) T.b_all zoe ?_
 refine zb ?_ ?_ ?_
 refine zfQ (N:=["_law_value_here"]) rfl (by exact ⟨rfl,by decide +kernel,by decide +kernel,rfl,by show ∀y:Str×NameKind,y∈_→y.2=NameKind.free→List.lookup y.1 (defScope zbK).names=some NameKind.cell;decide +kernel⟩) rfl (by decide +kernel) ?_ ?_
 refine zeW ?_
 exact (zc 0)
 intro _ _ _ _ _
 refine zH hmr (hr.mono (by omega)) zb4 ?_
 refine zb ?_ ?_ ?_
 exact (zc 0)
 exact zf
 exact zd
 exact zf
 exact zbo
 exact zB
 refine zh ?_
 refine zw ?_
 refine znK ?_ ?_
 refine zez zpr ?_ ?_
 exact (zc 0)
 exact zfL
 refine znK ?_ ?_
 refine zat (zdo T.is) T.b_isinstance zA ?_
 refine zb ?_ ?_ ?_
 exact (zc 0)
 refine zb ?_ ?_ ?_
 exact (zgZ T.b_str zla)
 exact zf
 exact zd
 exact zd
 refine ziF ?_
 refine zk6 ?_ ?_
 refine zat (zdo T.is) T.b_isinstance zA ?_
 refine zb ?_ ?_ ?_
 exact (zc 0)
 refine zb ?_ ?_ ?_
 exact (zgZ T.b_int zfP)
 exact zf
 exact zd
 exact zd
 refine ziF ?_
 refine znL ?_
 refine zat (zdo T.is) T.b_isinstance zA ?_
 refine zb ?_ ?_ ?_
 exact (zc 0)
 refine zb ?_ ?_ ?_
 exact (zgZ T.b_bool zmk)
 exact zf
 exact zd
 exact zd
def zt:Nat→List PV→Mo PV
 | 0=>mirror 1 1 sStuck
 | n+1=>za4 (zt n)
theorem zcb (T:Txt w K mg):∀n,FOk P w K mg base "_law_plain" (1+1+1*n) (zt n)
 | 0=>T.f__law_plain.ok (k:=1) zdE fun f cdv A outer s H E hr=>zfV
 | n+1=>(zft T (by omega) (zcb T n)).mono (by omega)
theorem zbh:FnScope ["_law_script", "_law_many", "_law_names", "_law_inputs", "_law_steps", "_law_k", "_law_cell", "_law_op", "_law_atoms", "_law_last", "_law_budget", "_law_program", "_law_things", "_law_name_here", "_law_value_here", "_law_due_here", "_law_found"] ["_law_script"] (defScope zhU):=⟨rfl,rfl,rfl,by decide +kernel,rfl,by decide +kernel,by decide +kernel⟩
def zf8:PEnv→Mo Fl :=
  (sRet (mAnd (mOp oEq (mVar 16) (mVar 15)) (mOp oEq (mCall m_run (aCons (mVar 11) (aCons (mVar 3) (aCons (mVar 10) aNil)))) (mVar 15))))
def zf9:PEnv→Mo Fl :=
  sSeq (sIf (bOr (bNot (mB (mCall (oIsi isT) (aCons (mVar 16) (aCons (mC (.ty "tuple")) aNil))))) (bNot (mB (mCall (zt 64) (aCons (mVar 16) aNil)))))
  (sRet (mC (.bl false)))
  sNext) (zf8)
def zga:PEnv→Mo Fl :=
  sSeq (sSet 16 (mCall m_run (aCons (mVar 11) (aCons (mVar 3) (aCons (mVar 10) aNil))))) (zf9)
def zgb:PEnv→Mo Fl :=
  sSeq (sSet 15 (mCall m__law_due (aCons (mVar 4) (aCons (mVar 9) (aCons (mVar 12) (aCons (mVar 10) aNil)))))) (zga)
def zgc:PEnv→Mo Fl :=
  sSeq (sForZ (aCons (mVar 2) (aCons (mVar 3) aNil)) (g2 13 14)
  (sDPutM (mVar 12) (mVar 13) (mVar 14))) (zgb)
def zhd:PEnv→Mo Fl :=
  sSeq (sSet 12 mDNew) (zgc)
def zhe:PEnv→Mo Fl :=
  sSeq (sSet 11 (mTup (aCons (mTup (aCons (mCall m__law_name (aCons (mVar 0) (aCons (mC (.int 24)) aNil))) (aCons (mCall oTuple (aCons (mSl (mVar 2) pNone (pSome (mVar 1))) aNil)) (aCons (mTup (aCons (mCall oTuple (aCons (mVar 4) aNil)) (aCons (mTup (aCons (mC (.str "give")) (aCons (mVar 9) aNil))) aNil))) aNil)))) aNil))) (zhd)
def zhf:PEnv→Mo Fl :=
  sSeq (sIf (mB (mOp oEq (mOp oMod (mOp oDiv (mCall m__law_cell_at (aCons (mVar 0) (aCons (mC (.int 9)) aNil))) (mC (.int 16))) (mC (.int 5))) (mC (.int 1))))
  (sSet 10 (mOp oMod (mOp oDiv (mCall m__law_cell_at (aCons (mVar 0) (aCons (mC (.int 9)) aNil))) (mC (.int 80))) (mOp oAdd (mCall oLen (aCons (mVar 4) aNil)) (mC (.int 1)))))
  sNext) (zhe)
def zhg:PEnv→Mo Fl :=
  sSeq (sSet 10 (mOp oAdd (mCall oLen (aCons (mVar 4) aNil)) (mOp oIxD (mLst (aCons (mC (.int 1)) (aCons (mC (.int 9)) (aCons (mC (.int 300)) (aCons (mC (.int 0)) aNil))))) (mOp oMod (mOp oDiv (mCall m__law_cell_at (aCons (mVar 0) (aCons (mC (.int 9)) aNil))) (mC (.int 4))) (mC (.int 4)))))) (zhf)
def zhh:PEnv→Mo Fl :=
  sSeq (sSet 9 (mCall m__law_atom (aCons (mCall m__law_cell_at (aCons (mVar 0) (aCons (mC (.int 9)) aNil))) (aCons (mVar 2) aNil)))) (zhg)
def zhi:PEnv→Mo Fl :=
  sSeq (sForE (aCons (mSl (mVar 0) (pSome (mC (.int 10))) (pSome (mC (.int 50)))) aNil) (g2 5 6)
  (sSeq (sSet 7 (mOp oIxD (mLst (aStrs ["add", "sub", "mul", "less", "same", "front"])) (mOp oMod (mVar 6) (mC (.int 6)))))
  (sSeq (sSet 8 (mTup (aCons (mCall m__law_atom (aCons (mOp oDiv (mVar 6) (mC (.int 6))) (aCons (mVar 2) aNil))) (aCons (mCall m__law_atom (aCons (mOp oDiv (mVar 6) (mC (.int 1009))) (aCons (mVar 2) aNil))) aNil))))
  (sSeq (sExpr (mMut oAppend (mVar 2) (mCall m__law_name (aCons (mVar 0) (aCons (mOp oAdd (mVar 1) (mVar 5)) aNil)))))
  (sExpr (mMut oAppend (mVar 4) (mTup (aCons (mC (.str "let")) (aCons (mOp oIxD (mVar 2) (mUn oNeg (mC (.int 1)))) (aCons (mVar 7) (aCons (mVar 8) aNil))))))))))) (zhh)
def zhj:PEnv→Mo Fl :=
  sSeq (sSet 4 (mLst aNil)) (zhi)
def zhk:PEnv→Mo Fl :=
  sSeq (sSet 3 (mCall oTuple (aCons (mComp (iRng1 (aCons (mVar 1) aNil)) (mCall m__law_value (aCons (mCall m__law_cell_at (aCons (mVar 1) (aCons (mOp oAdd (mC (.int 3)) (mVar 0)) aNil))) aNil))) aNil))) (zhj)
def zhl:PEnv→Mo Fl :=
  sSeq (sSet 2 (mComp (iRng1 (aCons (mVar 1) aNil)) (mCall m__law_name (aCons (mVar 1) (aCons (mVar 0) aNil))))) (zhk)
def zmH:PEnv→Mo Fl :=
  sSeq (sSet 1 (mOp oMod (mCall m__law_cell_at (aCons (mVar 0) (aCons (mC (.int 2)) aNil))) (mC (.int 7)))) (zhl)
def zoi:List PV→Mo PV:=mirror 1 17 (zmH)
theorem zkG (T:Txt w K mg) {f:Addr} {fd:FuncData} (F:Fun K "law" "law" zhU f fd):FnOk P w K mg base (CXe P w) 69 f fd ["_law_script"] (spM K mg zoi):=zg4 (k:=68) F zbh fun cdv A outer s H E hr =>
  by
 refine ze ?_ ?_
 refine zL 1 ?_ ?_ ?_ ?_ ?_ ?_
 refine zF zce ?_ ?_
 refine zH (zK T) (hr.mono (by decide)) zj ?_
 refine zb ?_ ?_ ?_
 exact (zc 0)
 refine zb ?_ ?_ ?_
 exact zg
 exact zf
 exact zl
 exact zd
 exact zg
 exact zbh.nd
 rfl
 first|exact Or.inl rfl|exact Or.inr rfl
 rfl
 first|exact .inl rfl|exact .inr rfl|assumption
 refine ze ?_ ?_
 refine zgz 2 (M:=["_law_script", "_law_many", "_law_names", "_law_inputs", "_law_steps", "~_law_k", "_law_cell", "_law_op", "_law_atoms", "_law_last", "_law_budget", "_law_program", "_law_things", "_law_name_here", "_law_value_here", "_law_due_here", "_law_found"]) rfl (by exact ⟨rfl,by decide +kernel,by decide +kernel,rfl,by show ∀y:Str×NameKind,y∈_→y.2=NameKind.free→List.lookup y.1 (defScope zhU).names=some NameKind.cell;decide +kernel⟩) (by exact ⟨rfl,by show ∀p∈List.zip (["_law_script", "_law_many", "_law_names", "_law_inputs", "_law_steps", "~_law_k", "_law_cell", "_law_op", "_law_atoms", "_law_last", "_law_budget", "_law_program", "_law_things", "_law_name_here", "_law_value_here", "_law_due_here", "_law_found"]:List Str) (["_law_script", "_law_many", "_law_names", "_law_inputs", "_law_steps", "_law_k", "_law_cell", "_law_op", "_law_atoms", "_law_last", "_law_budget", "_law_program", "_law_things", "_law_name_here", "_law_value_here", "_law_due_here", "_law_found"]:List Str),p.1=p.2∨p.1∉(_:List Str);decide +kernel⟩) (by decide +kernel) ?_ ?_ zbh.nd rfl (by first|exact Or.inl rfl|exact Or.inr rfl) (by first|exact .inl rfl|exact .inr rfl|assumption) (by rfl)
 refine zeC T.b_range ?_
 refine zb ?_ ?_ ?_
 exact (zc 1)
 exact zf
 exact zd
 intro _ _ _ _ _
 refine zH (zcC T) (hr.mono (by decide)) zb4 ?_
 refine zb ?_ ?_ ?_
 exact (zc 1)
 refine zb ?_ ?_ ?_
 exact (zc 0)
 exact zf
 exact zd
 exact zd
 refine ze ?_ ?_
 refine zL 3 ?_ ?_ ?_ ?_ ?_ ?_
 refine zd5 zeB T.b_tuple zaE ?_
 refine zb ?_ ?_ ?_
 refine zi1 (M:=["_law_script", "_law_many", "_law_names", "_law_inputs", "_law_steps", "~_law_k", "_law_cell", "_law_op", "_law_atoms", "_law_last", "_law_budget", "_law_program", "_law_things", "_law_name_here", "_law_value_here", "_law_due_here", "_law_found"]) rfl (by exact ⟨rfl,by decide +kernel,by decide +kernel,rfl,by show ∀y:Str×NameKind,y∈_→y.2=NameKind.free→List.lookup y.1 (defScope zhU).names=some NameKind.cell;decide +kernel⟩) (by exact ⟨rfl,by show ∀p∈List.zip (["_law_script", "_law_many", "_law_names", "_law_inputs", "_law_steps", "~_law_k", "_law_cell", "_law_op", "_law_atoms", "_law_last", "_law_budget", "_law_program", "_law_things", "_law_name_here", "_law_value_here", "_law_due_here", "_law_found"]:List Str) (["_law_script", "_law_many", "_law_names", "_law_inputs", "_law_steps", "_law_k", "_law_cell", "_law_op", "_law_atoms", "_law_last", "_law_budget", "_law_program", "_law_things", "_law_name_here", "_law_value_here", "_law_due_here", "_law_found"]:List Str),p.1=p.2∨p.1∉(_:List Str);decide +kernel⟩) (by decide +kernel) ?_ ?_
 refine zeC T.b_range ?_
 refine zb ?_ ?_ ?_
 exact (zc 1)
 exact zf
 exact zd
 intro _ _ _ _ _
 refine zH (zdu T) (hr.mono (by decide)) zb4 ?_
 refine zb ?_ ?_ ?_
 refine zH (zK T) (hr.mono (by decide)) zb4 ?_
 refine zb ?_ ?_ ?_
 exact (zc 1)
 refine zb ?_ ?_ ?_
 refine zF zcw ?_ ?_
 exact zg
 exact (zc 0)
 exact zf
 exact zaw
 exact zd
 exact zf
 exact zab
 exact zf
 exact zbo
 exact zbh.nd
 rfl
 first|exact Or.inl rfl|exact Or.inr rfl
 rfl
 first|exact .inl rfl|exact .inr rfl|assumption
 refine ze ?_ ?_
 refine zL 4 ?_ ?_ ?_ ?_ ?_ ?_
 refine zey ?_
 exact zf
 exact zbh.nd
 rfl
 first|exact Or.inl rfl|exact Or.inr rfl
 rfl
 first|exact .inl rfl|exact .inr rfl|assumption
 refine ze ?_ ?_
 refine zmw (zbm rfl rfl) rfl T.b_enumerate ?_ ?_ ?_
 refine zb ?_ ?_ ?_
 refine zfe ?_ ?_ ?_
 exact (zc 0)
 refine zeA ?_
 exact zg
 refine zeA ?_
 exact zg
 exact zf
 exact zm
 exact (zox 5 6 rfl zbh.nd)
 refine ze ?_ ?_
 refine zL 7 ?_ ?_ ?_ ?_ ?_ ?_
 refine zak ?_ ?_ ?_ ?_
 exact (zo (zp hr))
 refine zey ?_
 refine zjf ?_
 decide +kernel
 refine zF zce ?_ ?_
 exact (zc 6)
 exact zg
 exact fun _ _=>rfl
 exact zbh.nd
 rfl
 first|exact Or.inl rfl|exact Or.inr rfl
 rfl
 first|exact .inl rfl|exact .inr rfl|assumption
 refine ze ?_ ?_
 refine zL 8 ?_ ?_ ?_ ?_ ?_ ?_
 refine zV ?_
 refine zb ?_ ?_ ?_
 refine zH (zcE T) (hr.mono (by decide)) zj ?_
 refine zb ?_ ?_ ?_
 refine zF zdK ?_ ?_
 exact (zc 6)
 exact zg
 refine zb ?_ ?_ ?_
 exact (zc 2)
 exact zf
 exact zd
 exact zaw
 refine zb ?_ ?_ ?_
 refine zH (zcE T) (hr.mono (by decide)) zj ?_
 refine zb ?_ ?_ ?_
 refine zF zdK ?_ ?_
 exact (zc 6)
 exact zg
 refine zb ?_ ?_ ?_
 exact (zc 2)
 exact zf
 exact zd
 exact zaw
 exact zf
 exact zab
 exact zab
 exact zbh.nd
 rfl
 first|exact Or.inl rfl|exact Or.inr rfl
 rfl
 first|exact .inl rfl|exact .inr rfl|assumption
 refine ze ?_ ?_
 refine zaD ?_
 refine zfg ?_ ?_
 exact (zc 2)
 refine zH (zcC T) (hr.mono (by decide)) zj ?_
 refine zb ?_ ?_ ?_
 exact (zc 0)
 refine zb ?_ ?_ ?_
 refine zF zcw ?_ ?_
 exact (zc 1)
 exact (zc 5)
 exact zf
 exact zaw
 exact zd
 refine zh ?_
 refine zaD ?_
 refine zfg ?_ ?_
 exact (zc 4)
 refine zV ?_
 refine zb ?_ ?_ ?_
 exact zD
 refine zb ?_ ?_ ?_
 refine zak ?_ ?_ ?_ ?_
 exact (zo (zp hr))
 exact (zc 2)
 refine znM ziG ?_
 exact zg
 exact fun _ _=>rfl
 refine zb ?_ ?_ ?_
 exact (zc 7)
 refine zb ?_ ?_ ?_
 exact (zc 8)
 exact zf
 exact zd
 exact zd
 exact zm
 exact zl
 refine ze ?_ ?_
 refine zL 9 ?_ ?_ ?_ ?_ ?_ ?_
 refine zH (zcE T) (hr.mono (by decide)) zj ?_
 refine zb ?_ ?_ ?_
 refine zH (zK T) (hr.mono (by decide)) zj ?_
 refine zb ?_ ?_ ?_
 exact (zc 0)
 refine zb ?_ ?_ ?_
 exact zg
 exact zf
 exact zl
 exact zd
 refine zb ?_ ?_ ?_
 exact (zc 2)
 exact zf
 exact zd
 exact zab
 exact zbh.nd
 rfl
 first|exact Or.inl rfl|exact Or.inr rfl
 rfl
 first|exact .inl rfl|exact .inr rfl|assumption
 refine ze ?_ ?_
 refine zL 10 ?_ ?_ ?_ ?_ ?_ ?_
 refine zF zcw ?_ ?_
 refine zat zdm T.b_len zbG ?_
 refine zb ?_ ?_ ?_
 exact (zc 4)
 exact zf
 exact zd
 refine zak ?_ ?_ ?_ ?_
 exact (zo (zp hr))
 refine zey ?_
 refine zb ?_ ?_ ?_
 exact zg
 refine zb ?_ ?_ ?_
 exact zg
 refine zb ?_ ?_ ?_
 exact zg
 refine zb ?_ ?_ ?_
 exact zg
 exact zf
 exact zl
 exact zl
 exact zl
 exact zl
 refine zF zce ?_ ?_
 refine zF zdK ?_ ?_
 refine zH (zK T) (hr.mono (by decide)) zj ?_
 refine zb ?_ ?_ ?_
 exact (zc 0)
 refine zb ?_ ?_ ?_
 exact zg
 exact zf
 exact zl
 exact zd
 exact zg
 exact zg
 exact fun _ _=>rfl
 exact zbh.nd
 rfl
 first|exact Or.inl rfl|exact Or.inr rfl
 rfl
 first|exact .inl rfl|exact .inr rfl|assumption
 refine ze ?_ ?_
 refine zW ?_ ?_ ?_
 refine zP (zdH (zp hr)) ?_ ?_
 refine zF zce ?_ ?_
 refine zF zdK ?_ ?_
 refine zH (zK T) (hr.mono (by decide)) zj ?_
 refine zb ?_ ?_ ?_
 exact (zc 0)
 refine zb ?_ ?_ ?_
 exact zg
 exact zf
 exact zl
 exact zd
 exact zg
 exact zg
 exact zg
 refine zh ?_
 refine zL 10 ?_ ?_ ?_ ?_ ?_ ?_
 refine zF zce ?_ ?_
 refine zF zdK ?_ ?_
 refine zH (zK T) (hr.mono (by decide)) zj ?_
 refine zb ?_ ?_ ?_
 exact (zc 0)
 refine zb ?_ ?_ ?_
 exact zg
 exact zf
 exact zl
 exact zd
 exact zg
 refine zF zcw ?_ ?_
 refine zat zdm T.b_len zbG ?_
 refine zb ?_ ?_ ?_
 exact (zc 4)
 exact zf
 exact zd
 exact zg
 exact zbh.nd
 rfl
 first|exact Or.inl rfl|exact Or.inr rfl
 rfl
 first|exact .inl rfl|exact .inr rfl|assumption
 exact zB
 refine ze ?_ ?_
 refine zL 11 ?_ ?_ ?_ ?_ ?_ ?_
 refine zV ?_
 refine zb ?_ ?_ ?_
 refine zV ?_
 refine zb ?_ ?_ ?_
 refine zH (zcC T) (hr.mono (by decide)) zj ?_
 refine zb ?_ ?_ ?_
 exact (zc 0)
 refine zb ?_ ?_ ?_
 exact zg
 exact zf
 exact zl
 exact zd
 refine zb ?_ ?_ ?_
 refine zd5 zeB T.b_tuple zaE ?_
 refine zb ?_ ?_ ?_
 refine zfe ?_ ?_ ?_
 exact (zc 2)
 exact zgv
 refine zeA ?_
 exact (zc 1)
 exact zf
 exact zm
 refine zb ?_ ?_ ?_
 refine zV ?_
 refine zb ?_ ?_ ?_
 refine zd5 zeB T.b_tuple zaE ?_
 refine zb ?_ ?_ ?_
 exact (zc 4)
 exact zf
 exact zd
 refine zb ?_ ?_ ?_
 refine zV ?_
 refine zb ?_ ?_ ?_
 exact zD
 refine zb ?_ ?_ ?_
 exact (zc 9)
 exact zf
 exact zd
 exact zl
 exact zf
 exact zdr
 exact zab
 exact zf
 exact zdr
 exact zab
 exact zab
 exact zf
 exact zdr
 exact zbh.nd
 rfl
 first|exact Or.inl rfl|exact Or.inr rfl
 rfl
 first|exact .inl rfl|exact .inr rfl|assumption
 refine ze ?_ ?_
 refine zL 12 ?_ ?_ ?_ ?_ ?_ ?_
 exact zlf
 exact zbh.nd
 rfl
 first|exact Or.inl rfl|exact Or.inr rfl
 rfl
 first|exact .inl rfl|exact .inr rfl|assumption
 refine ze ?_ ?_
 refine zmD (zbm rfl rfl) rfl T.b_zip ?_ ?_ ?_
 refine zb ?_ ?_ ?_
 exact (zc 2)
 refine zb ?_ ?_ ?_
 exact (zc 3)
 exact zf
 exact zd
 exact zd
 exact (zox 13 14 rfl zbh.nd)
 refine zh ?_
 refine zfi ?_ ?_ ?_ ?_ ?_
 exact (zp hr)
 exact (zc 12)
 exact (zc 13)
 exact (zc 14)
 rfl
 refine ze ?_ ?_
 refine zL 15 ?_ ?_ ?_ ?_ ?_ ?_
 refine zH (zgC T) (hr.mono (by decide)) zj ?_
 refine zb ?_ ?_ ?_
 exact (zc 4)
 refine zb ?_ ?_ ?_
 exact (zc 9)
 refine zb ?_ ?_ ?_
 exact (zc 12)
 refine zb ?_ ?_ ?_
 exact (zc 10)
 exact zf
 exact zd
 exact zd
 exact zd
 exact zd
 exact zbh.nd
 rfl
 first|exact Or.inl rfl|exact Or.inr rfl
 rfl
 first|exact .inl rfl|exact .inr rfl|assumption
 refine ze ?_ ?_
 refine zL 16 ?_ ?_ ?_ ?_ ?_ ?_
 refine zH (zlg T) (hr.mono (by decide)) zj ?_
 refine zb ?_ ?_ ?_
 exact (zc 11)
 refine zb ?_ ?_ ?_
 exact (zc 3)
 refine zb ?_ ?_ ?_
 exact (zc 10)
 exact zf
 exact zd
 exact zd
 exact zd
 exact zbh.nd
 rfl
 first|exact Or.inl rfl|exact Or.inr rfl
 rfl
 first|exact .inl rfl|exact .inr rfl|assumption
 refine ze ?_ ?_
 refine zW ?_ ?_ ?_
 refine znJ ?_
 refine zlV ?_ ?_
 refine zex ?_
 refine zaC ?_
 refine zat (zdo T.is) T.b_isinstance zA ?_
 refine zb ?_ ?_ ?_
 exact (zc 16)
 refine zb ?_ ?_ ?_
 exact (zgZ T.b_tuple zaE)
 exact zf
 exact zd
 exact zd
 refine ziD ?_
 refine zex ?_
 refine zaC ?_
 refine zH (zcb T 64) (hr.mono (by decide)) zj ?_
 refine zb ?_ ?_ ?_
 exact (zc 16)
 exact zf
 exact zd
 refine zh ?_
 refine zw ?_
 exact ziB
 exact zB
 refine zh ?_
 refine zw ?_
 refine zk6 ?_ ?_
 refine zez (zdH (zp hr)) ?_ ?_
 exact (zc 16)
 exact (zc 15)
 refine ziF ?_
 refine zez (zdH (zp hr)) ?_ ?_
 refine zH (zlg T) (hr.mono (by decide)) zj ?_
 refine zb ?_ ?_ ?_
 exact (zc 11)
 refine zb ?_ ?_ ?_
 exact (zc 3)
 refine zb ?_ ?_ ?_
 exact (zc 10)
 exact zf
 exact zd
 exact zd
 exact zd
 exact (zc 15)
end
end FK31
namespace FK31
open PySem L2 PySem.W Mi
theorem zfu (i j:Int) (h:0<j):modP i j=i%j:=by unfold modP;rw [if_pos h]
theorem zkH (i j:Int) (h:0<j):divP i j=i/j:=by unfold divP;rw [if_pos h]
theorem atI_get {α:Type} {l:List α} {k:Nat} {x:α} (h:l[k]?=some x):atI l (k:Int)=some x:=by
 obtain ⟨h1,h2⟩:=List.getElem?_eq_some_iff.mp h
 simp [atI,ixN,h1,h2]
theorem at0 {α:Type} (x:α) (r:List α):atI (x::r) 0=some x:=atI_get (k:=0) rfl
theorem at1 {α:Type} (x y:α) (r:List α):atI (x::y::r) 1=some y:=atI_get (k:=1) rfl
theorem at2 {α:Type} (x y z:α) (r:List α):atI (x::y::z::r) 2=some z:=atI_get (k:=2) rfl
theorem at3 {α:Type} (x y z u:α) (r:List α):atI (x::y::z::u::r) 3=some u:=atI_get (k:=3) rfl
theorem atL {α:Type} (l:List α) (x:α):atI (l++[x]) (-1)=some x:=by
 simp [atI,ixN]
 rw [if_pos (by omega),show (-1+((l.length:Int)+1)).toNat=l.length by omega]
 simp
abbrev FrO (b:Nat) (B:PV) (p:Nat):SO:=.ins "Frame" ["bound", "block", "place"] [.ref b,B,.int p]
abbrev RnO (F L:Nat) (T:PV):SO:=.ins "Runner" ["functions", "frames", "told"] [.ref F,.ref L,T]
abbrev OpO (w:Str) (k:Int):SO:=.ins "Op" ["word", "many"] [.str w,.int k]
theorem i1:insOf "Frame" = true:=by simp [insOf]
theorem i2:insOf "Runner" = true:=by simp [insOf]
theorem i3:insOf "Op" = true:=by simp [insOf]
section
variable {st:Sto} {f b p:Nat} {B:PV} {ks:List Str} {xs:List PV}
theorem zgd (h:st[f]?=some (FrO b B p)):fldAt "bound" insOf excOf (.ref f) st=.ok (.ref b) st:=by
 simp [zaa h,i1,List.lookup_cons]
theorem zge (h:st[f]?=some (FrO b B p)):fldAt "block" insOf excOf (.ref f) st=.ok B st:=by
 simp [zaa h,i1,List.lookup_cons]
theorem zgf (h:st[f]?=some (FrO b B p)):fldAt "place" insOf excOf (.ref f) st=.ok (.int p) st:=by
 simp [zaa h,i1,List.lookup_cons]
theorem zlh {steps:List PV} {e:PV} (h:st[f]?=some (FrO b (.tup [.tup steps,e]) p)):m_Frame_line_here [.ref f] st=.ok ((steps[p]?).getD e) st:=by
 by_cases hp:p<steps.length
 ·have e1:steps[p]?=some steps[p]:=List.getElem?_eq_getElem hp
  simp [-zcq,m_Frame_line_here,mirror,zaQ,zas,zge h,zgf h,at0,hp,atI_get e1]
 ·have e1:steps[p]?=none:=List.getElem?_eq_none_iff.mpr (by omega)
  simp [-zcq,m_Frame_line_here,mirror,zaQ,zas,zbg,zge h,zgf h,at0,at1,hp,e1]
theorem zqt (v:PV):m_Frame_value_of [.ref f,.tup [.str "is", v]] st=.ok v st:=by
 simp [m_Frame_value_of,mirror,zbb,at0,at1]
theorem zhm (hn:st[b]?=some (.dic ks xs)) (w:Str):oIxD (.ref b) (.str w) st=optR ((ks.zip xs).lookup w) st:=by
 simp only [oIxD,oDGet,zhb hn]
theorem zqu (h:st[f]?=some (FrO b B p)) (hb:st[b]?=some (.dic ks xs)) {w:Str} {v:PV} (hl:(ks.zip xs).lookup w=some v):m_Frame_value_of [.ref f,.tup [.str "of", .str w]] st=.ok v st:=by
 simp [-zcq,m_Frame_value_of,mirror,zbb,zbD,at0,at1,zgd h,zhm hb,hl]
theorem zhY (h:st[f]?=some (FrO b B p)) (k:Nat→(List PV→Mo PV)→Res PV):methAt "value_of" zJ (.ref f) st k=k f m_Frame_value_of:=zau h (by simp) (by simp [zJ]) k
theorem zhn (h:st[f]?=some (FrO b B p)) (k:Nat→(List PV→Mo PV)→Res PV):methAt "values_by" zU (.ref f) st k=k f m_Frame_values_by:=zau h (by simp) (by simp [zU]) k
theorem zli (h:st[f]?=some (FrO b B p)) (k:Nat→(List PV→Mo PV)→Res PV):methAt "line_here" zT (.ref f) st k=k f m_Frame_line_here:=zau h (by simp) (by simp [zT]) k
theorem zmI (h:st[f]?=some (FrO b B p)) (k:Nat→(List PV→Mo PV)→Res PV):methAt "end_step" zan (.ref f) st k=k f m_Frame_end_step:=zau h (by simp) (by simp [zan]) k
theorem zgK (h:st[f]?=some (FrO b B p)) (k:Nat→(List PV→Mo PV)→Res PV):methAt "enter" zca (.ref f) st k=k f m_Frame_enter:=zau h (by simp) (by simp [zca]) k
end
end FK31
namespace FK31
open PySem L2 PySem.W Mi
structure AF where
 ks:List Str
 xs:List PV
 ss:List PV
 e:PV
 p:Nat
abbrev AF.line (a:AF):PV:=(a.ss[a.p]?).getD a.e
abbrev AF.B (a:AF):PV:=.tup [.tup a.ss,a.e]
inductive Val (a:AF):PV→PV→Prop
 | is (v:PV):Val a (.tup [.str "is", v]) v
 | of {w:Str} {v:PV} (h:(a.ks.zip a.xs).lookup w=some v):Val a (.tup [.str "of", .str w]) v
inductive ValL (a:AF):List PV→List PV→Prop
 | nil:ValL a [] []
 | cons {x v:PV} {xs vs:List PV} (h:Val a x v) (t:ValL a xs vs):ValL a (x::xs) (v::vs)
structure FrAt (st:Sto) (a:AF) (f b:Nat):Prop where
 fr:st[f]?=some (FrO b a.B a.p)
 di:st[b]?=some (.dic a.ks a.xs)
theorem FrAt.keep {st st':Sto} {a:AF} {f b:Nat} (h:FrAt st a f b) (k1:∀so,st[f]?=some so→st'[f]?=some so) (k2:∀so,st[b]?=some so→st'[b]?=some so):FrAt st' a f b:=⟨k1 _ h.fr,k2 _ h.di⟩
theorem zjq {st:Sto} {a:AF} {f b:Nat} (h:FrAt st a f b) {x v:PV} (hv:Val a x v):m_Frame_value_of [.ref f,x] st=.ok v st:=by
 cases hv with
 | is v=>exact zqt v
 | of hw=>exact zqu h.fr h.di hw
theorem zgg {st:Sto} {a:AF} {f b:Nat} {q:Option PV} (h:FrAt st a f b):∀{as vs:List PV},ValL a as vs→∀ys,compL (mMeth "value_of" zJ (mVar 1) (aCons (mVar 0) aNil)) [some (.ref f),q] as ys st=.ok (.ref st.length) (st++[.lst (ys++vs)])
 | _,_,.nil,ys=>by simp [compL]
 | _,_,@ValL.cons _ x v xs vs hv t,ys=>by
  simp only [compL]
  have:(mMeth "value_of" zJ (mVar 1) (aCons (mVar 0) aNil)) [some x,some (.ref f),q] st=.ok v st:=by
   simp [zhY h.fr]
   exact zjq h hv
  rw [this]
  simp only [zdq,zk]
  rw [zgg h t]
  simp
theorem zho {st:Sto} {a:AF} {f b:Nat} (h:FrAt st a f b) {as vs:List PV} (hv:ValL a as vs) (hl:as.length≤1000):m_Frame_values_by [.ref f,.tup as] st=.ok (.tup vs) (st++[.lst vs]):=by
 have cc:mComp (iVal (mVar 1)) (mMeth "value_of" zJ (mVar 1) (aCons (mVar 0) aNil)) [some (.ref f),some (.tup as)] st=.ok (.ref st.length) (st++[.lst vs]):=by
  show compS _ _ (.im as) st=_
  rw [compS,if_pos (by show as.length≤1000000;omega)]
  have:=zgg (q:=some (.tup as)) h hv []
  rw [List.nil_append] at this
  exact this
 show (zaS [some (.ref f),some (.tup as)] st).bind endOf=_
 simp only [zaS,zg5,zbn,zaM,zcp]
 rw [cc]
 simp
theorem zgL {st:Sto} {n:Nat} {ks:List Str} {xs:List PV} (hn:st[n]?=some (.dic ks xs)) (hl:ks.length≤1000) (z:Str) (x:PV):dPutAt (.str z) x (.ref n) st=.ok () (st.set n (.dic (dPut z x ks xs).1 (dPut z x ks xs).2)):=by
 simp only [dPutAt,zhb hn]
 rw [if_pos (by show ks.length<1000000;omega)]
@[simp] theorem zkI {fo fi fv:PEnv→Mo PV} {env:PEnv} {st:Sto}:sDPutM fo fi fv env st=(fv env st).bind fun x st1=>(fo env st1).bind fun o st2=>(fi env st2).bind fun z st3=>(dPutAt z x o st3).bind fun _ st4=>.ok (.nx env) st4:=(rfl)
abbrev AF.next (a:AF) (w:Str) (v:PV):AF:=⟨(dPut w v a.ks a.xs).1,(dPut w v a.ks a.xs).2,a.ss,a.e,a.p+1⟩
section
variable {st:Sto} {f b p r F L:Nat} {B T:PV} {ks:List Str} {xs:List PV} {steps:List PV} {e:PV} {a:AF}
theorem zoj (h:FrAt st a f b) (hl:a.ks.length≤1000) {k:PV} {w:Str} {q:List PV} (hs:a.ss[a.p]?=some (.tup (k :: .str w::q))) (v:PV) :
  m_Frame_end_step [.ref f,v] st=.ok .non ((st.set b (.dic (a.next w v).ks (a.next w v).xs)).set f (FrO b (a.next w v).B (a.p+1))):=by
 obtain ⟨h,hb⟩:=h
 have ne:b≠f:=fun z=>by subst z;rw [h] at hb;cases hb
 have h2:(st.set b (.dic (dPut w v a.ks a.xs).1 (dPut w v a.ks a.xs).2))[f]?=some (FrO b (.tup [.tup a.ss,a.e]) a.p):=by rw [List.getElem?_set_ne ne];exact h
 have l1:=zlh h
 rw [hs] at l1
 simp [-zcq,m_Frame_end_step,mirror,zcs,zbz,zby,zli h,l1,at1,zgd h,zgL hb hl]
 simp [sFldAdd,augGet,augPut,zaa h2,i1,List.lookup_cons,Mi.putK]
 rfl
theorem zmJ (h:st[f]?=some (FrO b B p)) (B':PV):m_Frame_enter [.ref f,B'] st=.ok .non (st.set f (FrO b B' 0)):=by
 have fl:=(List.getElem?_eq_some_iff.mp h).1
 have h2:(st.set f (FrO b B' p))[f]?=some (FrO b B' p):=by rw [List.getElem?_set_self fl]
 simp [m_Frame_enter,mirror,zdD,zcv,Mi.putAt,zaa h,i1,Mi.putK]
 rw [zaa h2]
 simp [i1,Mi.putK]
 rfl
structure S (st:Sto) (r F L:Nat) (T:PV) (fs:List PV) (kf:List Str) (xf:List PV):Prop where
 rn:st[r]?=some (RnO F L T)
 ls:st[L]?=some (.lst fs)
 fn:st[F]?=some (.dic kf xf)
theorem zaV (h:st[r]?=some (RnO F L T)):fldAt "frames" insOf excOf (.ref r) st=.ok (.ref L) st:=by
 simp [zaa h,i2,List.lookup_cons]
theorem zfv (h:st[r]?=some (RnO F L T)):fldAt "functions" insOf excOf (.ref r) st=.ok (.ref F) st:=by
 simp [zaa h,i2,List.lookup_cons]
theorem zkJ (h:st[r]?=some (RnO F L T)):fldAt "told" insOf excOf (.ref r) st=.ok T st:=by
 simp [zaa h,i2,List.lookup_cons]
theorem zjr (h:st[r]?=some (RnO F L T)) (k:Nat→(List PV→Mo PV)→Res PV):methAt "begin" zbl (.ref r) st k=k r m_Runner_begin:=zau h (by simp) (by simp [zbl]) k
theorem zhp (h:st[r]?=some (RnO F L T)) (k:Nat→(List PV→Mo PV)→Res PV):methAt "at_rest" zY (.ref r) st k=k r m_Runner_at_rest:=zau h (by simp) (by simp [zY]) k
theorem zlj (h:st[r]?=some (RnO F L T)) (k:Nat→(List PV→Mo PV)→Res PV):methAt "give_back" zav (.ref r) st k=k r m_Runner_give_back:=zau h (by simp) (by simp [zav]) k
theorem zqb (h:st[r]?=some (RnO F L T)) (k:Nat→(List PV→Mo PV)→Res PV):methAt "go_line" zQ (.ref r) st k=k r m_Runner_go_line:=zau h (by simp) (by simp [zQ]) k
theorem zok {st:Sto} {o:Nat} {w:Str} {k:Int} (h:st[o]?=some (OpO w k)) (q:Nat→(List PV→Mo PV)→Res PV):methAt "answer" zbC (.ref o) st q=q o m_Op_answer:=zau h (by simp) (by simp [zbC]) q
theorem zjs {fs:List PV} {kf:List Str} {xf:List PV} (s:S st r F L T fs kf xf):m_Runner_at_rest [.ref r] st=.ok (.bl (decide (fs.length=0))) st:=by
 simp [-zcq,m_Runner_at_rest,mirror,zcu,zaV s.rn,zn s.ls]
 cases fs<;>simp
 omega
def Bnd (ps vs:List PV) (ks:List Str) (xs:List PV):Prop:=∀st,oDZip [.tup ps,.tup vs] st=.ok (.ref st.length) (st++[.dic ks xs])
theorem zjt {nm:PV} {ps vs:List PV} {blk:PV} (hb:Bnd ps vs ks xs) (st:Sto):newI "Frame" m_Frame___init__ [.tup [nm,.tup ps,blk],.tup vs] st=.ok (.ref st.length) (st++[FrO (st.length+1) blk 0,.dic ks xs]):=by
 have z:=hb (st++[.ins "Frame" [] []])
 simp at z
 simp [newI,m_Frame___init__,mirror,zcr,zbx,zbw,at1,at2,z,Mi.putAt,withI,i1,Mi.putK]
theorem zju {fs:List PV} {kf:List Str} {xf:List PV} {g:Str} {nm:PV} {ps vs:List PV} {blk:PV} (s:S st r F L T fs kf xf) (hg:(kf.zip xf).lookup g=some (.tup [nm,.tup ps,blk])) (hb:Bnd ps vs ks xs) (hl:fs.length≤10000) :
  m_Runner_begin [.ref r,.str g,.tup vs] st=.ok .non ((st++[FrO (st.length+1) blk 0,.dic ks xs]).set L (.lst (fs++[.ref st.length]))):=by
 have Ll:=(List.getElem?_eq_some_iff.mp s.ls).1
 have mk:=zjt (nm:=nm) (blk:=blk) hb st
 have hn:(st++[FrO (st.length+1) blk 0,.dic ks xs])[L]?=some (.lst fs):=(Pre.of st _).get s.ls
 have hlim:fs.length<1000000:=by omega
 simp [-zcq,m_Runner_begin,mirror,zc2,zaV s.rn,zn s.ls,zfv s.rn,zhm s.fn,hg,mk,oAppend,zn hn,hlim]
end
end FK31
namespace FK31
open PySem L2 PySem.W Mi
abbrev refs (as:List (AF×Nat×Nat)):List PV:=as.reverse.map fun a=>.ref a.2.1
def Kept (B0 st:Sto):Prop:=∀(m:Nat) so,B0[m]?=some so→st[m]?=some so
structure Rep (B0:Sto) (kf:List Str) (xf:List PV) (r F L:Nat) (T:PV) (st:Sto) (as:List (AF×Nat×Nat)):Prop where
 s:S st r F L T (refs as) kf xf
 fr:∀a∈as,FrAt st a.1 a.2.1 a.2.2
 od:as.Pairwise fun a b=>b.2.2<a.2.1
 lo:∀a∈as,F<a.2.1∧a.2.1<a.2.2
 kb:Kept B0 st
 n0:B0.length≤r∧B0.length≤F∧B0.length≤L
section
variable {B0:Sto} {kf:List Str} {xf:List PV} {r F L:Nat} {T:PV} {st st':Sto} {as:List (AF×Nat×Nat)} {a a':AF} {f b:Nat}
theorem zb0 {st:Sto} {n:Nat} {so:SO} (h:st[n]?=some so):n<st.length:=(List.getElem?_eq_some_iff.mp h).1
theorem Rep.fne (R:Rep B0 kf xf r F L T st as) {x:AF×Nat×Nat} (hx:x∈as):r≠x.2.1∧r≠x.2.2∧L≠x.2.1∧L≠x.2.2∧F≠x.2.1∧F≠x.2.2:=by
 obtain ⟨h,hb⟩:=R.fr x hx
 obtain ⟨l1,l2⟩:=R.lo x hx
 refine ⟨fun z=>?_,fun z=>?_,fun z=>?_,fun z=>?_,by omega,by omega⟩
 ·have:=R.s.rn;rw [z,h] at this;simp [FrO,RnO] at this
 ·have:=R.s.rn;rw [z,hb] at this;cases this
 ·have:=R.s.ls;rw [z,h] at this;cases this
 ·have:=R.s.ls;rw [z,hb] at this;cases this
theorem Rep.rL (R:Rep B0 kf xf r F L T st as):r≠L:=fun z=>by have:=R.s.rn;rw [z,R.s.ls] at this;cases this
theorem Rep.FL (R:Rep B0 kf xf r F L T st as):F≠L:=fun z=>by have:=R.s.fn;rw [z,R.s.ls] at this;cases this
theorem Rep.rF (R:Rep B0 kf xf r F L T st as):r≠F:=fun z=>by have:=R.s.rn;rw [z,R.s.fn] at this;cases this
theorem Rep.b0 (R:Rep B0 kf xf r F L T st as) {m:Nat} {so:SO} (h:B0[m]?=some so):m≠r∧m≠F∧m≠L∧∀x∈as,m≠x.2.1∧m≠x.2.2:=by
 have:=zb0 h
 obtain ⟨h1,h2,h3⟩:=R.n0
 refine ⟨by omega,by omega,by omega,fun x hx=>?_⟩
 have:=R.lo x hx
 omega
theorem Rep.top (R:Rep B0 kf xf r F L T st ((a,f,b)::as)) (h:FrAt st' a' f b) (k:∀m so,m≠f→m≠b→st[m]?=some so→st'[m]?=some so):Rep B0 kf xf r F L T st' ((a',f,b)::as):=by
 obtain ⟨e1,e2,e3,e4,e5,e6⟩:=R.fne (List.mem_cons_self ..)
 have od:=List.pairwise_cons.mp R.od
 refine ⟨⟨k _ _ e1 e2 R.s.rn,by have:=k _ _ e3 e4 R.s.ls;simpa [refs] using this,k _ _ e5 e6 R.s.fn⟩,fun x hx=>?_,List.pairwise_cons.mpr ⟨fun y hy=>od.1 y hy,od.2⟩,fun x hx=>?_,fun m so hm=>?_,R.n0⟩
 ·rcases List.mem_cons.mp hx with rfl|hx
  ·exact h
  ·have l:=R.lo x (List.mem_cons_of_mem _ hx)
   have l2:=od.1 x hx
   have l3:=R.lo _ (List.mem_cons_self ..)
   simp only at l2 l3
   exact (R.fr x (List.mem_cons_of_mem _ hx)).keep (fun so=>k _ so (by omega) (by omega)) (fun so=>k _ so (by omega) (by omega))
 ·rcases List.mem_cons.mp hx with rfl|hx
  ·exact R.lo (a,f,b) (List.mem_cons_self ..)
  ·exact R.lo x (List.mem_cons_of_mem _ hx)
 ·obtain ⟨_,_,_,q⟩:=R.b0 hm
  exact k m so (q _ (List.mem_cons_self ..)).1 (q _ (List.mem_cons_self ..)).2 (R.kb m so hm)
theorem Rep.push (R:Rep B0 kf xf r F L T st as) (h:FrAt st' a' f b) (hl:st.length≤f∧f<b) (ls:st'[L]?=some (.lst (refs as++[.ref f]))) (k:∀m so,m≠L→st[m]?=some so→st'[m]?=some so):Rep B0 kf xf r F L T st' ((a',f,b)::as):=by
 have lF:=zb0 R.s.fn
 refine ⟨⟨k _ _ R.rL R.s.rn,by simpa [refs] using ls,k _ _ R.FL R.s.fn⟩,fun x hx=>?_,List.pairwise_cons.mpr ⟨fun y hy=>?_,R.od⟩,fun x hx=>?_,fun m so hm=>?_,R.n0⟩
 ·rcases List.mem_cons.mp hx with rfl|hx
  ·exact h
  ·obtain ⟨_,_,e3,e4,_,_⟩:=R.fne hx
   exact (R.fr x hx).keep (fun so=>k _ so (Ne.symm e3)) (fun so=>k _ so (Ne.symm e4))
 ·have:=zb0 (R.fr y hy).di
  simp only
  omega
 ·rcases List.mem_cons.mp hx with rfl|hx
  ·exact ⟨by simp only;omega,hl.2⟩
  ·exact R.lo x hx
 ·obtain ⟨_,_,q,_⟩:=R.b0 hm
  exact k m so q (R.kb m so hm)
theorem Rep.pop {x:AF×Nat×Nat} (R:Rep B0 kf xf r F L T st (x::as)) (ls:st'[L]?=some (.lst (refs as))) (k:∀m so,m≠L→st[m]?=some so→st'[m]?=some so):Rep B0 kf xf r F L T st' as:=by
 refine ⟨⟨k _ _ R.rL R.s.rn,ls,k _ _ R.FL R.s.fn⟩,fun y hy=>?_,(List.pairwise_cons.mp R.od).2,fun y hy=>R.lo y (List.mem_cons_of_mem _ hy),fun m so hm=>?_,R.n0⟩
 ·obtain ⟨_,_,e3,e4,_,_⟩:=R.fne (List.mem_cons_of_mem _ hy)
  exact (R.fr y (List.mem_cons_of_mem _ hy)).keep (fun so=>k _ so (Ne.symm e3)) (fun so=>k _ so (Ne.symm e4))
 ·obtain ⟨_,_,q,_⟩:=R.b0 hm
  exact k m so q (R.kb m so hm)
theorem Rep.pre (R:Rep B0 kf xf r F L T st as) (p:Pre st st'):Rep B0 kf xf r F L T st' as :=
 ⟨⟨p.get R.s.rn,p.get R.s.ls,p.get R.s.fn⟩,fun x hx=>(R.fr x hx).keep (fun _=>p.get) (fun _=>p.get),R.od,R.lo,fun m so h=>p.get (R.kb m so h),R.n0⟩
theorem zqv {D O:SO} (hf:f<st.length) (hb:b<st.length) (ne:b≠f):((st.set b D).set f O)[f]?=some O∧((st.set b D).set f O)[b]?=some D∧∀m so,m≠f→m≠b→st[m]?=some so→((st.set b D).set f O)[m]?=some so :=
 ⟨by rw [List.getElem?_set_self (by simpa using hf)],by rw [List.getElem?_set_ne (Ne.symm ne),List.getElem?_set_self hb],fun m so h1 h2 e=>by rw [List.getElem?_set_ne (Ne.symm h1),List.getElem?_set_ne (Ne.symm h2)];exact e⟩
theorem Rep.ended (R:Rep B0 kf xf r F L T st ((a,f,b)::as)) (w:Str) (v:PV):Rep B0 kf xf r F L T ((st.set b (.dic (a.next w v).ks (a.next w v).xs)).set f (FrO b (a.next w v).B (a.p+1))) ((a.next w v,f,b)::as):=by
 have h:=R.fr _ (List.mem_cons_self ..)
 have l:=R.lo _ (List.mem_cons_self ..)
 simp only at l
 obtain ⟨u1,u2,u3⟩:=zqv (D:=.dic (a.next w v).ks (a.next w v).xs) (O:=FrO b (a.next w v).B (a.p+1)) (zb0 h.fr) (zb0 h.di) (by simp only;omega)
 exact R.top ⟨u1,u2⟩ u3
theorem zdF (R:Rep B0 kf xf r F L T st ((a,f,b)::as)) {ln:PV} (hl:a.line=ln):m_Runner_go_line [.ref r] st=(zq [some (.ref r),some (.ref f),some ln] st).bind endOf:=by
 have h:=(R.fr _ (List.mem_cons_self ..)).fr
 have s:=R.s
 have l1:=zlh h
 have hl':(a.ss[a.p]?).getD a.e=ln:=hl
 simp only at l1
 rw [hl'] at l1
 show (zbd [some (.ref r),none,none] st).bind endOf=_
 have hlast:refs ((a,f,b)::as)=refs as++[.ref f]:=by simp [refs]
 have ls:=s.ls
 rw [hlast] at ls
 have e1:(sSet 1 (mOp oIxD (mUn (fldAt "frames" insOf excOf) (mVar 0)) (mUn oNeg (mC (.int 1))))) [some (.ref r),none,none] st=.ok (.nx [some (.ref r),some (.ref f),none]) st:=by
  simp [-zcq,zaV s.rn,zn ls,atL]
 have e2:(sSet 2 (mMeth "line_here" zT (mVar 1) aNil)) [some (.ref r),some (.ref f),none] st=.ok (.nx [some (.ref r),some (.ref f),some ln]) st:=by
  simp [zli h,l1]
 simp only [zbd,zG]
 rw [e1]
 simp only [zk,zy,zbE,zG]
 rw [e2]
 simp only [zk,zy]
def OpA (B0:Sto) (op:Str) (args:List PV) (v:PV):Prop:=∃k:Int,(∀st,m_op_of [.str op] st=.ok (.ref st.length) (st++[OpO op k]))∧∀st o,Kept B0 st→st[o]?=some (OpO op k)→∃d,m_Op_answer [.ref o,.tup args] st=.ok v (st++d)
def OpF (B0:Sto) (op:Str) (args:List PV) (v:Str):Prop:=∃k:Int,(∀st,m_op_of [.str op] st=.ok (.ref st.length) (st++[OpO op k]))∧∀st o,Kept B0 st→st[o]?=some (OpO op k)→∃d,m_Op_answer [.ref o,.tup args] st=.err "Fault" ["word"] [.str v] (st++d)
theorem zol (R:Rep B0 kf xf r F L T st ((a,f,b)::as)) {w op:Str} {atoms args:List PV} {v:PV} (hl:a.ss[a.p]?=some (.tup [.str "let", .str w,.str op,.tup atoms])) (hn:atoms.length≤1000) (hk:a.ks.length≤1000) (hv:ValL a atoms args) (ho:OpA B0 op args v) :
  ∃st',m_Runner_go_line [.ref r] st=.ok .non st'∧Rep B0 kf xf r F L T st' ((a.next w v,f,b)::as):=by
 obtain ⟨k,o1,o2⟩:=ho
 have p1:Pre st (st++[OpO op k]):=Pre.of _ _
 have R1:=R.pre p1
 have h:=R.fr _ (List.mem_cons_self ..)
 have h1:=R1.fr _ (List.mem_cons_self ..)
 have v1:=zho h1 hv hn
 have p2:Pre (st++[OpO op k]) (st++[OpO op k]++[.lst args]):=Pre.of _ _
 have R2:=R1.pre p2
 have ob:=zaq st (OpO op k)
 obtain ⟨d,a2⟩:=o2 _ st.length R2.kb (p2.get ob)
 have R3:=R2.pre (Pre.of _ d)
 have e3:=zoj (R3.fr _ (List.mem_cons_self ..)) hk hl v
 refine ⟨_,?_,R3.ended w v⟩
 rw [zdF R (ln:=.tup [.str "let", .str w,.str op,.tup atoms]) (by show (a.ss[a.p]?).getD a.e=_;rw [hl];rfl)]
 simp only at h1 v1
 simp [zq,at0,at2,at3,zmI h.fr,o1,zok ob,zhn h1.fr,v1]
 simp only [List.append_assoc,List.cons_append,List.nil_append] at a2 e3
 rw [a2]
 simp [e3]
theorem zmK (R:Rep B0 kf xf r F L T st ((a,f,b)::as)) {w op:Str} {atoms args:List PV} {v:Str} (hl:a.ss[a.p]?=some (.tup [.str "let", .str w,.str op,.tup atoms])) (hn:atoms.length≤1000) (hv:ValL a atoms args) (ho:OpF B0 op args v) :
  ∃st',m_Runner_go_line [.ref r] st=.err "Fault" ["word"] [.str v] st'∧Rep B0 kf xf r F L T st' ((a,f,b)::as):=by
 obtain ⟨k,o1,o2⟩:=ho
 have p1:Pre st (st++[OpO op k]):=Pre.of _ _
 have R1:=R.pre p1
 have h:=R.fr _ (List.mem_cons_self ..)
 have h1:=R1.fr _ (List.mem_cons_self ..)
 have v1:=zho h1 hv hn
 have p2:Pre (st++[OpO op k]) (st++[OpO op k]++[.lst args]):=Pre.of _ _
 have R2:=R1.pre p2
 have ob:=zaq st (OpO op k)
 obtain ⟨d,a2⟩:=o2 _ st.length R2.kb (p2.get ob)
 have R3:=R2.pre (Pre.of _ d)
 refine ⟨_,?_,R3⟩
 rw [zdF R (ln:=.tup [.str "let", .str w,.str op,.tup atoms]) (by show (a.ss[a.p]?).getD a.e=_;rw [hl];rfl)]
 simp only at h1 v1
 simp [zq,at0,at2,at3,zmI h.fr,o1,zok ob,zhn h1.fr,v1]
 simp only [List.append_assoc,List.cons_append,List.nil_append] at a2
 rw [a2]
 simp
end
end FK31
namespace FK31
open PySem L2 PySem.W Mi
section
variable {B0:Sto} {kf:List Str} {xf:List PV} {r F L:Nat} {T:PV} {st st':Sto} {as:List (AF×Nat×Nat)} {a a':AF} {f b:Nat}
theorem zgh (x:Int) (st:Sto):m_chooses_first [.int x] st=.ok (.bl (decide (x≠0))) st:=by
 have kind_int:m_kind_of [.int x] st=.ok (.str "number") st:=by
  have e:∀t,oIsi isT [.int x,.ty t] st=optB (tyb "int" t) st:=fun _=>rfl
  have t1:tyb "int" "str" = some false:=rfl
  have t2:tyb "int" "tuple" = some false:=rfl
  have t3:tyb "int" "dict" = some false:=rfl
  simp [m_kind_of,mirror,zeF,zcH,zcG,zcF,e,t1,t2,t3,optB]
 have p_check1:m_check_kinds [.tup [.str "number"],.tup [.int x]] st=.ok .non st:=by
  simp [m_check_kinds,mirror,zaG,zipP,forL,kind_int]
 simp [m_chooses_first,mirror,zcP,zbS,p_check1]
 by_cases h:x=0<;>simp [h]
theorem zpv (R:Rep B0 kf xf r F L T st ((a,f,b)::as)) {at_:PV} {s1 s2:List PV} {e1 e2:PV} {x:Int} (hl:a.line=.tup [.str "if", at_,.tup [.tup s1,e1],.tup [.tup s2,e2]]) (hv:Val a at_ (.int x)) :
  ∃st',m_Runner_go_line [.ref r] st=.ok .non st'∧Rep B0 kf xf r F L T st' ((⟨a.ks,a.xs,if x≠0 then s1 else s2,if x≠0 then e1 else e2,0⟩,f,b)::as):=by
 have h:=R.fr _ (List.mem_cons_self ..)
 simp only at h
 have en:=fun B'=>zmJ h.fr B'
 have v:=zjq h hv
 have ne:b≠f:=by have:=R.lo _ (List.mem_cons_self ..);simp only at this;omega
 refine ⟨st.set f (FrO b (AF.B ⟨a.ks,a.xs,if x≠0 then s1 else s2,if x≠0 then e1 else e2,0⟩) 0),?_,R.top ⟨by rw [List.getElem?_set_self (zb0 h.fr)],by rw [List.getElem?_set_ne (Ne.symm ne)];exact h.di⟩ fun m so m1 m2 q=>by rw [List.getElem?_set_ne (Ne.symm m1)];exact q⟩
 rw [zdF R hl]
 by_cases hx:x=0
 ·subst hx
  simp [zq,at0,at1,at2,at3,zgK h.fr,zhY h.fr,v,zgh,en]
 ·simp [zq,at0,at1,at2,at3,zgK h.fr,zhY h.fr,v,zgh,hx,en]
def NoNum (B0:Sto) (v:PV):Prop:=∀st,Kept B0 st→m_chooses_first [v] st=.err "Fault" ["word"] [.str "kind"] st
theorem zom (R:Rep B0 kf xf r F L T st ((a,f,b)::as)) {at_ B1 B2 v:PV} (hl:a.line=.tup [.str "if", at_,B1,B2]) (hv:Val a at_ v) (hn:NoNum B0 v) :
  m_Runner_go_line [.ref r] st=.err "Fault" ["word"] [.str "kind"] st:=by
 have h:=R.fr _ (List.mem_cons_self ..)
 simp only at h
 have v:=zjq h hv
 rw [zdF R hl]
 simp [zq,at0,at1,at2,at3,zgK h.fr,zhY h.fr,v,hn st R.kb]
theorem zmL (R:Rep B0 kf xf r F L T st ((a,f,b)::as)) {w:Str} (hl:a.line=.tup [.str "fail", .str w]) :
  m_Runner_go_line [.ref r] st=.err "Fault" ["word"] [.str w] st:=by
 rw [zdF R hl]
 simp [zq,at0,at1]
theorem zgM (R:Rep B0 kf xf r F L T st [(a,f,b)]) {at_ v:PV} (hl:a.line=.tup [.str "give", at_]) (hv:Val a at_ v) :
  ∃st',m_Runner_go_line [.ref r] st=.ok .non st'∧Rep B0 kf xf r F L v st' []:=by
 have h:=R.fr _ (List.mem_cons_self ..)
 simp only at h
 have vv:=zjq h hv
 have s:=R.s
 have ls:st[L]?=some (.lst [.ref f]):=s.ls
 have Ll:=zb0 ls
 have R1:Rep B0 kf xf r F L T (st.set L (.lst [])) []:=R.pop (by rw [List.getElem?_set_self Ll];rfl) fun m so hm q=>by rw [List.getElem?_set_ne (Ne.symm hm)];exact q
 have r2:=R1.s.rn
 have rest:=zjs R1.s
 have gb:m_Runner_give_back [.ref r,v] st=.ok .non ((st.set L (.lst [])).set r (RnO F L v)):=by
  simp [-zcq,m_Runner_give_back,mirror,zai,zaj,zaV s.rn,oPop,zn ls,zhp r2,rest,Mi.putAt,zaa r2,i2,Mi.putK]
 refine ⟨(st.set L (.lst [])).set r (RnO F L v),?_,Rep.mk ?_ (fun x hx=>nomatch hx) List.Pairwise.nil (fun x hx=>nomatch hx) ?_ R.n0⟩
 ·rw [zdF R hl]
  simp [zq,at0,at1,zlj s.rn,zhY h.fr,vv,gb]
 ·exact ⟨by rw [List.getElem?_set_self (zb0 r2)],by rw [List.getElem?_set_ne R.rL];exact R1.s.ls,by rw [List.getElem?_set_ne R.rF];exact R1.s.fn⟩
 ·intro m so hm
  rw [List.getElem?_set_ne (Ne.symm (R.b0 hm).1)]
  exact R1.kb m so hm
theorem zmM {c:AF} {g d:Nat} (R:Rep B0 kf xf r F L T st ((a,f,b)::(c,g,d)::as)) {at_ v:PV} (hl:a.line=.tup [.str "give", at_]) (hv:Val a at_ v) {k:PV} {w:Str} {q:List PV} (hc:c.ss[c.p]?=some (.tup (k :: .str w::q))) (hk:c.ks.length≤1000) :
  ∃st',m_Runner_go_line [.ref r] st=.ok .non st'∧Rep B0 kf xf r F L T st' ((c.next w v,g,d)::as):=by
 have h:=R.fr _ (List.mem_cons_self ..)
 simp only at h
 have vv:=zjq h hv
 have s:=R.s
 have ls:st[L]?=some (.lst (refs as++[.ref g]++[.ref f])):=by have:=s.ls;simpa [refs] using this
 have Ll:=zb0 ls
 have R1:Rep B0 kf xf r F L T (st.set L (.lst (refs as++[.ref g]))) ((c,g,d)::as):=R.pop (by rw [List.getElem?_set_self Ll];simp [refs]) fun m so hm q=>by rw [List.getElem?_set_ne (Ne.symm hm)];exact q
 have r2:=R1.s.rn
 have l2:(st.set L (.lst (refs as++[.ref g])))[L]?=some (.lst (refs as++[.ref g])):=by rw [List.getElem?_set_self Ll]
 have rest:=zjs R1.s
 have g2:=R1.fr _ (List.mem_cons_self ..)
 simp only at g2
 have en:=zoj g2 hk hc v
 refine ⟨_,?_,R1.ended w v⟩
 have gb:m_Runner_give_back [.ref r,v] st=.ok .non (((st.set L (.lst (refs as++[.ref g]))).set d (.dic (c.next w v).ks (c.next w v).xs)).set g (FrO d (c.next w v).B (c.p+1))):=by
  have pop:oPop (.ref L) st=.ok (.ref f) (st.set L (.lst (refs as++[.ref g]))):=by
   simp only [oPop,zn ls]
   have:(refs as++[PV.ref g]++[PV.ref f])[(refs as++[PV.ref g]++[PV.ref f]).length-1]?=some (.ref f):=by simp
   rw [this]
   simp
  have e1:(sExpr (mUn oPop (mUn (fldAt "frames" insOf excOf) (mVar 0)))) [some (.ref r),some v] st=.ok (.nx [some (.ref r),some v]) (st.set L (.lst (refs as++[.ref g]))):=by
   simp [-zcq,zaV s.rn,pop]
  have rest':decide ((refs ((c,g,d)::as)).length=0)=false:=by simp [refs]
  rw [rest'] at rest
  generalize refs as=rf at pop e1 rest l2 r2 g2 en ⊢
  show (zai [some (.ref r),some v] st).bind endOf=_
  simp only [zai,zG]
  rw [e1]
  simp [-zcq,zaj,zhp r2,rest,zaV r2,zn l2,atL,zmI g2.fr,en]
 rw [zdF R hl]
 generalize refs as=rf at gb ⊢
 simp [zq,at0,at1,zlj s.rn,zhY h.fr,vv,gb]
theorem zmN (R:Rep B0 kf xf r F L T st ((a,f,b)::as)) {w g:Str} {atoms args:List PV} {nm:PV} {ps:List PV} {ss:List PV} {e:PV} {ks:List Str} {xs:List PV} (hl:a.line=.tup [.str "call", .str w,.str g,.tup atoms]) (hn:atoms.length≤1000) (hv:ValL a atoms args)
  (hg:(kf.zip xf).lookup g=some (.tup [nm,.tup ps,.tup [.tup ss,e]])) (hb:Bnd ps args ks xs) (ha:as.length≤9000) :
  ∃st' f' b',m_Runner_go_line [.ref r] st=.ok .non st'∧Rep B0 kf xf r F L T st' ((⟨ks,xs,ss,e,0⟩,f',b')::(a,f,b)::as):=by
 have h:=R.fr _ (List.mem_cons_self ..)
 simp only at h
 have v1:=zho h hv hn
 have p1:Pre st (st++[.lst args]):=Pre.of _ _
 have R1:=R.pre p1
 have bg:=zju R1.s hg hb (by simp [refs];omega)
 have Ll:=zb0 R1.s.ls
 have ln:(st++[SO.lst args]).length=st.length+1:=by simp
 refine ⟨_,(st++[SO.lst args]).length,(st++[SO.lst args]).length+1,?_,R1.push (st':=((st++[SO.lst args])++[FrO ((st++[SO.lst args]).length+1) (.tup [.tup ss,e]) 0,SO.dic ks xs]).set L (SO.lst (refs ((a,f,b)::as)++[PV.ref (st++[SO.lst args]).length]))) ⟨?_,?_⟩ ⟨Nat.le_refl _,by omega⟩ ?_ ?_⟩
 ·rw [zdF R hl]
  simp only [zq]
  simp [at0,at2,at3,zjr R.s.rn,zhn h.fr,v1]
  simp at bg
  rw [bg]
  simp
 ·rw [List.getElem?_set_ne (by omega),List.getElem?_append_right (Nat.le_refl _)];simp
 ·rw [List.getElem?_set_ne (by omega),List.getElem?_append_right (by omega)];simp
 ·rw [List.getElem?_set_self (by simp;simp at Ll;omega)]
 ·intro m so hm q
  rw [List.getElem?_set_ne (Ne.symm hm)]
  exact (Pre.of _ _).get q
theorem zpw (R:Rep B0 kf xf r F L T st ((a,f,b)::as)) {g:Str} {atoms args:List PV} {nm:PV} {ps:List PV} {ss:List PV} {e:PV} {ks:List Str} {xs:List PV} (hl:a.line=.tup [.str "go", .str g,.tup atoms]) (hn:atoms.length≤1000) (hv:ValL a atoms args)
  (hg:(kf.zip xf).lookup g=some (.tup [nm,.tup ps,.tup [.tup ss,e]])) (hb:Bnd ps args ks xs) (ha:as.length≤9000) :
  ∃st' f' b',m_Runner_go_line [.ref r] st=.ok .non st'∧Rep B0 kf xf r F L T st' ((⟨ks,xs,ss,e,0⟩,f',b')::as):=by
 have h:=R.fr _ (List.mem_cons_self ..)
 simp only at h
 have s:=R.s
 have ls:st[L]?=some (.lst (refs as++[.ref f])):=by have:=s.ls;simpa [refs] using this
 have Ll:=zb0 ls
 have pop:oPop (.ref L) st=.ok (.ref f) (st.set L (.lst (refs as))):=by
  simp only [oPop,zn ls]
  have:(refs as++[PV.ref f])[(refs as++[PV.ref f]).length-1]?=some (.ref f):=by simp
  rw [this]
  simp
 have k0:∀m so,m≠L→st[m]?=some so→(st.set L (.lst (refs as)))[m]?=some so:=fun m so hm q=>by rw [List.getElem?_set_ne (Ne.symm hm)];exact q
 have R0:Rep B0 kf xf r F L T (st.set L (.lst (refs as))) as:=R.pop (by rw [List.getElem?_set_self Ll]) k0
 obtain ⟨_,_,e3,e4,_,_⟩:=R.fne (List.mem_cons_self ..)
 simp only at e3 e4
 have h0:FrAt (st.set L (.lst (refs as))) a f b:=h.keep (fun so=>k0 _ so (Ne.symm e3)) (fun so=>k0 _ so (Ne.symm e4))
 generalize hs0:st.set L (.lst (refs as))=s0 at pop k0 R0 h0
 have v1:=zho h0 hv hn
 have p1:Pre s0 (s0++[.lst args]):=Pre.of _ _
 have R1:=R0.pre p1
 have bg:=zju R1.s hg hb (by simp [refs];omega)
 have Ll:=zb0 R1.s.ls
 have ln:(s0++[SO.lst args]).length=s0.length+1:=by simp
 refine ⟨_,(s0++[SO.lst args]).length,(s0++[SO.lst args]).length+1,?_,R1.push (st':=((s0++[SO.lst args])++[FrO ((s0++[SO.lst args]).length+1) (.tup [.tup ss,e]) 0,SO.dic ks xs]).set L (SO.lst (refs as++[PV.ref (s0++[SO.lst args]).length]))) ⟨?_,?_⟩ ⟨Nat.le_refl _,by omega⟩ ?_ ?_⟩
 ·rw [zdF R hl]
  simp only [zq]
  simp [-zcq,at0,at1,at2,zaV s.rn,pop,zjr R0.s.rn,zhn h0.fr,v1]
  simp at bg
  rw [bg]
  simp
 ·rw [List.getElem?_set_ne (by omega),List.getElem?_append_right (Nat.le_refl _)];simp
 ·rw [List.getElem?_set_ne (by omega),List.getElem?_append_right (by omega)];simp
 ·rw [List.getElem?_set_self (by simp;simp at Ll;omega)]
 ·intro m so hm q
  rw [List.getElem?_set_ne (Ne.symm hm)]
  exact (Pre.of _ _).get q
end
end FK31
namespace FK31
open PySem L2 PySem.W Mi
inductive Step (B0:Sto) (kf:List Str) (xf:List PV):List AF→List AF→Prop
 | lt {a:AF} {rest:List AF} {w op:Str} {atoms args:List PV} {v:PV} (hl:a.ss[a.p]?=some (.tup [.str "let", .str w,.str op,.tup atoms])) (hn:atoms.length≤1000) (hk:a.ks.length≤1000) (hv:ValL a atoms args) (ho:OpA B0 op args v):Step B0 kf xf (a::rest) (a.next w v::rest)
 | call {a:AF} {rest:List AF} {w g:Str} {atoms args:List PV} {nm:PV} {ps ss:List PV} {e:PV} {ks:List Str} {xs:List PV} (hl:a.line=.tup [.str "call", .str w,.str g,.tup atoms]) (hn:atoms.length≤1000) (hv:ValL a atoms args) (hg:(kf.zip xf).lookup g=some (.tup [nm,.tup ps,.tup [.tup ss,e]])) (hb:Bnd ps args ks xs) (ha:rest.length≤9000):Step B0 kf xf (a::rest) (⟨ks,xs,ss,e,0⟩::a::rest)
 | go {a:AF} {rest:List AF} {g:Str} {atoms args:List PV} {nm:PV} {ps ss:List PV} {e:PV} {ks:List Str} {xs:List PV} (hl:a.line=.tup [.str "go", .str g,.tup atoms]) (hn:atoms.length≤1000) (hv:ValL a atoms args) (hg:(kf.zip xf).lookup g=some (.tup [nm,.tup ps,.tup [.tup ss,e]])) (hb:Bnd ps args ks xs) (ha:rest.length≤9000):Step B0 kf xf (a::rest) (⟨ks,xs,ss,e,0⟩::rest)
 | give {a c:AF} {rest:List AF} {at_ v k:PV} {w:Str} {q:List PV} (hl:a.line=.tup [.str "give", at_]) (hv:Val a at_ v) (hc:c.ss[c.p]?=some (.tup (k :: .str w::q))) (hk:c.ks.length≤1000):Step B0 kf xf (a::c::rest) (c.next w v::rest)
 | iff {a:AF} {rest:List AF} {at_:PV} {s1 s2:List PV} {e1 e2:PV} {x:Int} (hl:a.line=.tup [.str "if", at_,.tup [.tup s1,e1],.tup [.tup s2,e2]]) (hv:Val a at_ (.int x)):Step B0 kf xf (a::rest) (⟨a.ks,a.xs,if x≠0 then s1 else s2,if x≠0 then e1 else e2,0⟩::rest)
inductive Fin (B0:Sto):List AF→PV→PV→Prop
 | told {a:AF} {at_ v:PV} (hl:a.line=.tup [.str "give", at_]) (hv:Val a at_ v):Fin B0 [a] (.str "told") v
 | fail {a:AF} {rest:List AF} {w:Str} (hl:a.line=.tup [.str "fail", .str w]):Fin B0 (a::rest) (.str "fault") (.str w)
 | kind {a:AF} {rest:List AF} {at_ B1 B2 v:PV} (hl:a.line=.tup [.str "if", at_,B1,B2]) (hv:Val a at_ v) (hn:NoNum B0 v):Fin B0 (a::rest) (.str "fault") (.str "kind")
 | lt {a:AF} {rest:List AF} {w op:Str} {atoms args:List PV} {v:Str} (hl:a.ss[a.p]?=some (.tup [.str "let", .str w,.str op,.tup atoms])) (hn:atoms.length≤1000) (hv:ValL a atoms args) (ho:OpF B0 op args v):Fin B0 (a::rest) (.str "fault") (.str v)
inductive Steps (B0:Sto) (kf:List Str) (xf:List PV):Nat→List AF→List AF→Prop
 | nil {c:List AF}:Steps B0 kf xf 0 c c
 | cons {n:Nat} {c c1 c2:List AF} (h:Step B0 kf xf c c1) (t:Steps B0 kf xf n c1 c2):Steps B0 kf xf (n+1) c c2
theorem Steps.head {B0:Sto} {kf:List Str} {xf:List PV} {n:Nat} {a b:List AF} (g:Steps B0 kf xf n a b):∀m,m≤n→∃c,Steps B0 kf xf m a c:=by
 induction g with
 | nil=>intro m hm;exact ⟨_,by rw [show m=0 by omega];exact .nil⟩
 | cons h t ih =>
  intro m hm
  cases m with
  | zero=>exact ⟨_,.nil⟩
  | succ m=>obtain ⟨c,hc⟩:=ih m (by omega);exact ⟨c,.cons h hc⟩
section
variable {B0:Sto} {kf:List Str} {xf:List PV} {r F L:Nat} {T:PV} {st st1:Sto} {c c':List AF}
def At (B0:Sto) (kf:List Str) (xf:List PV) (r F L:Nat) (T:PV) (st:Sto) (c:List AF):Prop:=∃as,as.map Prod.fst=c∧Rep B0 kf xf r F L T st as
theorem zcm {a:AF} {c:List AF} (h:At B0 kf xf r F L T st (a::c)):∃f b as,as.map Prod.fst=c∧Rep B0 kf xf r F L T st ((a,f,b)::as):=by
 obtain ⟨as,e,R⟩:=h
 cases as with
 | nil=>cases e
 | cons x as =>
  obtain ⟨y,f,b⟩:=x
  simp at e
  obtain ⟨e1,e2⟩:=e
  subst e1
  exact ⟨f,b,as,e2,R⟩
theorem zmO (h:At B0 kf xf r F L T st c) (s:Step B0 kf xf c c'):∃st',m_Runner_go_line [.ref r] st=.ok .non st'∧At B0 kf xf r F L T st' c'∧c'≠[]:=by
 cases s with
 | lt hl hn hk hv ho =>
  obtain ⟨f,b,as,e,R⟩:=zcm h
  obtain ⟨st',g,R'⟩:=zol R hl hn hk hv ho
  exact ⟨st',g,⟨_,by simp [e],R'⟩,by simp⟩
 | call hl hn hv hg hb ha =>
  obtain ⟨f,b,as,e,R⟩:=zcm h
  obtain ⟨st',f',b',g,R'⟩:=zmN R hl hn hv hg hb (by rw [←e] at ha;simpa using ha)
  exact ⟨st',g,⟨_,by simp [e],R'⟩,by simp⟩
 | go hl hn hv hg hb ha =>
  obtain ⟨f,b,as,e,R⟩:=zcm h
  obtain ⟨st',f',b',g,R'⟩:=zpw R hl hn hv hg hb (by rw [←e] at ha;simpa using ha)
  exact ⟨st',g,⟨_,by simp [e],R'⟩,by simp⟩
 | give hl hv hc hk =>
  obtain ⟨f,b,as,e,R⟩:=zcm h
  cases as with
  | nil=>cases e
  | cons x as =>
   obtain ⟨y,g,d⟩:=x
   simp at e
   obtain ⟨e1,e2⟩:=e
   subst e1
   obtain ⟨st',g',R'⟩:=zmM R hl hv hc hk
   exact ⟨st',g',⟨_,by simp [e2],R'⟩,by simp⟩
 | iff hl hv =>
  obtain ⟨f,b,as,e,R⟩:=zcm h
  obtain ⟨st',g,R'⟩:=zpv R hl hv
  exact ⟨st',g,⟨_,by simp [e],R'⟩,by simp⟩
theorem at_rest (h:At B0 kf xf r F L T st c):m_Runner_at_rest [.ref r] st=.ok (.bl (decide (c=[]))) st:=by
 obtain ⟨as,e,R⟩:=h
 rw [zjs R.s]
 subst e
 cases as<;>simp [refs]
theorem zon {w v:PV} (h:At B0 kf xf r F L T st c) (s:Fin B0 c w v):(w=.str "told" ∧ ∃st',m_Runner_go_line [.ref r] st=.ok .non st'∧At B0 kf xf r F L v st' [])∨(w=.str "fault" ∧ ∃st' as',m_Runner_go_line [.ref r] st=.err "Fault" ["word"] [v] st'∧Rep B0 kf xf r F L T st' as'):=by
 cases s with
 | told hl hv =>
  obtain ⟨f,b,as,e,R⟩:=zcm h
  obtain rfl:as=[]:=by simpa using e
  obtain ⟨st',g,R'⟩:=zgM R hl hv
  exact .inl ⟨rfl,st',g,⟨_,rfl,R'⟩⟩
 | fail hl =>
  obtain ⟨f,b,as,e,R⟩:=zcm h
  exact .inr ⟨rfl,st,_,zmL R hl,R⟩
 | kind hl hv hn =>
  obtain ⟨f,b,as,e,R⟩:=zcm h
  exact .inr ⟨rfl,st,_,zom R hl hv hn,R⟩
 | lt hl hn hv ho =>
  obtain ⟨f,b,as,e,R⟩:=zcm h
  obtain ⟨st',g,R'⟩:=zmK R hl hn hv ho
  exact .inr ⟨rfl,st',_,g,R'⟩
end
end FK31
namespace FK31
open PySem L2 PySem.W Mi
abbrev tsR:PEnv→Mo Bool:=(mB (mOp oLt (mVar 4) (mVar 2)))
abbrev bdR:PEnv→Mo Fl:=(sSeq (sAug 4 ipAdd (mC (.int 1)))
  (sSeq (sTryE 5 "Fault" (xMeth "go_line" zQ (mVar 3) aNil)
  (sRet (mTup (aCons (mC (.str "fault")) (aCons (mUn (fldAt "word" insOf excOf) (mVar 5)) (aCons (mVar 4) aNil))))))
  (sIf (mB (mMeth "at_rest" zY (mVar 3) aNil))
  (sRet (mTup (aCons (mC (.str "told")) (aCons (mUn (fldAt "told" insOf excOf) (mVar 3)) (aCons (mVar 4) aNil)))))
  sNext)))
section
variable {B0:Sto} {kf:List Str} {xf:List PV} {r F L:Nat} {T:PV} {st st1:Sto} {c c':List AF} {v0 v1:Option PV} {bu s:Nat}
abbrev envR (v0 v1:Option PV) (bu r s:Nat):PEnv:=[v0,v1,some (.int bu),some (.ref r),some (.int s),none]
theorem a1R:(sAug 4 ipAdd (mC (.int 1))) (envR v0 v1 bu r s) st=.ok (.nx (envR v0 v1 bu r (s+1))) st:=by
 simp
theorem zhq (rn:st[r]?=some (RnO F L T)) (h:m_Runner_go_line [.ref r] st=.ok .non st1):bdR (envR v0 v1 bu r s) st=(sIf (mB (mMeth "at_rest" zY (mVar 3) aNil))
  (sRet (mTup (aCons (mC (.str "told")) (aCons (mUn (fldAt "told" insOf excOf) (mVar 3)) (aCons (mVar 4) aNil)))))
  sNext) (envR v0 v1 bu r (s+1)) st1:=by
 have x1:(xMeth "go_line" zQ (mVar 3) aNil) (envR v0 v1 bu r (s+1)) st=.ok .non st1:=by
  simp [zqb rn,h]
 have t1:∀gs,(sTryE 5 "Fault" (xMeth "go_line" zQ (mVar 3) aNil) gs) (envR v0 v1 bu r (s+1)) st=.ok (.nx (envR v0 v1 bu r (s+1))) st1:=fun gs=>by
  unfold sTryE
  rw [x1]
 simp only [bdR,zG]
 rw [a1R]
 simp only [zk,zy,zG]
 rw [t1]
 simp only [zk,zy]
theorem At.rn (h:At B0 kf xf r F L T st c):st[r]?=some (RnO F L T):=by obtain ⟨as,e,R⟩:=h;exact R.s.rn
theorem At.kb (h:At B0 kf xf r F L T st c):Kept B0 st:=by obtain ⟨as,e,R⟩:=h;exact R.kb
theorem zpx (h0:At B0 kf xf r F L T st c) (h:m_Runner_go_line [.ref r] st=.ok .non st1) (h1:At B0 kf xf r F L T st1 c') (ne:c'≠[]):bdR (envR v0 v1 bu r s) st=.ok (.nx (envR v0 v1 bu r (s+1))) st1:=by
 rw [zhq h0.rn h]
 have r1:=at_rest h1
 have:decide (c'=[])=false:=by simpa using ne
 rw [this] at r1
 simp [zhp h1.rn,r1]
theorem zoo {v:PV} (h0:At B0 kf xf r F L T st c) (h:m_Runner_go_line [.ref r] st=.ok .non st1) (h1:At B0 kf xf r F L v st1 []):bdR (envR v0 v1 bu r s) st=.ok (.rt (.tup [.str "told", v,.int (s+1:Nat)])) st1:=by
 rw [zhq h0.rn h]
 have r1:=at_rest h1
 simp [-zcq,zhp h1.rn,r1,zkJ h1.rn]
theorem zop {v:PV} (h0:At B0 kf xf r F L T st c) (h:m_Runner_go_line [.ref r] st=.err "Fault" ["word"] [v] st1):bdR (envR v0 v1 bu r s) st=.ok (.rt (.tup [.str "fault", v,.int (s+1:Nat)])) st1:=by
 have x1:(xMeth "go_line" zQ (mVar 3) aNil) (envR v0 v1 bu r (s+1)) st=.err "Fault" ["word"] [v] st1:=by
  simp [zqb h0.rn,h]
 have t1:(sTryE 5 "Fault" (xMeth "go_line" zQ (mVar 3) aNil) (sRet (mTup (aCons (mC (.str "fault")) (aCons (mUn (fldAt "word" insOf excOf) (mVar 5)) (aCons (mVar 4) aNil)))))) (envR v0 v1 bu r (s+1)) st=.ok (.rt (.tup [.str "fault", v,.int (s+1:Nat)])) st1:=by
  unfold sTryE
  rw [x1]
  simp [fldAt,excOf,List.lookup_cons,tryFl]
 simp only [bdR,zG]
 rw [a1R]
 simp only [zk,zy,zG]
 rw [t1]
 simp
theorem zjv {k:Nat} (g:Steps B0 kf xf k c c'):∀{st:Sto} (s fuel:Nat),At B0 kf xf r F L T st c→s+k≤bu→∃st',At B0 kf xf r F L T st' c' ∧
  whileF tsR bdR (fuel+k) (envR v0 v1 bu r s) st=whileF tsR bdR fuel (envR v0 v1 bu r (s+k)) st':=by
 induction g with
 | nil=>intro st s fuel h hs;exact ⟨st,h,rfl⟩
 | @cons n c c1 c2 h t ih =>
  intro st s fuel S0 hs
  obtain ⟨st1,g,S1,ne⟩:=zmO S0 h
  obtain ⟨st',S',e⟩:=ih (s+1) fuel S1 (by omega)
  refine ⟨st',S',?_⟩
  rw [show fuel+(n+1)=(fuel+n)+1 by omega,zb3]
  have t:tsR (envR v0 v1 bu r s) st=.ok true st:=by
   have:(s:Int)<bu:=by omega
   simp [this]
  rw [t]
  simp only [zk,if_true]
  rw [zpx S0 g S1 ne]
  simp only [zk]
  rw [e,show s+1+n=s+(n+1) by omega]
theorem zkK {B0 st:Sto} (h:Kept B0 st):B0.length≤st.length:=by
 apply Classical.byContradiction
 intro n
 have:=h st.length _ (List.getElem?_eq_getElem (by omega))
 simp at this
theorem Kept.pre {B0 st st':Sto} (h:Kept B0 st) (p:Pre st st'):Kept B0 st':=fun m so e=>p.get (h m so e)
def ByName (fns:List PV) (kf:List Str) (xf:List PV):Prop:=∀st,m_functions_by_name [.tup fns] st=.ok (.ref st.length) (st++[.dic kf xf])
theorem zkL {nm:PV} {ps:List PV} {ss:List PV} {e:PV} {more:List PV} {ins:List PV} {ks:List Str} {xs:List PV} (hn:ByName (.tup [nm,.tup ps,.tup [.tup ss,e]]::more) kf xf) (hb:Bnd ps ins ks xs) (hk:Kept B0 st) :
  ∃st',newI "Runner" m_Runner___init__ [.tup (.tup [nm,.tup ps,.tup [.tup ss,e]]::more),.tup ins] st=.ok (.ref st.length) st'∧At B0 kf xf st.length (st.length+1) (st.length+4) .non st' [⟨ks,xs,ss,e,0⟩]:=by
 have mk:=zjt (nm:=nm) (blk:=.tup [.tup ss,e]) hb
 have z:=hn (st++[.ins "Runner" [] []])
 simp at z
 have lk:=zkK hk
 refine ⟨st++[RnO (st.length+1) (st.length+4) .non,.dic kf xf,FrO (st.length+3) (.tup [.tup ss,e]) 0,.dic ks xs,.lst [.ref (st.length+2)]],?_,[(⟨ks,xs,ss,e,0⟩,st.length+2,st.length+3)],rfl,⟨⟨?_,?_,?_⟩,?_,by simp,?_,hk.pre (Pre.of _ _),by omega,by omega,by omega⟩⟩
 ·unfold newI
  simp [m_Runner___init__,mirror,zb7,zbf,zbe,z,mk,at0,Mi.putAt,withI,i2,Mi.putK]
 ·simp
 ·simp [refs]
 ·simp
 ·intro x hx
  obtain rfl:=List.mem_singleton.mp hx
  exact ⟨by simp,by simp⟩
 ·intro x hx
  obtain rfl:=List.mem_singleton.mp hx
  exact ⟨by simp,by simp⟩
theorem zpy {nm:PV} {ps:List PV} {ss:List PV} {e:PV} {more:List PV} {ins:List PV} {ks:List Str} {xs:List PV} {k:Nat} {w v:PV} (hn:ByName (.tup [nm,.tup ps,.tup [.tup ss,e]]::more) kf xf) (hb:Bnd ps ins ks xs)
  (g:Steps B0 kf xf k [⟨ks,xs,ss,e,0⟩] c) (fin:Fin B0 c w v) (hk:k≤900000) (kb:Kept B0 st) (bu:Nat) :
  ∃st',m_run [.tup (.tup [nm,.tup ps,.tup [.tup ss,e]]::more),.tup ins,.int bu] st=.ok (if k+1≤bu then .tup [w,v,.int (k+1:Nat)] else .tup [.str "out", .non,.int bu]) st'∧Kept B0 st':=by
 obtain ⟨s1,run,A1⟩:=zkL (st:=st) hn hb kb
 generalize hP:PV.tup (.tup [nm,.tup ps,.tup [.tup ss,e]]::more)=P at run ⊢
 generalize st.length+4=L at A1
 generalize st.length+1=F at A1
 generalize st.length=r at A1 run
 have start:(sSet 3 (mCall (newI "Runner" m_Runner___init__) (aCons (mVar 0) (aCons (mVar 1) aNil)))) [some P,some (.tup ins),some (.int bu),none,none,none] st=.ok (.nx [some P,some (.tup ins),some (.int bu),some (.ref r),none,none]) s1:=by
  simp only [zbH,zbn,zaM,zco,zcp,List.getElem?_cons_zero,List.getElem?_cons_succ,zk]
  rw [run]
  rfl
 have hlim:(lim:Nat)=1000000:=rfl
 by_cases hbu:k+1≤bu
 ·obtain ⟨s2,A2,e2⟩:=zjv (v0:=some P) (v1:=some (.tup ins)) (bu:=bu) g 0 (lim-k) A1 (by omega)
  have t:tsR (envR (some P) (some (.tup ins)) bu r k) s2=.ok true s2:=by
   have:(k:Int)<bu:=by omega
   simp [this]
  have last:∃s3,bdR (envR (some P) (some (.tup ins)) bu r k) s2=.ok (.rt (.tup [w,v,.int (k+1:Nat)])) s3∧Kept B0 s3:=by
   rcases zon A2 fin with ⟨rfl,s3,g3,A3⟩|⟨rfl,s3,as',g3,R3⟩
   ·exact ⟨s3,zoo A2 g3 A3,A3.kb⟩
   ·exact ⟨s3,zop A2 g3,R3.kb⟩
  obtain ⟨s3,e3,kb3⟩:=last
  refine ⟨s3,?_,kb3⟩
  rw [if_pos hbu]
  show (zjp [some P,some (.tup ins),some (.int bu),none,none,none] st).bind endOf=_
  simp only [zjp,zG]
  rw [start]
  simp only [zk,zy,zfs,zG,zbH,zjN,List.set_cons_succ,List.set_cons_zero,zfr]
  have wl:sWhile tsR bdR [some P,some (.tup ins),some (.int bu),some (.ref r),some (.int 0),none] s1=.ok (.rt (.tup [w,v,.int (k+1:Nat)])) s3:=by
   show whileF tsR bdR lim _ _=_
   have hl:lim=(lim-k)+k:=by omega
   rw [hl]
   have e':whileF tsR bdR ((lim-k)+k) [some P,some (.tup ins),some (.int bu),some (.ref r),some (.int 0),none] s1=_:=e2
   rw [e',Nat.zero_add]
   have hl2:lim-k=(lim-k-1)+1:=by omega
   rw [hl2,zb3,t]
   simp only [zk,if_true]
   rw [e3]
   simp
  rw [wl]
  simp
 ·obtain ⟨c2,g'⟩:=g.head bu (by omega)
  obtain ⟨s2,A2,e2⟩:=zjv (v0:=some P) (v1:=some (.tup ins)) (bu:=bu) g' 0 (lim-bu) A1 (by omega)
  refine ⟨s2,?_,A2.kb⟩
  rw [if_neg hbu]
  show (zjp [some P,some (.tup ins),some (.int bu),none,none,none] st).bind endOf=_
  simp only [zjp,zG]
  rw [start]
  simp only [zk,zy,zfs,zG,zbH,zjN,List.set_cons_succ,List.set_cons_zero,zfr]
  have wl:sWhile tsR bdR [some P,some (.tup ins),some (.int bu),some (.ref r),some (.int 0),none] s1=.ok (.nx (envR (some P) (some (.tup ins)) bu r bu)) s2:=by
   show whileF tsR bdR lim _ _=_
   have hl:lim=(lim-bu)+bu:=by omega
   rw [hl]
   have e':whileF tsR bdR ((lim-bu)+bu) [some P,some (.tup ins),some (.int bu),some (.ref r),some (.int 0),none] s1=_:=e2
   rw [e',Nat.zero_add]
   have hl2:lim-bu=(lim-bu-1)+1:=by omega
   rw [hl2,zb3]
   simp
  rw [wl]
  simp [zhc]
end
end FK31
namespace FK31
open PySem L2 PySem.W Mi
mutual
def nd:PV→Nat
 | .tup xs=>nds xs+1
 | _=>1
def nds:List PV→Nat
 | []=>0
 | x::xs=>nd x+nds xs
end
inductive Vd:PV→Prop
 | int (i:Int) (h : -1000000000000000000<i∧i<1000000000000000000):Vd (.int i)
 | str (z:Str):Vd (.str z)
 | tup (xs:List PV) (h:∀x∈xs,Vd x):Vd (.tup xs)
theorem zoq:∀x:PV,1≤nd x
 | .tup xs=>Nat.le_add_left 1 (nds xs)
 | .int _=>Nat.le_refl 1
 | .str _=>Nat.le_refl 1
 | .non=>Nat.le_refl 1
 | .bl _=>Nat.le_refl 1
 | .ty _=>Nat.le_refl 1
 | .frl _=>Nat.le_refl 1
 | .ref _=>Nat.le_refl 1
 | .fn _=>Nat.le_refl 1
 | .kd _ _=>Nat.le_refl 1
 | .exo _ _ _=>Nat.le_refl 1
theorem zjw:∀a b:List PV,nds (a++b)=nds a+nds b
 | [],b=>by simp [nds]
 | x::a,b=>by simp only [List.cons_append,nds,zjw a b];omega
theorem zd3:∀xs:List PV,xs.length≤nds xs
 | []=>by simp [nds]
 | x::xs=>by have:=zoq x;have:=zd3 xs;simp only [nds,List.length_cons];omega
theorem ze3:∀xs:List PV,(∀x∈xs,plain x=true)→plains xs=true
 | [],_=>rfl
 | x::xs,h=>by
  show (plain x&&plains xs)=true
  rw [h x (List.mem_cons_self ..),ze3 xs fun y hy=>h y (List.mem_cons_of_mem _ hy)];rfl
theorem zhr:∀xs:List PV,(∀x∈xs,dep x≤nd x)→deps xs≤nds xs
 | [],_=>Nat.le_refl 0
 | x::xs,h=>by
  have h1:=h x (List.mem_cons_self ..)
  have h2:=zhr xs fun y hy=>h y (List.mem_cons_of_mem _ hy)
  show max (dep x) (deps xs)≤nd x+nds xs
  omega
theorem Vd.plain {x:PV} (h:Vd x):Mi.plain x=true:=by
 induction h with
 | int i h=>rfl
 | str z=>rfl
 | tup xs h ih=>exact ze3 xs ih
theorem Vd.dep {x:PV} (h:Vd x):Mi.dep x≤nd x:=by
 induction h with
 | int i h=>exact Nat.zero_le _
 | str z=>exact Nat.zero_le _
 | tup xs h ih=>have:=zhr xs ih;show deps xs+1≤nds xs+1;omega
def kids:PV→List PV
 | .tup xs=>xs
 | _=>[]
theorem Vd.nd {x:PV} (h:Vd x):FK31.nd x=nds (kids x)+1:=by cases h<;>rfl
theorem Vd.kids {x:PV} (h:Vd x):∀y∈FK31.kids x,Vd y:=by
 cases h with
 | int i h=>intro y hy;cases hy
 | str z=>intro y hy;cases hy
 | tup xs h=>exact h
def kn:PV→String
 | .int _ => "int"
 | .str _ => "str"
 | _ => "tuple"
theorem Vd.isi {x:PV} (h:Vd x) (st:Sto) (t:String):oIsi isT [x,.ty t] st=optB (tyb (kn x) t) st:=by cases h<;>rfl
theorem t1:tyb "int" "str" = some false:=rfl
theorem t2:tyb "int" "tuple" = some false:=rfl
theorem t3:tyb "int" "dict" = some false:=rfl
theorem t4:tyb "int" "int" = some true:=rfl
theorem t5:tyb "str" "str" = some true:=rfl
theorem t6:tyb "str" "tuple" = some false:=rfl
theorem t7:tyb "str" "dict" = some false:=rfl
theorem t8:tyb "str" "int" = some false:=rfl
theorem t9:tyb "tuple" "str" = some false:=rfl
theorem ta:tyb "tuple" "tuple" = some true:=rfl
theorem tb:tyb "tuple" "int" = some false:=rfl
theorem tc:tyb "int" "bool" = some false:=rfl
def kw:PV→Str
 | .int _ => "number"
 | .str _ => "word"
 | _ => "row"
theorem Vd.kind {x:PV} (h:Vd x) (st:Sto):m_kind_of [x] st=.ok (.str (kw x)) st:=by
 have e:=h.isi st
 cases h<;>simp [m_kind_of,mirror,zeF,zcH,zcG,zcF,e,kn,kw,t1,t2,t3,t5,t9,ta,optB]
theorem Vd.things {x:PV} (h:Vd x) (st:Sto):m_things_within [x] st=.ok (.ref st.length) (st++[.lst (FK31.kids x)]):=by
 have e:=h.isi st
 cases h<;>simp [m_things_within,mirror,zcI,zbR,zbQ,e,kn,FK31.kids,t2,t3,t6,t7,ta,optB,oList]
abbrev tsA:PEnv→Mo Bool:=(mB (mOp oLt (mVar 2) (mCall oLen (aCons (mVar 1) aNil))))
abbrev bdA:PEnv→Mo Fl:=(sSeq (sExpr (mMut oExtend (mVar 1) (mCall m_things_within (aCons (mOp oIxD (mVar 1) (mVar 2)) aNil))))
  (sAug 2 ipAdd (mC (.int 1))))
def Ob (r:Nat) (a b:Sto):Prop:=∀(n:Nat) so,n≠r→a[n]?=some so→b[n]?=some so
theorem zhs {q:Option PV} {f:Nat}:∀(m i fuel:Nat) (L:List PV) (st:Sto),st[f]?=some (.lst L)→(∀x∈L,Vd x)→i≤L.length→nds (L.drop i)=m→m<fuel→i+m≤1000 →
  ∃L' st',whileF tsA bdA fuel [q,some (.ref f),some (.int i)] st=.ok (.nx [q,some (.ref f),some (.int (i+m:Nat))]) st'∧st'[f]?=some (.lst L')∧L'.length=i+m∧Ob f st st'
 | 0,i,fuel,L,st,h,hv,hi,hm,hf,hb=>by
  obtain ⟨f',rfl⟩:∃f',fuel=f'+1:=⟨fuel-1,by omega⟩
  have hl:=zd3 (L.drop i)
  rw [hm,List.length_drop] at hl
  have e:i=L.length:=by omega
  refine ⟨L,st,?_,h,by omega,fun _ _ _ e=>e⟩
  rw [zb3]
  simp [zn h,e]
 | m+1,i,fuel,L,st,h,hv,hi,hm,hf,hb=>by
  obtain ⟨f',rfl⟩:∃f',fuel=f'+1:=⟨fuel-1,by omega⟩
  have lt:i<L.length:=by
   rcases Nat.lt_or_ge i L.length with z|z
   ·exact z
   ·rw [List.drop_eq_nil_of_le z] at hm;simp [nds] at hm
  have hd:L.drop i=L[i]::L.drop (i+1):=List.drop_eq_getElem_cons lt
  have vx:Vd L[i]:=hv _ (List.getElem_mem lt)
  have hn:L[i]?=some L[i]:=List.getElem?_eq_getElem lt
  generalize L[i]=x at hd vx hn
  have fl:=zb0 h
  have h1:(st++[SO.lst (kids x)])[f]?=some (.lst L):=(Pre.of _ _).get h
  have h2:(st++[SO.lst (kids x)])[st.length]?=some (.lst (kids x)):=zaq _ _
  have hm':nds ((L++kids x).drop (i+1))=m:=by
   rw [List.drop_append_of_le_length (by omega),zjw]
   rw [hd] at hm
   simp only [nds] at hm
   rw [vx.nd] at hm
   omega
  have ll:(L++kids x).length≤1000:=by
   have:=zd3 ((L++kids x).drop (i+1))
   rw [hm',List.length_drop] at this
   have:L.length≤(L++kids x).length:=by simp
   omega
  have h3:((st++[SO.lst (kids x)]).set f (.lst (L++kids x)))[f]?=some (.lst (L++kids x)):=by rw [List.getElem?_set_self (by simp;omega)]
  obtain ⟨L',st',e1,e2,e3,e4⟩:=zhs (q:=q) m (i+1) f' (L++kids x) _ h3 (fun y hy=>by
   rcases List.mem_append.mp hy with hy|hy
   ·exact hv y hy
   ·exact vx.kids y hy) (by simp;omega) hm' (by omega) (by omega)
  refine ⟨L',st',?_,e2,by omega,fun n so ne e=>e4 n so ne (by rw [List.getElem?_set_ne (Ne.symm ne)];exact (Pre.of _ _).get e)⟩
  rw [zb3]
  have t:tsA [q,some (.ref f),some (.int i)] st=.ok true st:=by
   have:(i:Int)<L.length:=by omega
   simp [zn h,this]
  have ex:oExtend (.ref f) (.ref st.length) (st++[SO.lst (kids x)])=.ok .non ((st++[SO.lst (kids x)]).set f (.lst (L++kids x))):=by
   simp only [oExtend,zn h1,zn h2]
   rw [if_pos (by have:L.length+(kids x).length≤1000:=by simpa using ll
                  show L.length+(kids x).length≤1000000;omega)]
  have bd:bdA [q,some (.ref f),some (.int i)] st=.ok (.nx [q,some (.ref f),some (.int (i+1:Nat))]) ((st++[SO.lst (kids x)]).set f (.lst (L++kids x))):=by
   generalize (st++[SO.lst (kids x)]).set f (.lst (L++kids x))=s9 at ex
   simp [zn h,atI_get hn,vx.things,ex]
  rw [t]
  simp only [zk,if_true]
  rw [bd]
  simp only [zk]
  rw [e1,show i+1+m=i+(m+1) by omega]
theorem zgN {st st':Sto} (h:∀(n:Nat) so,st[n]?=some so→st'[n]?=some so):∃d,st'=st++d:=by
 refine ⟨st'.drop st.length,?_⟩
 apply List.ext_getElem?
 intro n
 by_cases hn:n<st.length
 ·rw [List.getElem?_append_left hn,List.getElem?_eq_getElem hn]
  exact h n _ (List.getElem?_eq_getElem hn)
 ·rw [List.getElem?_append_right (by omega),List.getElem?_drop]
  congr 1
  omega
theorem Vd.parts {x:PV} (h:Vd x) (hb:FK31.nd x≤500) (st:Sto):∃d,m_parts [x] st=.ok (.int (FK31.nd x)) (st++d):=by
 have h0:(st++[SO.lst [x]])[st.length]?=some (.lst [x]):=zaq _ _
 obtain ⟨L',st',e1,e2,e3,e4⟩:=zhs (q:=some x) (f:=st.length) (FK31.nd x) 0 lim [x] _ h0 (fun y hy=>by rw [List.mem_singleton.mp hy];exact h) (Nat.zero_le _) (by simp [nds]) (by show FK31.nd x<1000000;omega) (by omega)
 obtain ⟨d,rfl⟩:=zgN (st:=st) (st':=st') fun n so e=>e4 n so (Nat.ne_of_lt (zb0 e)) ((Pre.of _ _).get e)
 refine ⟨d,?_⟩
 have al:m_all_within [x] st=.ok (.ref st.length) (st++d):=by
  show (zcM [some x,none,none] st).bind endOf=_
  simp only [zcM,zG,zbH,ziX,zaM,zco,zcp,List.getElem?_cons_zero,zk]
  simp only [zcL,zcK,zG,zbH,zjN,zy,zk,List.length_cons,List.length_nil,List.set_cons_succ,List.set_cons_zero]
  rw [if_pos (by show 1≤1000000;omega)]
  simp only [zG,zbH,zjN,zy,zk,List.set_cons_succ,List.set_cons_zero]
  have w1:sWhile tsA bdA [some x,some (.ref st.length),some (.int 0)] (st++[.lst [x]])=_:=e1
  rw [w1]
  simp [zcJ]
 generalize st++d=s3 at e2 al ⊢
 rw [Nat.zero_add] at e3
 simp [m_parts,mirror,zjo,al,zn e2,e3]
end FK31
namespace FK31
open PySem L2 PySem.W Mi
def Gd (x:PV):Prop:=Vd x∧nd x≤60
theorem zjx {x y:PV} (hx:Vd x) (hy:Vd y) (st:Sto):m_check_kinds [.tup [.str "number", .str "number"],.tup [x,y]] st=if kw x = "number" ∧ kw y = "number" then .ok .non st else .err "Fault" ["word"] [.str "kind"] st:=by
 have kx:=hx.kind st
 have ky:=hy.kind st
 cases hx<;>cases hy<;>simp [m_check_kinds,mirror,zaG,zipP,forL,kx,ky,kw]
theorem zlk {x y:PV} (hy:Vd y) (st:Sto):m_check_kinds [.tup [.str "any", .str "row"],.tup [x,y]] st=if kw y = "row" then .ok .non st else .err "Fault" ["word"] [.str "kind"] st:=by
 have ky:=hy.kind st
 cases hy<;>simp [m_check_kinds,mirror,zaG,zipP,forL,ky,kw]
theorem zll (x y:PV) (st:Sto):m_check_kinds [.tup [.str "any", .str "any"],.tup [x,y]] st=.ok .non st:=by
 simp [m_check_kinds,mirror,zaG,zipP,forL]
abbrev OpIs (op:Str) (K1:PV) (f:Str) (mt:List PV→Mo PV):Prop:=(zay.zip zaz).lookup op=some (.tup [K1,.fn f])∧za0 f=some mt∧∀st,m_op_of [.str op] st=.ok (.ref st.length) (st++[OpO op 2])
section
variable {op f:Str} {K1 v:PV} {mt:List PV→Mo PV} {args:List PV} {w:Str}
theorem ansF (h:OpIs op K1 f mt) (hc:∀st,m_check_kinds [K1,.tup args] st=.err "Fault" ["word"] [.str w] st):OpF [] op args w:=⟨2,h.2.2,fun st o _ ho=>⟨[],by
 simp [m_Op_answer,mirror,zbB,zaa ho,i3,List.lookup_cons,h.1,at0,hc]⟩⟩
theorem ansW (h:OpIs op K1 f mt) (hc:∀st,m_check_kinds [K1,.tup args] st=.ok .non st) (hm:∀st,mt [.tup args] st=.err "Fault" ["word"] [.str w] st):OpF [] op args w:=⟨2,h.2.2,fun st o _ ho=>⟨[],by
 simp [m_Op_answer,mirror,zbB,za2,za1,zaa ho,i3,List.lookup_cons,h.1,h.2.1,at0,at1,hc,hm]⟩⟩
theorem ansT (h:OpIs op K1 f mt) (hc:∀st,m_check_kinds [K1,.tup args] st=.ok .non st) (hm:∀st,mt [.tup args] st=.ok v st) (hv:Vd v) (hb:nd v≤60):OpA [] op args v:=⟨2,h.2.2,fun st o _ ho=>by
 obtain ⟨d,hd⟩:=hv.parts (by omega) st
 refine ⟨d,?_⟩
 have:¬(60:Int)<(nd v:Nat):=by omega
 generalize st++d=s1 at hd ⊢
 simp [m_Op_answer,mirror,zbB,za2,za1,zbZ,zbY,zaa ho,i3,List.lookup_cons,h.1,h.2.1,at0,at1,hc,hm,hd]
 omega⟩
theorem ansL (h:OpIs op K1 f mt) (hc:∀st,m_check_kinds [K1,.tup args] st=.ok .non st) (hm:∀st,mt [.tup args] st=.ok v st) (hv:Vd v) (hb:60<nd v) (hb2:nd v≤500):OpF [] op args "large" := ⟨2,h.2.2,fun st o _ ho=>by
 obtain ⟨d,hd⟩:=hv.parts (by omega) st
 refine ⟨d,?_⟩
 generalize st++d=s1 at hd ⊢
 simp [m_Op_answer,mirror,zbB,za2,za1,zbZ,zbY,zaa ho,i3,List.lookup_cons,h.1,h.2.1,at0,at1,hc,hm,hd]
 omega⟩
end
theorem zlm:OpIs "add" (.tup [.str "number", .str "number"]) "tell_add" m_tell_add:=⟨by simp [zay,zaz,List.lookup_cons],by simp [za0],fun st=>by
 simp [m_op_of,mirror,zdf,zaR,kdIn,zay,zaz,newI,m_Op___init__,zad,zN,withI,insOf,Mi.putK,atI,ixN,List.lookup_cons]⟩
theorem zln:OpIs "sub" (.tup [.str "number", .str "number"]) "tell_sub" m_tell_sub:=⟨by simp [zay,zaz,List.lookup_cons],by simp [za0],fun st=>by
 simp [m_op_of,mirror,zdf,zaR,kdIn,zay,zaz,newI,m_Op___init__,zad,zN,withI,insOf,Mi.putK,atI,ixN,List.lookup_cons]⟩
theorem zlo:OpIs "mul" (.tup [.str "number", .str "number"]) "tell_mul" m_tell_mul:=⟨by simp [zay,zaz,List.lookup_cons],by simp [za0],fun st=>by
 simp [m_op_of,mirror,zdf,zaR,kdIn,zay,zaz,newI,m_Op___init__,zad,zN,withI,insOf,Mi.putK,atI,ixN,List.lookup_cons]⟩
theorem zgO:OpIs "less" (.tup [.str "number", .str "number"]) "tell_less" m_tell_less:=⟨by simp [zay,zaz,List.lookup_cons],by simp [za0],fun st=>by
 simp [m_op_of,mirror,zdf,zaR,kdIn,zay,zaz,newI,m_Op___init__,zad,zN,withI,insOf,Mi.putK,atI,ixN,List.lookup_cons]⟩
theorem zjy:OpIs "same" (.tup [.str "any", .str "any"]) "tell_same" m_tell_same:=⟨by simp [zay,zaz,List.lookup_cons],by simp [za0],fun st=>by
 simp [m_op_of,mirror,zdf,zaR,kdIn,zay,zaz,newI,m_Op___init__,zad,zN,withI,insOf,Mi.putK,atI,ixN,List.lookup_cons]⟩
theorem zfw:OpIs "front" (.tup [.str "any", .str "row"]) "tell_front" m_tell_front:=⟨by simp [zay,zaz,List.lookup_cons],by simp [za0],fun st=>by
 simp [m_op_of,mirror,zdf,zaR,kdIn,zay,zaz,newI,m_Op___init__,zad,zN,withI,insOf,Mi.putK,atI,ixN,List.lookup_cons]⟩
theorem zcc {fe:PEnv→Mo PV} {env:PEnv} {f:PV→PV}:∀(xs:List PV),(∀x∈xs,∀st,∃d,fe (some x::env) st=.ok (f x) (st++d))→∀(ys:List PV) (st:Sto),∃d,compL fe env xs ys st=.ok (.ref (st++d).length) (st++d++[.lst (ys++xs.map f)])
 | [],_,ys,st=>⟨[],by simp [compL]⟩
 | x::xs,h,ys,st=>by
  obtain ⟨d,hd⟩:=h x (List.mem_cons_self ..) st
  obtain ⟨d2,h2⟩:=zcc xs (fun y hy=>h y (List.mem_cons_of_mem _ hy)) (ys++[f x]) (st++d)
  refine ⟨d++d2,?_⟩
  simp only [compL,hd,zdq,zk]
  rw [h2]
  simp
theorem zht:∀is:List Int,intsP (is.map PV.int)=some is
 | []=>rfl
 | i::is=>by simp [intsP,zht is]
theorem deps_mem {x:PV}:∀{xs:List PV},x∈xs→dep x≤deps xs
 | y::ys,h=>by
  show dep x≤max (dep y) (deps ys)
  rcases List.mem_cons.mp h with rfl|h
  ·omega
  ·have:=deps_mem h;omega
theorem zjz:∀xs:List PV,(xs.map fun x=>((nd x:Nat):Int)).sum=((nds xs:Nat):Int)
 | []=>rfl
 | x::xs=>by simp only [List.map_cons,List.sum_cons,zjz xs,nds];omega
theorem lparts:∀(n:Nat) (x:PV) (st:Sto),Vd x→nds (kids x)≤1000→dep x<n→∃d,zC n [x] st=.ok (.int (nd x)) (st++d)
 | 0,x,st,_,_,h=>by omega
 | n+1,x,st,hv,hb,h=>by
  have e:=hv.isi st
  cases hv with
  | int i h=>exact ⟨[],by simp [zC,za3,mirror,zbN,zbu,e,kn,t2,optB,nd]⟩
  | str z=>exact ⟨[],by simp [zC,za3,mirror,zbN,zbu,e,kn,t6,optB,nd]⟩
  | tup xs hx =>
   have hl:=zd3 xs
   have hb':nds xs≤1000:=hb
   have hd:deps xs+1<n+1:=h
   obtain ⟨d,hd⟩:=zcc (fe:=mCall (zC n) (aCons (mVar 0) aNil)) (env:=[some (.tup xs)]) (f:=fun x=>.int (nd x)) xs (fun x hxx st=>by
    have hv:=hx x hxx
    have:nd x≤nds xs:=by
     clear hd hl hb hb' e h
     induction xs with
     | nil=>cases hxx
     | cons y ys ih =>
      simp only [nds]
      rcases List.mem_cons.mp hxx with rfl|h
      ·omega
      ·have:=ih (fun z hz=>hx z (List.mem_cons_of_mem _ hz)) h;omega
    obtain ⟨d,e⟩:=lparts n x st hv (by have:=hv.nd;omega) (by have:=deps_mem hxx;omega)
    exact ⟨d,by simp [e]⟩) [] st
   rw [List.nil_append] at hd
   refine ⟨d++[.lst (xs.map fun x=>.int (nd x))],?_⟩
   have cm:mComp (iVal (mVar 0)) (mCall (zC n) (aCons (mVar 0) aNil)) [some (.tup xs)] st=.ok (.ref (st++d).length) (st++d++[.lst (xs.map fun x=>.int (nd x))]):=by
    show compS _ _ (.im xs) st=_
    rw [compS,if_pos (by show xs.length≤1000000;omega)]
    exact hd
   have ht:=zaq (st++d) (.lst (xs.map fun x=>.int (nd x)))
   have es:(xs.map fun x=>PV.int (nd x))=(xs.map fun x=>((nd x:Nat):Int)).map PV.int:=by simp
   have sm:oSum [.ref (st++d).length] (st++d++[.lst (xs.map fun x=>.int (nd x))])=.ok (.int (nds xs:Nat)) (st++d++[.lst (xs.map fun x=>.int (nd x))]):=by
    simp only [oSum,zjg,zn ht,zk]
    rw [es,zht]
    simp only [zjz]
   rw [←List.append_assoc]
   generalize st++d++[SO.lst (xs.map fun x=>.int (nd x))]=s1 at cm sm ⊢
   generalize (st++d).length=n0 at cm sm
   simp only [zC,za3,mirror,zbN]
   simp [-zdP,-zn9,e,kn,ta,optB,cm,sm,nd]
   omega
end FK31
namespace FK31
open PySem L2 PySem.W Mi
abbrev Bd (i:Int):Prop := -1000000000000000000<i∧i<1000000000000000000
def wd (op:Str) (f:PV):Str:=if eqP f (.str "kind")=true then "kind" else if op = "front" then "large" else "wide"
def Told (op:Str) (x y:PV):Prop :=
 (∃v,Gd v∧OpA [] op [x,y] v∧∀st,∃d,m__law_told [.str op,x,y] st=.ok (.tup [.bl true,v]) (st++d)) ∨
 (∃f,plain f=true∧dep f≤150∧OpF [] op [x,y] (wd op f)∧∀st,∃d,m__law_told [.str op,x,y] st=.ok (.tup [.bl false,f]) (st++d))
theorem zhu (r:Int) (st:Sto):m_within_bounds [.int r] st=if Bd r then .ok (.int r) st else .err "Fault" ["word"] [.str "wide"] st:=by
 by_cases h:Bd r
 ·rw [if_pos h]
  simp [m_within_bounds,mirror,zaH,zah,m_in_bounds,zcl,h.1,h.2]
 ·rw [if_neg h]
  by_cases h1 : -1000000000000000000<r
  ·have h2:¬r<1000000000000000000:=fun z=>h ⟨h1,z⟩
   simp [m_within_bounds,mirror,zaH,zah,m_in_bounds,zcl,h1,h2]
  ·simp [m_within_bounds,mirror,zaH,zah,m_in_bounds,zcl,h1]
theorem zjA (r:Int):((if r<0 then -r else r)<1000000000000000000)↔Bd r:=by
 unfold Bd
 split<;>omega
theorem zeJ {op f:Str} {mt:List PV→Mo PV} {i j r:Int} (hi:Bd i) (hj:Bd j) (h:OpIs op (.tup [.str "number", .str "number"]) f mt) (hw:op ≠ "front")
  (hm:∀st,mt [.tup [.int i,.int j]] st=m_within_bounds [.int r] st) (ht:∀st,m__law_told [.str op,.int i,.int j] st=.ok (.tup [.bl (decide (Bd r)),.int r]) st):Told op (.int i) (.int j):=by
 have hc:∀st,m_check_kinds [.tup [.str "number", .str "number"],.tup [.int i,.int j]] st=.ok .non st:=fun st=>by
  rw [zjx (.int i hi) (.int j hj)];simp [kw]
 by_cases hb:Bd r
 ·refine .inl ⟨.int r,⟨.int r hb,by simp [nd]⟩,ansT h hc (fun st=>by rw [hm,zhu,if_pos hb]) (.int r hb) (by simp [nd]),fun st=>⟨[],?_⟩⟩
  rw [ht,decide_eq_true hb,List.append_nil]
 ·refine .inr ⟨.int r,rfl,Nat.zero_le _,?_,fun st=>⟨[],?_⟩⟩
  ·have e:wd op (.int r) = "wide" := by
    unfold wd
    rw [if_neg (by show ¬(false=true);decide),if_neg hw]
   rw [e]
   exact ansW h hc fun st=>by rw [hm,zhu,if_neg hb]
  ·rw [ht,decide_eq_false hb,List.append_nil]
theorem zfx (r:Res PV):(r.bind fun x st1=>Res.ok (Fl.rt x) st1).bind endOf=r:=by cases r<;>rfl
theorem ii (i:Int) (st:Sto):oIsi isT [.int i,.ty "int"] st=.ok (.bl true) st:=rfl
theorem zkM {i j:Int} (hi:Bd i) (hj:Bd j):Told "add" (.int i) (.int j):=zeJ (r:=i+j) hi hj zlm (by simp) (fun st=>by simp [m_tell_add,mirror,ze0,at0,at1,zfx]) fun st=>by
 have pw:((10:Int) ^ (18:Int).toNat)=1000000000000000000:=by decide
 have cp:cPow 10 18=true:=by decide
 have cm:cMul i j=true:=by simp [cMul];omega
 simp [m__law_told,mirror,zM,zI,zS,zag,zaZ,zaY,zaX,zaW,ii,cm,cp,pw,zjA]
theorem zkN {i j:Int} (hi:Bd i) (hj:Bd j):Told "sub" (.int i) (.int j):=zeJ (r:=i-j) hi hj zln (by simp) (fun st=>by simp [m_tell_sub,mirror,ze1,at0,at1,zfx]) fun st=>by
 have pw:((10:Int) ^ (18:Int).toNat)=1000000000000000000:=by decide
 have cp:cPow 10 18=true:=by decide
 have cm:cMul i j=true:=by simp [cMul];omega
 simp [m__law_told,mirror,zM,zI,zS,zag,zaZ,zaY,zaX,zaW,ii,cm,cp,pw,zjA]
theorem zkO {i j:Int} (hi:Bd i) (hj:Bd j):Told "mul" (.int i) (.int j):=zeJ (r:=i*j) hi hj zlo (by simp) (fun st=>by
 have cm:cMul i j=true:=by simp [cMul];omega
 simp [m_tell_mul,mirror,ze2,at0,at1,cm,zfx]) fun st=>by
 have pw:((10:Int) ^ (18:Int).toNat)=1000000000000000000:=by decide
 have cp:cPow 10 18=true:=by decide
 have cm:cMul i j=true:=by simp [cMul];omega
 simp [m__law_told,mirror,zM,zI,zS,zag,zaZ,zaY,zaX,zaW,ii,cm,cp,pw,zjA]
theorem zjB {i j:Int} (hi:Bd i) (hj:Bd j):Told "less" (.int i) (.int j):=by
 have hc:∀st,m_check_kinds [.tup [.str "number", .str "number"],.tup [.int i,.int j]] st=.ok .non st:=fun st=>by
  rw [zjx (.int i hi) (.int j hj)];simp [kw]
 by_cases h:i<j
 ·refine .inl ⟨.int 1,⟨.int 1 (by decide),by simp [nd]⟩,ansT zgO hc (fun st=>?_) (.int 1 (by decide)) (by simp [nd]),fun st=>⟨[],?_⟩⟩
  ·simp [m_tell_less,mirror,zdd,at0,at1,m_number_of,zbA,h]
  ·simp [m__law_told,mirror,zM,zI,zS,zag,ii,h,oInt]
 ·refine .inl ⟨.int 0,⟨.int 0 (by decide),by simp [nd]⟩,ansT zgO hc (fun st=>?_) (.int 0 (by decide)) (by simp [nd]),fun st=>⟨[],?_⟩⟩
  ·simp [m_tell_less,mirror,zdd,at0,at1,m_number_of,zbA,h]
  ·simp [m__law_told,mirror,zM,zI,zS,zag,ii,h,oInt]
theorem zpz {x y:PV} (hx:Gd x) (hy:Gd y) (st:Sto):oEq x y st=.ok (.bl (eqP x y)) st:=by
 have:=hx.1.dep
 have:=hx.2
 unfold oEq
 rw [if_pos ⟨hx.1.plain,hy.1.plain,by omega⟩]
theorem zgi {x y:PV} (hx:Gd x) (hy:Gd y):Told "same" x y:=by
 have e:=zpz hx hy
 cases h:eqP x y
 ·refine .inl ⟨.int 0,⟨.int 0 (by decide),by simp [nd]⟩,ansT zjy (zll x y) (fun st=>?_) (.int 0 (by decide)) (by simp [nd]),fun st=>⟨[],?_⟩⟩
  ·simp [-zeL,m_tell_same,mirror,zde,at0,at1,m_number_of,zbA,e,h]
  ·have s:oEq (.str "same") (.str "same") st=.ok (.bl true) st:=by simp
   simp [-zeL,m__law_told,mirror,zM,e,h,oInt,s]
 ·refine .inl ⟨.int 1,⟨.int 1 (by decide),by simp [nd]⟩,ansT zjy (zll x y) (fun st=>?_) (.int 1 (by decide)) (by simp [nd]),fun st=>⟨[],?_⟩⟩
  ·simp [-zeL,m_tell_same,mirror,zde,at0,at1,m_number_of,zbA,e,h]
  ·have s:oEq (.str "same") (.str "same") st=.ok (.bl true) st:=by simp
   simp [-zeL,m__law_told,mirror,zM,e,h,oInt,s]
theorem zdG {op f:Str} {mt:List PV→Mo PV} {x y:PV} (hx:Vd x) (hy:Vd y) (hn:¬(kw x = "number" ∧ kw y = "number")) (h:OpIs op (.tup [.str "number", .str "number"]) f mt) (h1:op ≠ "same") (h2:op ≠ "front"):Told op x y:=by
 refine .inr ⟨.str "kind", rfl,Nat.zero_le _,?_,fun st=>⟨[],?_⟩⟩
 ·have e:wd op (.str "kind") = "kind" := by unfold wd;rw [if_pos (by simp)]
  rw [e]
  exact ansF h fun st=>by rw [zjx hx hy,if_neg hn]
 ·have ex:=hx.isi st
  have ey:=hy.isi st
  have g1:oEq (.str op) (.str "same") st=.ok (.bl false) st:=by simp [h1]
  have g2:oEq (.str op) (.str "front") st=.ok (.bl false) st:=by simp [h2]
  cases hx<;>cases hy<;>first
   | (simp [-zeL,m__law_told,mirror,zM,zI,zS,g1,g2,ex,ey,kn,t4,t8,tb,optB];done)
   | (exact absurd ⟨rfl,rfl⟩ hn)
theorem ze4 {x y:PV} (hx:Gd x) (hy:Gd y):Told "front" x y:=by
 have ey:=hy.1.isi
 have s1:∀st,oEq (.str "front") (.str "same") st=.ok (.bl false) st:=fun st=>by simp
 have s2:∀st,oEq (.str "front") (.str "front") st=.ok (.bl true) st:=fun st=>by simp
 by_cases hk:kw y = "row"
 ·obtain ⟨xs,rfl⟩:∃xs,y=.tup xs:=by
   have h1:=hy.1
   cases h1 with
   | int i h=>simp [kw] at hk
   | str z=>simp [kw] at hk
   | tup xs h=>exact ⟨xs,rfl⟩
  have hv:Vd (.tup (x::xs)):=.tup _ fun z hz=>by
   rcases List.mem_cons.mp hz with rfl|hz
   ·exact hx.1
   ·exact hy.1.kids z hz
  have hnd:nd (.tup (x::xs))=nd x+nd (.tup xs):=by show nd x+nds xs+1=nd x+(nds xs+1);omega
  have b1:=hx.2
  have b2:=hy.2
  have hl:1+xs.length≤1000000:=by
   have h3:=zd3 xs
   have h4:nds xs+1≤60:=b2
   omega
  have hc:∀st,m_check_kinds [.tup [.str "any", .str "row"],.tup [x,.tup xs]] st=.ok .non st:=fun st=>by rw [zlk hy.1,if_pos hk]
  have ht:∀st,m_tell_front [.tup [x,.tup xs]] st=.ok (.tup (x::xs)) st:=fun st=>by
   simp [m_tell_front,mirror,zd8,at0,at1,hl]
  have law:∀st,∃d,m__law_told [.str "front", x,.tup xs] st=.ok (.tup [.bl (decide (nd x+nd (.tup xs)≤60)),.tup (x::xs)]) (st++d):=fun st=>by
   obtain ⟨d1,p1⟩:=lparts 64 x st hx.1 (by have:=hx.1.nd;omega) (by have:=hx.1.dep;omega)
   obtain ⟨d2,p2⟩:=lparts 64 (.tup xs) (st++d1) hy.1 (by have:=hy.1.nd;omega) (by have:=hy.1.dep;omega)
   refine ⟨d1++d2,?_⟩
   rw [←List.append_assoc]
   have el:(decide (((nd x:Nat):Int)+((nd (.tup xs):Nat):Int)≤60))=decide (nd x+nd (.tup xs)≤60):=by
    congr 1
    apply propext
    omega
   generalize nd (.tup xs)=n2 at p2 el
   generalize st++d1++d2=s2' at p2 ⊢
   generalize st++d1=s1' at p1 p2
   simp [-zeL,m__law_told,mirror,zM,zI,s1,s2,ey,kn,ta,optB,p1,p2,hl]
   omega
  by_cases hb:nd x+nd (.tup xs)≤60
  ·refine .inl ⟨.tup (x::xs),⟨hv,by omega⟩,ansT zfw hc ht hv (by omega),fun st=>?_⟩
   obtain ⟨d,h⟩:=law st
   exact ⟨d,by rw [h,decide_eq_true hb]⟩
  ·refine .inr ⟨.tup (x::xs),hv.plain,by have:=hv.dep;omega,?_,fun st=>?_⟩
   ·have e:wd "front" (.tup (x::xs)) = "large" := by unfold wd;rw [if_neg (by simp [eqP]),if_pos rfl]
    rw [e]
    exact ansL zfw hc ht hv (by omega) (by omega)
   ·obtain ⟨d,h⟩:=law st
    exact ⟨d,by rw [h,decide_eq_false hb]⟩
 ·refine .inr ⟨.str "kind", rfl,Nat.zero_le _,?_,fun st=>⟨[],?_⟩⟩
  ·have e:wd "front" (.str "kind") = "kind" := by unfold wd;rw [if_pos (by simp)]
   rw [e]
   exact ansF zfw fun st=>by rw [zlk hy.1,if_neg hk]
  ·have ey:=ey st
   have h1:=hy.1
   cases h1 with
   | int i h=>simp [-zeL,m__law_told,mirror,zM,zI,s1,s2,ey,kn,t2,optB]
   | str z=>simp [-zeL,m__law_told,mirror,zM,zI,s1,s2,ey,kn,t6,optB]
   | tup xs h=>exact absurd rfl hk
inductive Op6:Str→Prop
 | add:Op6 "add"
 | sub:Op6 "sub"
 | mul:Op6 "mul"
 | less:Op6 "less"
 | same:Op6 "same"
 | front:Op6 "front"
theorem told {op:Str} {x y:PV} (h:Op6 op) (hx:Gd x) (hy:Gd y):Told op x y:=by
 by_cases hn:kw x = "number" ∧ kw y = "number"
 ·obtain ⟨i,hi,rfl⟩:∃i,Bd i∧x=.int i:=by
   have h1:=hx.1
   have h2:=hn.1
   cases h1 with
   | int i h=>exact ⟨i,h,rfl⟩
   | str z=>simp [kw] at h2
   | tup xs h=>simp [kw] at h2
  obtain ⟨j,hj,rfl⟩:∃i,Bd i∧y=.int i:=by
   have h1:=hy.1
   have h2:=hn.2
   cases h1 with
   | int i h=>exact ⟨i,h,rfl⟩
   | str z=>simp [kw] at h2
   | tup xs h=>simp [kw] at h2
  cases h with
  | add=>exact zkM hi hj
  | sub=>exact zkN hi hj
  | mul=>exact zkO hi hj
  | less=>exact zjB hi hj
  | same=>exact zgi hx hy
  | front=>exact ze4 hx hy
 ·cases h with
  | add=>exact zdG hx.1 hy.1 hn zlm (by simp) (by simp)
  | sub=>exact zdG hx.1 hy.1 hn zln (by simp) (by simp)
  | mul=>exact zdG hx.1 hy.1 hn zlo (by simp) (by simp)
  | less=>exact zdG hx.1 hy.1 hn zgO (by simp) (by simp)
  | same=>exact zgi hx hy
  | front=>exact ze4 hx hy
end FK31
namespace FK31
open PySem L2 PySem.W Mi
theorem zkP {st:Sto} {n:Nat} {xs:List PV} (h:st[n]?=some (.lst (xs.map fun _=>PV.bl true))):oAll [.ref n] st=.ok (.bl true) st:=by
 have e:(xs.map fun _=>PV.bl true)=(xs.map fun _=>true).map PV.bl:=by simp
 rw [e] at h
 simp only [oAll,zjg,zn h,zk,zeZ]
 simp
theorem zgj {n:Nat} {xs:List PV} (hl:xs.length≤1000) (h:∀x∈xs,∀st,∃d,zt n [x] st=.ok (.bl true) (st++d)) (st:Sto):∃d,zt (n+1) [.tup xs] st=.ok (.bl true) (st++d):=by
 obtain ⟨d,hd⟩:=zcc (fe:=mCall (zt n) (aCons (mVar 0) aNil)) (env:=[some (.tup xs)]) (f:=fun _=>.bl true) xs (fun x hx st=>by
  obtain ⟨d,e⟩:=h x hx st
  exact ⟨d,by simp [e]⟩) [] st
 rw [List.nil_append] at hd
 refine ⟨d++[.lst (xs.map fun _=>.bl true)],?_⟩
 have cm:mComp (iVal (mVar 0)) (mCall (zt n) (aCons (mVar 0) aNil)) [some (.tup xs)] st=.ok (.ref (st++d).length) (st++d++[.lst (xs.map fun _=>.bl true)]):=by
  show compS _ _ (.im xs) st=_
  rw [compS,if_pos (by show xs.length≤1000000;omega)]
  exact hd
 have sm:=zkP (zaq (st++d) (.lst (xs.map fun _=>.bl true)))
 have e:oIsi isT [.tup xs,.ty "tuple"] st=.ok (.bl true) st:=rfl
 rw [←List.append_assoc]
 generalize st++d++[SO.lst (xs.map fun _=>.bl true)]=s1 at cm sm ⊢
 generalize (st++d).length=n0 at cm sm
 show (zaA (zt n) [some (.tup xs)] st).bind endOf=_
 simp only [zaA,zG,zo9,zqi,zbn,zaM,zco,zjN,zcp,List.getElem?_cons_zero,zk]
 rw [e]
 simp only [zk,zg5,zbn,zaM]
 rw [show asB (.bl true) st=.ok true st from rfl]
 simp only [zk,if_true,zg5,zbn,zaM]
 rw [cm]
 simp only [zk,zcp]
 rw [sm]
 rfl
theorem lplain:∀(n:Nat) (x:PV) (st:Sto),Vd x→nd x≤1000→dep x<n→∃d,zt n [x] st=.ok (.bl true) (st++d)
 | 0,x,st,_,_,h=>by omega
 | n+1,x,st,hv,hb,h=>by
  have e:=hv.isi st
  cases hv with
  | int i h=>exact ⟨[],by simp [zt,za4,mirror,zaA,zaI,e,kn,t1,t2,t4,tc,optB,oIsB,oIs,isNon]⟩
  | str z=>exact ⟨[],by simp [zt,za4,mirror,zaA,zaI,e,kn,t5,t6,optB,oIsB,oIs,isNon]⟩
  | tup xs hx =>
   have hl:=zd3 xs
   have hb':nds xs+1≤1000:=hb
   have hd:deps xs+1<n+1:=h
   refine zgj (by omega) (fun x hxx st=>?_) st
   have:nd x≤nds xs:=by
    clear hd hl hb hb' e h
    induction xs with
    | nil=>cases hxx
    | cons y ys ih =>
     simp only [nds]
     rcases List.mem_cons.mp hxx with rfl|h
     ·omega
     ·have:=ih (fun z hz=>hx z (List.mem_cons_of_mem _ hz)) h;omega
   exact lplain n x st (hx x hxx) (by omega) (by have:=deps_mem hxx;omega)
theorem zmP (n:Nat) (st:Sto):∃d,zt (n+1) [.non] st=.ok (.bl true) (st++d):=⟨[],by
 have e:∀t,oIsi isT [.non,.ty t] st=optB (tyb "NoneType" t) st:=fun _=>rfl
 have f:tyb "NoneType" "tuple" = some false:=rfl
 simp [zt,za4,mirror,zaA,zaI,e,f,optB,oIsB,oIs,isNon]⟩
end FK31
namespace FK31
open PySem L2 PySem.W Mi
theorem zmQ {ps:List Str}:∀{vs:List PV} {p:Str},ps.length=vs.length→p∈ps→∃v∈vs,(ps.zip vs).lookup p=some v:=by
 induction ps with
 | nil=>intro vs p _ h;cases h
 | cons q ps ih =>
  intro vs p hl h
  cases vs with
  | nil=>simp at hl
  | cons v vs =>
   by_cases e:p=q
   ·subst e
    exact ⟨v,List.mem_cons_self ..,by simp [List.lookup_cons]⟩
   ·have hp:p∈ps:=by
     rcases List.mem_cons.mp h with q|q
     ·exact absurd q e
     ·exact q
    obtain ⟨w,hw,hl2⟩:=ih (vs:=vs) (by simpa using hl) hp
    have:(p==q)=false:=by simpa using e
    exact ⟨w,List.mem_cons_of_mem _ hw,by simp [List.lookup_cons,this,hl2]⟩
theorem zej (w:Str) (v:PV) (ks:List Str) (xs:List PV) (n:w∉ks):dPut w v ks xs=(ks++[w],xs++[v]):=by
 unfold dPut
 rw [if_neg (by simpa using n)]
inductive Atm (ks:List Str):PV→Prop
 | is (v:PV) (h:Gd v):Atm ks (.tup [.str "is", v])
 | of (w:Str) (h:w∈ks):Atm ks (.tup [.str "of", .str w])
abbrev lnL (nm op:Str) (a1 a2:PV):PV:=.tup [.str "let", .str nm,.str op,.tup [a1,a2]]
inductive Prg:List Str→List PV→List Str→Prop
 | nil (ks:List Str):Prg ks [] ks
 | cons {ks fin:List Str} {nm op:Str} {a1 a2:PV} {rest:List PV} (ho:Op6 op) (h1:Atm ks a1) (h2:Atm ks a2) (hn:nm∉ks) (t:Prg (ks++[nm]) rest fin):Prg ks (lnL nm op a1 a2::rest) fin
def AtV (ks:List Str) (xs:List PV) (a v:PV):Prop:=a=.tup [.str "is", v]∨∃w,a=.tup [.str "of", .str w]∧(ks.zip xs).lookup w=some v
theorem atv {ks:List Str} {xs:List PV} {a:PV} (hl:ks.length=xs.length) (hg:∀v∈xs,Gd v) (h:Atm ks a):∃v,Gd v∧AtV ks xs a v:=by
 cases h with
 | is v h=>exact ⟨v,h,.inl rfl⟩
 | of w h =>
  obtain ⟨v,hv,e⟩:=zmQ hl h
  exact ⟨v,hg v hv,.inr ⟨w,rfl,e⟩⟩
theorem AtV.val {ks:List Str} {xs:List PV} {a v:PV} (h:AtV ks xs a v) (ss:List PV) (e:PV) (p:Nat):Val ⟨ks,xs,ss,e,p⟩ a v:=by
 rcases h with rfl|⟨w,rfl,hl⟩
 ·exact .is v
 ·exact .of hl
abbrev feD:PEnv→Mo PV:=(mIf (mB (mOp oEq (mOp oIxD (mVar 0) (mC (.int 0))) (mC (.str "of")))) (mOp oIxD (mVar 3) (mOp oIxD (mVar 0) (mC (.int 1)))) (mOp oIxD (mVar 0) (mC (.int 1))))
abbrev bdD:PEnv→Mo Fl:=(sSeq (sIf (mB (mOp oEq (mVar 4) (mVar 3)))
  (sRet (mTup (aCons (mC (.str "out")) (aCons (mC .non) (aCons (mVar 3) aNil)))))
  sNext)
  (sSeq (sSet 4 (mOp oAdd (mVar 4) (mC (.int 1))))
  (sSeq (sToL 6 7 (mComp (iVal (mOp oIxD (mVar 5) (mC (.int 3)))) feD))
  (sSeq (sTo (g2 8 9) (mCall m__law_told (aCons (mOp oIxD (mVar 5) (mC (.int 2))) (aCons (mVar 6) (aCons (mVar 7) aNil)))))
  (sSeq (sIf (bNot (mB (mVar 8)))
  (sSeq (sSet 10 (mC (.str "wide")))
  (sSeq (sIf (mB (mOp oEq (mOp oIxD (mVar 5) (mC (.int 2))) (mC (.str "front"))))
  (sSet 10 (mC (.str "large")))
  sNext)
  (sSeq (sIf (mB (mOp oEq (mVar 9) (mC (.str "kind"))))
  (sSet 10 (mC (.str "kind")))
  sNext)
  (sRet (mTup (aCons (mC (.str "fault")) (aCons (mVar 10) (aCons (mVar 4) aNil))))))))
  sNext)
  (sDPutM (mVar 2) (mOp oIxD (mVar 5) (mC (.int 1))) (mVar 9)))))))
abbrev envD (sl:Nat) (last:PV) (th bu gone:Nat) (z5 z6 z7 z8 z9 za:Option PV):PEnv:=[some (.ref sl),some last,some (.ref th),some (.int bu),some (.int gone),z5,z6,z7,z8,z9,za]
abbrev outR (b:Nat):PV:=.tup [.str "out", .non,.int b]
section
variable {sl th bu:Nat} {last:PV} {z5 z6 z7 z8 z9 za:Option PV} {st:Sto}
theorem zhv:bdD (envD sl last th bu bu z5 z6 z7 z8 z9 za) st=.ok (.rt (outR bu)) st:=by
 simp
theorem zor {ks:List Str} {xs:List PV} {a v:PV} {gone:Nat} (hth:st[th]?=some (.dic ks xs)) (h:AtV ks xs a v):feD (some a::envD sl last th bu gone z5 z6 z7 z8 z9 za) st=.ok v st:=by
 rcases h with rfl|⟨w,rfl,hl⟩
 ·simp [at0,at1]
 ·have:=zhm hth w
  rw [hl] at this
  simp [at0,at1,this]
theorem zjC {ks:List Str} {xs:List PV} {nm op:Str} {a1 a2 x y f:PV} {g:Bool} {gone:Nat} (hlt:gone<bu) (hth:st[th]?=some (.dic ks xs)) (h1:AtV ks xs a1 x) (h2:AtV ks xs a2 y)
  (ht:∀st,∃d,m__law_told [.str op,x,y] st=.ok (.tup [.bl g,f]) (st++d)):∃d,bdD (envD sl last th bu gone (some (lnL nm op a1 a2)) z6 z7 z8 z9 za) st=(sSeq (sIf (bNot (mB (mVar 8)))
  (sSeq (sSet 10 (mC (.str "wide")))
  (sSeq (sIf (mB (mOp oEq (mOp oIxD (mVar 5) (mC (.int 2))) (mC (.str "front"))))
  (sSet 10 (mC (.str "large")))
  sNext)
  (sSeq (sIf (mB (mOp oEq (mVar 9) (mC (.str "kind"))))
  (sSet 10 (mC (.str "kind")))
  sNext)
  (sRet (mTup (aCons (mC (.str "fault")) (aCons (mVar 10) (aCons (mVar 4) aNil))))))))
  sNext)
  (sDPutM (mVar 2) (mOp oIxD (mVar 5) (mC (.int 1))) (mVar 9))) (envD sl last th bu (gone+1) (some (lnL nm op a1 a2)) (some x) (some y) (some (.bl g)) (some f) za) (st++d):=by
 obtain ⟨d,hd⟩:=ht (st++[.lst [x,y]])
 refine ⟨[.lst [x,y]]++d,?_⟩
 rw [←List.append_assoc]
 have e1:(sIf (mB (mOp oEq (mVar 4) (mVar 3))) (sRet (mTup (aCons (mC (.str "out")) (aCons (mC .non) (aCons (mVar 3) aNil))))) sNext) (envD sl last th bu gone (some (lnL nm op a1 a2)) z6 z7 z8 z9 za) st=.ok (.nx (envD sl last th bu gone (some (lnL nm op a1 a2)) z6 z7 z8 z9 za)) st:=by
  have:¬((gone:Int)=bu):=by omega
  simp [this]
 have e2:(sSet 4 (mOp oAdd (mVar 4) (mC (.int 1)))) (envD sl last th bu gone (some (lnL nm op a1 a2)) z6 z7 z8 z9 za) st=.ok (.nx (envD sl last th bu (gone+1) (some (lnL nm op a1 a2)) z6 z7 z8 z9 za)) st:=by
  simp
 have cm:mComp (iVal (mOp oIxD (mVar 5) (mC (.int 3)))) feD (envD sl last th bu (gone+1) (some (lnL nm op a1 a2)) z6 z7 z8 z9 za) st=.ok (.ref st.length) (st++[.lst [x,y]]):=by
  have src:(iVal (mOp oIxD (mVar 5) (mC (.int 3)))) (envD sl last th bu (gone+1) (some (lnL nm op a1 a2)) z6 z7 z8 z9 za) st=.ok (.im [a1,a2]) st:=by
   simp [at3]
  have q1:=zor (sl:=sl) (last:=last) (bu:=bu) (gone:=gone+1) (z5:=some (lnL nm op a1 a2)) (z6:=z6) (z7:=z7) (z8:=z8) (z9:=z9) (za:=za) hth h1
  have q2:=zor (sl:=sl) (last:=last) (bu:=bu) (gone:=gone+1) (z5:=some (lnL nm op a1 a2)) (z6:=z6) (z7:=z7) (z8:=z8) (z9:=z9) (za:=za) hth h2
  rw [zdP,src]
  simp only [zk]
  rw [zfk,if_pos (by show 2≤1000000;omega)]
  simp only [compL]
  rw [q1]
  simp only [zdq,zk]
  rw [q2]
  simp only [zdq,zk]
  rfl
 have e3:(sToL 6 7 (mComp (iVal (mOp oIxD (mVar 5) (mC (.int 3)))) feD)) (envD sl last th bu (gone+1) (some (lnL nm op a1 a2)) z6 z7 z8 z9 za) st=.ok (.nx (envD sl last th bu (gone+1) (some (lnL nm op a1 a2)) (some x) (some y) z8 z9 za)) (st++[.lst [x,y]]):=by
  rw [zoh,cm]
  simp only [zk]
  rw [zkA (zaq st (.lst [x,y]))]
  rfl
 generalize st++[SO.lst [x,y]]++d=s2 at hd ⊢
 generalize st++[SO.lst [x,y]]=s1 at hd e3
 have e4:(sTo (g2 8 9) (mCall m__law_told (aCons (mOp oIxD (mVar 5) (mC (.int 2))) (aCons (mVar 6) (aCons (mVar 7) aNil))))) (envD sl last th bu (gone+1) (some (lnL nm op a1 a2)) (some x) (some y) z8 z9 za) s1=.ok (.nx (envD sl last th bu (gone+1) (some (lnL nm op a1 a2)) (some x) (some y) (some (.bl g)) (some f) za)) s2:=by
  have i2:oIxD (lnL nm op a1 a2) (.int 2) s1=.ok (.str op) s1:=by simp [at2]
  simp only [zpa,zbn,zaM,ziW,zco,zjN,zcp,List.getElem?_cons_succ,List.getElem?_cons_zero,zk]
  rw [i2]
  simp only [zk]
  rw [hd]
  rfl
 unfold bdD
 rw [zG,e1,zk,zy,zG,e2,zk,zy,zG,e3,zk,zy,zG,e4,zk,zy]
theorem zmR {ks:List Str} {xs ss:List PV} {nm op:Str} {a1 a2 x y f:PV} {gone:Nat} (hlt:gone<bu) (hsl:st[sl]?=some (.lst ss)) (hth:st[th]?=some (.dic ks xs)) (hk:ks.length≤1000) (hn:nm∉ks) (h1:AtV ks xs a1 x) (h2:AtV ks xs a2 y)
  (ht:∀st,∃d,m__law_told [.str op,x,y] st=.ok (.tup [.bl true,f]) (st++d)):∃st',bdD (envD sl last th bu gone (some (lnL nm op a1 a2)) z6 z7 z8 z9 za) st=.ok (.nx (envD sl last th bu (gone+1) (some (lnL nm op a1 a2)) (some x) (some y) (some (.bl true)) (some f) za)) st'∧st'[sl]?=some (.lst ss)∧st'[th]?=some (.dic (ks++[nm]) (xs++[f])):=by
 obtain ⟨d,e⟩:=zjC (sl:=sl) (last:=last) (z6:=z6) (z7:=z7) (z8:=z8) (z9:=z9) (za:=za) (nm:=nm) hlt hth h1 h2 ht
 have hth':(st++d)[th]?=some (.dic ks xs):=(Pre.of _ _).get hth
 have hsl':(st++d)[sl]?=some (.lst ss):=(Pre.of _ _).get hsl
 have dp:=zgL hth' hk nm f
 rw [zej nm f ks xs hn] at dp
 simp only at dp
 have ne:th≠sl:=fun z=>by rw [z,hsl] at hth;cases hth
 refine ⟨(st++d).set th (.dic (ks++[nm]) (xs++[f])),?_,by rw [List.getElem?_set_ne ne];exact hsl',by rw [List.getElem?_set_self (zb0 hth')]⟩
 rw [e]
 generalize (st++d).set th (.dic (ks++[nm]) (xs++[f]))=s9 at dp ⊢
 simp [at1,dp]
theorem zkQ {ks:List Str} {xs:List PV} {nm op:Str} {a1 a2 x y f:PV} {gone:Nat} (hlt:gone<bu) (hth:st[th]?=some (.dic ks xs)) (h1:AtV ks xs a1 x) (h2:AtV ks xs a2 y) (hp:plain f=true) (hdp:dep f≤150)
  (ht:∀st,∃d,m__law_told [.str op,x,y] st=.ok (.tup [.bl false,f]) (st++d)):∃st',bdD (envD sl last th bu gone (some (lnL nm op a1 a2)) z6 z7 z8 z9 za) st=.ok (.rt (.tup [.str "fault", .str (wd op f),.int (gone+1:Nat)])) st':=by
 obtain ⟨d,e⟩:=zjC (sl:=sl) (last:=last) (z6:=z6) (z7:=z7) (z8:=z8) (z9:=z9) (za:=za) (nm:=nm) hlt hth h1 h2 ht
 refine ⟨st++d,?_⟩
 rw [e]
 generalize st++d=s1
 have q:oEq f (.str "kind") s1=.ok (.bl (eqP f (.str "kind"))) s1:=by
  unfold oEq
  rw [if_pos ⟨hp,rfl,hdp⟩]
 unfold wd
 by_cases h1:op = "front"
 ·subst h1
  have q2:oEq (.str "front") (.str "front") s1=.ok (.bl true) s1:=by simp
  cases h2:eqP f (.str "kind")<;>rw [h2] at q<;>simp [-zeL,at2,q,q2]
 ·have q2:oEq (.str op) (.str "front") s1=.ok (.bl false) s1:=by simp [h1]
  cases h2:eqP f (.str "kind")<;>rw [h2] at q<;>simp [-zeL,at2,q,q2,h1]
end
end FK31
namespace FK31
open PySem L2 PySem.W Mi
def Shp (w v:PV):Prop:=(w=.str "told" ∧ Gd v)∨(w=.str "fault" ∧ ∃z,v=.str z)
abbrev res (w v:PV) (t bu:Nat):PV:=if t≤bu then .tup [w,v,.int t] else outR bu
section
variable {sl th:Nat} {last:PV} {ss:List PV}
theorem zjD {α:Type} {l:List α} {p:Nat} {x:α} {r:List α} (h:l.drop p=x::r):l[p]?=some x∧l.drop (p+1)=r:=by
 constructor
 ·have:=congrArg (fun l=>l[0]?) h
  simpa using this
 ·have:=congrArg (List.drop 1) h
  simpa [List.drop_drop] using this
theorem lock {fin:List Str} (hlast:Atm fin last):∀{ks:List Str} {rest:List PV},Prg ks rest fin→∀(xs:List PV) (p:Nat),ss.drop p=rest→ks.length=xs.length→(∀v∈xs,Gd v)→ks.length+rest.length≤900 →
  ∃w v k,k≤rest.length∧Shp w v∧(∀kf xf,∃c,Steps [] kf xf k [⟨ks,xs,ss,.tup [.str "give", last],p⟩] c∧Fin [] c w v) ∧
   ∀(bu fuel:Nat) (st:Sto) z5 z6 z7 z8 z9 za,p≤bu→st[sl]?=some (.lst ss)→st[th]?=some (.dic ks xs)→rest.length<fuel →
    ∃st',(forR (gN 5) bdD sl fuel p (envD sl last th bu p z5 z6 z7 z8 z9 za) st).bind (flowOn zam)=.ok (.rt (res w v (p+k+1) bu)) st':=by
 intro ks rest hP
 induction hP with
 | nil ks =>
  intro xs p hd hl hg hb
  have hp:ss[p]?=none:=by
   have:=congrArg (fun l=>l[0]?) hd
   simpa using this
  obtain ⟨v,gv,av⟩:=atv hl hg hlast
  refine ⟨.str "told", v,0,Nat.zero_le _,.inl ⟨rfl,gv⟩,fun kf xf=>⟨_,.nil,.told (at_:=last) (by show (ss[p]?).getD _=_;rw [hp];rfl) (av.val _ _ _)⟩,fun bu fuel st z5 z6 z7 z8 z9 za hpb hsl hth hf=>⟨st,?_⟩⟩
  obtain ⟨f',rfl⟩:∃f',fuel=f'+1:=⟨fuel-1,by omega⟩
  rw [forR,zn hsl,hp]
  simp only [zk,zy]
  by_cases e:p=bu
  ·subst e
   rw [show res (.str "told") v (p+0+1) p=outR p by unfold res;rw [if_neg (by omega)]]
   simp [zam]
  ·have ne:¬((p:Int)=bu):=by omega
   rw [show res (.str "told") v (p+0+1) bu=.tup [.str "told", v,.int (p+1:Nat)] by unfold res;rw [if_pos (by omega)]]
   rcases av with rfl|⟨w,rfl,hlk⟩
   ·simp [zam,zck,zcj,ne,at0,at1]
   ·have hx:=zhm hth w
    rw [hlk] at hx
    simp [zam,zck,zcj,ne,at0,at1,hx]
 | @cons ks fin nm op a1 a2 rest ho h1 h2 hn t ih =>
  intro xs p hd hl hg hb
  obtain ⟨hp,hd'⟩:=zjD hd
  obtain ⟨x,gx,ax⟩:=atv hl hg h1
  obtain ⟨y,gy,ay⟩:=atv hl hg h2
  simp only [List.length_cons] at hb
  have step1:∀(bu fuel:Nat) (st:Sto) z5 z6 z7 z8 z9 za,st[sl]?=some (.lst ss)→forR (gN 5) bdD sl (fuel+1) p (envD sl last th bu p z5 z6 z7 z8 z9 za) st=(bdD (envD sl last th bu p (some (lnL nm op a1 a2)) z6 z7 z8 z9 za) st).bind fun fl st2=>match fl with
    | .nx e=>forR (gN 5) bdD sl fuel (p+1) e st2
    | .ct e=>forR (gN 5) bdD sl fuel (p+1) e st2
    | .bk e=>.ok (.nx e) st2
    | .rt v=>.ok (.rt v) st2:=fun bu fuel st z5 z6 z7 z8 z9 za hsl=>by
   rw [forR,zn hsl,hp]
   rfl
  rcases told ho gx gy with ⟨v,gv,opa,ht⟩|⟨f,pf,df,opf,ht⟩
  ·obtain ⟨w,u,k,hk,sh,S,D⟩:=ih hlast (xs++[v]) (p+1) hd' (by simp [hl]) (fun z hz=>by
    rcases List.mem_append.mp hz with hz|hz
    ·exact hg z hz
    ·rw [List.mem_singleton.mp hz];exact gv) (by simp;omega)
   refine ⟨w,u,k+1,by simp;omega,sh,fun kf xf=>?_,fun bu fuel st z5 z6 z7 z8 z9 za hpb hsl hth hf=>?_⟩
   ·have s:=Step.lt (B0:=[]) (kf:=kf) (xf:=xf) (a:=⟨ks,xs,ss,.tup [.str "give", last],p⟩) (rest:=[]) (w:=nm) (op:=op) (atoms:=[a1,a2]) (args:=[x,y]) hp (by simp) (by show ks.length≤1000;omega) (.cons (ax.val _ _ _) (.cons (ay.val _ _ _) .nil)) opa
    obtain ⟨c,s2,f⟩:=S kf xf
    rw [AF.next,zej nm v ks xs hn] at s
    exact ⟨c,.cons s s2,f⟩
   ·obtain ⟨f',rfl⟩:∃f',fuel=f'+1:=⟨fuel-1,by omega⟩
    rw [step1 _ _ _ _ _ _ _ _ _ hsl]
    by_cases e:p=bu
    ·subst e
     rw [zhv,show res w u (p+(k+1)+1) p=outR p by unfold res;rw [if_neg (by omega)]]
     exact ⟨st,rfl⟩
    ·obtain ⟨s2,b,q1,q2⟩:=zmR (sl:=sl) (last:=last) (z6:=z6) (z7:=z7) (z8:=z8) (z9:=z9) (za:=za) (bu:=bu) (gone:=p) (nm:=nm) (by omega) hsl hth (by omega) hn ax ay ht
     rw [b]
     simp only [zk]
     obtain ⟨st',r⟩:=D bu f' s2 (some (lnL nm op a1 a2)) (some x) (some y) (some (.bl true)) (some v) za (by omega) q1 q2 (by simp at hf;omega)
     refine ⟨st',?_⟩
     rw [show p+(k+1)+1=p+1+k+1 by omega]
     exact r
  ·refine ⟨.str "fault", .str (wd op f),0,Nat.zero_le _,.inr ⟨rfl,_,rfl⟩,fun kf xf=>⟨_,.nil,.lt (w:=nm) (op:=op) (atoms:=[a1,a2]) (args:=[x,y]) hp (by simp) (.cons (ax.val _ _ _) (.cons (ay.val _ _ _) .nil)) opf⟩,fun bu fuel st z5 z6 z7 z8 z9 za hpb hsl hth hf=>?_⟩
   obtain ⟨f',rfl⟩:∃f',fuel=f'+1:=⟨fuel-1,by omega⟩
   rw [step1 _ _ _ _ _ _ _ _ _ hsl]
   by_cases e:p=bu
   ·subst e
    rw [zhv,show res (.str "fault") (.str (wd op f)) (p+0+1) p=outR p by unfold res;rw [if_neg (by omega)]]
    exact ⟨st,rfl⟩
   ·obtain ⟨s2,b⟩:=zkQ (sl:=sl) (last:=last) (z6:=z6) (z7:=z7) (z8:=z8) (z9:=z9) (za:=za) (bu:=bu) (gone:=p) (nm:=nm) (by omega) hth ax ay pf df ht
    rw [b,show res (.str "fault") (.str (wd op f)) (p+0+1) bu=.tup [.str "fault", .str (wd op f),.int (p+1:Nat)] by unfold res;rw [if_pos (by omega)]]
    exact ⟨s2,rfl⟩
end
theorem zhw:∀zs:List Str,strsOf (zs.map PV.str)=some zs
 | []=>rfl
 | z::zs=>by simp [strsOf,zhw zs]
theorem zgk:∀(l:List (Str×PV)) (ks:List Str) (xs:List PV),(ks++l.map Prod.fst).Nodup→dPuts l ks xs=(ks++l.map Prod.fst,xs++l.map Prod.snd)
 | [],ks,xs,_=>by simp [dPuts]
 | (z,x)::l,ks,xs,h=>by
  have hz:z∉ks:=fun m=>(List.nodup_append.mp h).2.2 z m z (by simp) rfl
  simp only [dPuts,zej z x ks xs hz]
  rw [zgk l _ _ (by simpa using h)]
  simp
theorem zos {ps:List Str} {vs:List PV} (nd:ps.Nodup) (hl:ps.length=vs.length):Bnd (ps.map PV.str) vs ps vs:=fun st=>by
 have e1:(ps.zip vs).map Prod.fst=ps:=List.map_fst_zip (by omega)
 have e2:(ps.zip vs).map Prod.snd=vs:=List.map_snd_zip (by omega)
 have:=zgk (ps.zip vs) [] [] (by simpa [e1] using nd)
 simp only [oDZip,zhw,this,e1,e2,List.nil_append]
theorem zot (z:Str) (f b:PV):ByName [.tup [.str z,f,b]] [z] [.tup [.str z,f,b]]:=fun st=>by
 simp [m_functions_by_name,mirror,zbv,zaK,zaJ,mDNew,forL,at0,dPutAt,withD,dPut]
theorem zmS {fin ps:List Str} {vs ss:List PV} {last:PV} (fnm:Str) (hlast:Atm fin last) (hP:Prg ps ss fin) (nd:ps.Nodup) (hl:ps.length=vs.length) (hg:∀v∈vs,Gd v) (hb:ps.length+ss.length≤900) (bu sl th:Nat) :
  ∃w v t,Shp w v∧t≤ss.length+1∧(∀st,st[sl]?=some (.lst ss)→st[th]?=some (.dic ps vs)→∃st',m__law_due [.ref sl,last,.ref th,.int bu] st=.ok (res w v t bu) st') ∧
   ∀st,∃st',m_run [.tup [.tup [.str fnm,.tup (ps.map PV.str),.tup [.tup ss,.tup [.str "give", last]]]],.tup vs,.int bu] st=.ok (res w v t bu) st':=by
 obtain ⟨w,v,k,hk,sh,S,D⟩:=lock (sl:=sl) (th:=th) (ss:=ss) hlast hP vs 0 (List.drop_zero) hl hg hb
 refine ⟨w,v,k+1,sh,by omega,fun st hsl hth=>?_,fun st=>?_⟩
 ·obtain ⟨st',d⟩:=D bu (lim+1) st none none none none none none (Nat.zero_le _) hsl hth (by show ss.length<1000000+1;omega)
  refine ⟨st',?_⟩
  rw [Nat.zero_add] at d
  show (zdU [some (.ref sl),some last,some (.ref th),some (.int bu),none,none,none,none,none,none,none] st).bind endOf=_
  simp only [zdU,zG,zbH,zjN,zk,zy,List.set_cons_succ,List.set_cons_zero,zdw,znX]
  have src:(iVal (mVar 0)) [some (.ref sl),some last,some (.ref th),some (.int bu),some (.int 0),none,none,none,none,none,none] st=.ok (.rf sl) st:=by
   simp [zn hsl]
  rw [src]
  simp only [zk]
  have d':(forS (gN 5) bdD (.rf sl) [some (.ref sl),some last,some (.ref th),some (.int bu),some (.int 0),none,none,none,none,none,none] st).bind (flowOn zam)=_:=d
  rw [d']
  rfl
 ·obtain ⟨c,t,f⟩:=S [fnm] [.tup [.str fnm,.tup (ps.map PV.str),.tup [.tup ss,.tup [.str "give", last]]]]
  obtain ⟨st',r,-⟩:=zpy (B0:=[]) (st:=st) (zot fnm _ _) (zos nd hl) t f (by omega) (fun m so e=>by simp at e) bu
  exact ⟨st',r⟩
end FK31
namespace FK31
open PySem L2 PySem.W Mi
def cell (ns:List Int) (k:Nat):Int:=(ns[k]?).getD 0
theorem ze5 (ns:List Int) (k:Nat) (st:Sto):m__law_cell_at [.frl (ns.map PV.int),.int k] st=.ok (.int (cell ns k)) st:=by
 by_cases hk:k<ns.length
 ·have e:atI (ns.map PV.int) (k:Int)=some (.int ns[k]):=by
   simp [atI,ixN,hk]
  have hc:cell ns k=ns[k]:=by simp [cell,hk]
  simp [m__law_cell_at,mirror,zbV,hk,e,hc]
 ·have hc:cell ns k=0:=by simp [cell,List.getElem?_eq_none (by omega:ns.length≤k)]
  simp [m__law_cell_at,mirror,zbV,zb5,hk,hc]
theorem modNat (i:Int) (j:Nat) (h:0<j):∃b:Nat,b<j∧modP i j=b:=by
 have h1:=Int.emod_nonneg i (show (j:Int)≠0 by omega)
 have h2:=Int.emod_lt_of_pos i (show (0:Int)<j by omega)
 exact ⟨(i%j).toNat,by omega,by rw [zfu _ _ (by omega)];omega⟩
theorem zbj (n:Nat):nums 0 n=(List.range n).map fun i:Nat=>PV.int i:=by simp [nums]
def fQ:PV→PV
 | .int i=>.int (i*i-3)
 | x=>x
theorem zhx:∀l:List PV,(∀x∈l,∃i,x=.int i)→nds l=l.length
 | [],_=>rfl
 | x::l,h=>by
  obtain ⟨i,rfl⟩:=h x (List.mem_cons_self ..)
  simp only [nds,nd,zhx l fun y hy=>h y (List.mem_cons_of_mem _ hy),List.length_cons]
  omega
theorem zgP (c:Int):∃x,Gd x∧∀st,∃d,m__law_value [.int c] st=.ok x (st++d):=by
 have pw:((10:Int) ^ (18:Int).toNat)=1000000000000000000:=by decide
 have cp:cPow 10 18=true:=by decide
 by_cases h5:modP c 7=5
 ·refine ⟨.int (modP (divP c 7) 1999999999999999999-999999999999999999),⟨.int _ ?_,by simp [nd]⟩,fun st=>⟨[],by simp [m__law_value,mirror,zbM,cNz,cDv,cMul,h5,pw,cp]⟩⟩
  rw [zfu _ _ (by decide)]
  have:=Int.emod_nonneg (divP c 7) (show (1999999999999999999:Int)≠0 by decide)
  have:=Int.emod_lt_of_pos (divP c 7) (show (0:Int)<1999999999999999999 by decide)
  omega
 ·by_cases h6:modP c 7=6
  ·obtain ⟨k,hk,ek⟩:=modNat (divP c 7) 25 (by decide)
   have ek':modP (divP c 7) 25=(k:Int):=ek
   have hI:∀x∈(nums 0 k).map fQ,∃i:Int,(-1000000000000000000<i∧i<1000000000000000000)∧x=.int i:=fun x hx=>by
    rw [zbj] at hx
    simp only [List.map_map,List.mem_map,List.mem_range] at hx
    obtain ⟨i,hi,rfl⟩:=hx
    refine ⟨(i:Int)*i-3,?_,rfl⟩
    have h1:(i:Int)≤25:=by omega
    have h2:(0:Int)≤i:=by omega
    have h3:(i:Int)*i≤25*25:=Int.mul_le_mul h1 h1 h2 (by decide)
    have h4:(0:Int)≤(i:Int)*i:=Int.mul_nonneg h2 h2
    omega
   have hn:=zhx _ fun x hx=>let ⟨i,_,e⟩:=hI x hx;⟨i,e⟩
   refine ⟨.tup ((nums 0 k).map fQ),⟨.tup _ fun x hx=>?_,?_⟩,fun st=>⟨[.lst ((nums 0 k).map fQ)],?_⟩⟩
   ·obtain ⟨i,hb,rfl⟩:=hI x hx
    exact .int i hb
   ·show nds ((nums 0 k).map fQ)+1≤60
    rw [hn]
    simp [nums]
    omega
   ·have q:=zfU (fe:=mOp oSub (mOp oMulT (mVar 0) (mVar 0)) (mC (.int 3))) (env:=[some (.int c)]) (f:=fQ) (st:=st) (nums 0 k) (fun x hx=>by
     rw [zbj] at hx
     obtain ⟨i,hi,rfl⟩:=List.mem_map.mp hx
     have hi':i<k:=List.mem_range.mp hi
     have hm:cMul (i:Int) (i:Int)=true:=by simp [cMul];omega
     simp [hm,fQ]
     omega) []
    rw [List.nil_append] at q
    have src:(iRng1 (aCons (mOp oMod (mOp oDiv (mVar 0) (mC (.int 7))) (mC (.int 25))) aNil)) [some (.int c)] st=.ok (.im (nums 0 k)) st:=by
     have hr:cR (k:Int)=true:=by simp [cR];omega
     simp [cNz,cDv,ek',hr]
    have cm:mComp (iRng1 (aCons (mOp oMod (mOp oDiv (mVar 0) (mC (.int 7))) (mC (.int 25))) aNil)) (mOp oSub (mOp oMulT (mVar 0) (mVar 0)) (mC (.int 3))) [some (.int c)] st=.ok (.ref st.length) (st++[.lst ((nums 0 k).map fQ)]):=by
     rw [zdP,src]
     simp only [zk]
     rw [zfk,if_pos (by rw [zbj];simp;show k≤1000000;omega),q]
    have ht:=zaq st (.lst ((nums 0 k).map fQ))
    generalize (nums 0 k).map fQ=l at cm ht ⊢
    generalize st++[.lst l]=s1 at cm ht ⊢
    simp [-zdP,m__law_value,mirror,zbM,zbs,cNz,h5,h6,cm,oTuple,zn ht]
  ·obtain ⟨k,hk,ek⟩:=modNat (divP c 7) 12 (by decide)
   have ek':modP (divP c 7) 12=(k:Int):=ek
   exact ⟨.int ((k:Int)-3),⟨.int _ (by omega),by simp [nd]⟩,fun st=>⟨[],by simp [m__law_value,mirror,zbM,zbs,zcD,cNz,cDv,h5,h6,ek']⟩⟩
noncomputable def vl (c:Int):PV:=Classical.choose (zgP c)
theorem zmT (c:Int):Gd (vl c):=(Classical.choose_spec (zgP c)).1
theorem zqc (c:Int) (st:Sto):∃d,m__law_value [.int c] st=.ok (vl c) (st++d):=(Classical.choose_spec (zgP c)).2 st
abbrev abc:Str := "abcdefghijklmnopqrstuvwxyz"
abbrev hj:Str := "hjkl"
def sgn (k:Nat):Str:=(⟨#[(abc.cps.toList[k%26]?).getD 0]⟩:Str)++⟨#[(hj.cps.toList[k/26]?).getD 0]⟩
theorem zjE:((List.range 104).map sgn).Nodup:=by decide +kernel
def pres:List Str:=["", "a", "b7", "x0zq", "zzzzzz"]
def pr (b:Nat):Str:=(pres[b]?).getD ""
def nA (b a:Nat):Str:=Txt.slice (pr b) none (some (a:Int))
def nB (b a:Nat):Str:=Txt.slice (pr b) (some (a:Int)) none
theorem zou:∀b,b<5→∀a,a<7→(pr b).length≤6∧(nA b a).length≤10∧(nB b a).length≤10:=by decide +kernel
theorem zjF (z:Str) (n:Nat) (hz:z.cps.toList.length=n) (hn:n≤1000) (k:Nat) (h1:k<n) (st:Sto):oIxD (.str z) (.int k) st=.ok (.str ⟨#[(z.cps.toList[k]?).getD 0]⟩) st:=by
 have hl:z.length≤1000000:=by show z.cps.size≤1000000;rw [←Array.length_toList];omega
 have lt:k<z.cps.toList.length:=by omega
 rw [zn8,zn2,if_pos hl,atI_get (List.getElem?_eq_getElem lt),List.getElem?_eq_getElem lt]
 rfl
def bOf (ns:List Int):Nat:=(modP (cell ns 0) 5).toNat
def aOf (ns:List Int):Nat:=(modP (cell ns 1) ((pr (bOf ns)).length+1:Nat)).toNat
def nm (ns:List Int) (k:Nat):Str:=nA (bOf ns) (aOf ns)++sgn k++nB (bOf ns) (aOf ns)
abbrev scr (ns:List Int):PV:=.frl (ns.map PV.int)
theorem ad (x y:Str) (h:x.length+y.length≤1000000) (st:Sto):oAdd (.str x) (.str y) st=.ok (.str (x++y)) st:=by
 simp [h]
theorem zmU (k:Nat):(sgn k).length=2:=by unfold sgn;rw [Str.length_append];rfl
theorem zjG (ns:List Int) (k:Nat) (hk:k<104) (st:Sto):∃d,m__law_name [scr ns,.int k] st=.ok (.str (nm ns k)) (st++d):=by
 obtain ⟨b,hb,eb⟩:=modNat (cell ns 0) 5 (by decide)
 have eb':modP (cell ns 0) 5=(b:Int):=eb
 have bo:bOf ns=b:=by unfold bOf;rw [eb'];rfl
 obtain ⟨a,ha,ea⟩:=modNat (cell ns 1) ((pr b).length+1) (by omega)
 have ao:aOf ns=a:=by unfold aOf;rw [bo,ea];rfl
 have hpl:=(zou b hb 0 (by decide)).1
 obtain ⟨_,l1,l2⟩:=zou b hb a (by omega)
 have c0:∀st,m__law_cell_at [scr ns,.int 0] st=.ok (.int (cell ns 0)) st:=ze5 ns 0
 have c1:∀st,m__law_cell_at [scr ns,.int 1] st=.ok (.int (cell ns 1)) st:=ze5 ns 1
 have ls:=zmU k
 refine ⟨[.lst (pres.map PV.str)],?_⟩
 have ht:=zaq st (.lst (pres.map PV.str))
 have ep:atI (pres.map PV.str) (b:Int)=some (.str (pr b)):=by
  refine atI_get ?_
  rw [List.getElem?_map]
  unfold pr
  have:b<pres.length:=hb
  rw [List.getElem?_eq_getElem this]
  rfl
 have E1:(sSet 2 (mOp oIxD (mLst (aStrs ["", "a", "b7", "x0zq", "zzzzzz"])) (mOp oMod (mCall m__law_cell_at (aCons (mVar 0) (aCons (mC (.int 0)) aNil))) (mC (.int 5))))) [some (scr ns),some (.int k),none,none,none] st=.ok (.nx [some (scr ns),some (.int k),some (.str (pr b)),none,none]) (st++[.lst (pres.map PV.str)]):=by
  simp only [zbH,ziW,ziX,zjh,zk,zbn,zaM,zco,zjN,zcp,List.getElem?_cons_zero]
  rw [if_pos (by simp)]
  simp only [zk]
  rw [c0]
  simp only [zk,zmm]
  rw [show cNz (cell ns 0) 5=true by simp [cNz],eb']
  simp only [if_true,zk]
  rw [show ([("" : Str),"a", "b7", "x0zq", "zzzzzz"]:List Str).map PV.str=pres.map PV.str from rfl]
  generalize pres.map PV.str=l at ht ep
  simp [zn ht,ep]
 generalize st++[SO.lst (pres.map PV.str)]=s1 at E1 ⊢
 have E2:(sSet 3 (mOp oMod (mCall m__law_cell_at (aCons (mVar 0) (aCons (mC (.int 1)) aNil))) (mOp oAdd (mCall oLen (aCons (mVar 2) aNil)) (mC (.int 1))))) [some (scr ns),some (.int k),some (.str (pr b)),none,none] s1=.ok (.nx [some (scr ns),some (.int k),some (.str (pr b)),some (.int a),none]) s1:=by
  have ea':modP (cell ns 1) ((pr b).length+1)=(a:Int):=ea
  have nz:¬(((pr b).length:Int)+1=0):=by omega
  have hlim:(pr b).length≤1000000:=by omega
  have hlen:oLen [.str (pr b)] s1=.ok (.int (pr b).length) s1:=by
   unfold oLen
   simp [hlim]
  simp [c1,ea',nz,hlen,cNz]
 have E3:(sSet 4 (mOp oAdd (mOp oIxD (mC (.str "abcdefghijklmnopqrstuvwxyz")) (mOp oMod (mVar 1) (mC (.int 26)))) (mOp oIxD (mC (.str "hjkl")) (mOp oDiv (mVar 1) (mC (.int 26)))))) [some (scr ns),some (.int k),some (.str (pr b)),some (.int a),none] s1=.ok (.nx [some (scr ns),some (.int k),some (.str (pr b)),some (.int a),some (.str (sgn k))]) s1:=by
  have m26:modP (k:Int) 26=((k%26:Nat):Int):=by rw [zfu _ _ (by decide)];omega
  have d26:divP (k:Int) 26=((k/26:Nat):Int):=by rw [zkH _ _ (by decide)];omega
  have s1':=zjF abc 26 (by decide +kernel) (by decide) (k%26) (by omega) s1
  have s2':=zjF hj 4 (by decide +kernel) (by decide) (k/26) (by omega) s1
  simp only [zbH,ziW,zjN,zco,List.getElem?_cons_succ,List.getElem?_cons_zero,zk,zmm]
  rw [show cNz (k:Int) 26=true by simp [cNz],m26,show cDv (k:Int) 26=true by simp [cDv],d26]
  simp only [if_true,zk]
  rw [s1']
  simp only [zk]
  rw [s2']
  simp only [zk]
  rw [ad _ _ (by show 1+1≤1000000;omega)]
  rfl
 have sl:∀lo hi,oSl (.str (pr b)) lo hi s1=.ok (.str (Txt.slice (pr b) lo hi)) s1:=fun lo hi=>by
  show (if (pr b).length≤lim then Res.ok (PV.str (Txt.slice (pr b) lo hi)) s1 else .stuck)=_
  rw [if_pos (by show (pr b).length≤1000000;omega)]
 have E4:zbW [some (scr ns),some (.int k),some (.str (pr b)),some (.int a),some (.str (sgn k))] s1=.ok (.rt (.str (nm ns k))) s1:=by
  unfold nm
  rw [bo,ao]
  have a1:=ad (nA b a) (sgn k) (by omega) s1
  have a2:=ad (nA b a++sgn k) (nB b a) (by rw [Str.length_append];omega) s1
  have s1':oSl (.str (pr b)) none (some (a:Int)) s1=.ok (.str (nA b a)) s1:=sl _ _
  have s2':oSl (.str (pr b)) (some (a:Int)) none s1=.ok (.str (nB b a)) s1:=sl _ _
  simp [zbW,s1',s2',-znW,a1,a2]
 show (zdc [some (scr ns),some (.int k),none,none,none] st).bind endOf=_
 simp only [zdc,zG]
 rw [E1]
 simp only [zk,zy,zcY,zG]
 rw [E2]
 simp only [zk,zy,zcX,zG]
 rw [E3]
 simp only [zk,zy]
 rw [E4]
 rfl
theorem zhZ {A B x y:Str} (h:A++x++B=A++y++B):x=y:=by
 have e:=congrArg (fun s:Str=>s.cps.toList) h
 have f:∀s t:Str,(s++t).cps.toList=s.cps.toList++t.cps.toList:=fun s t=>by
  show (s.cps++t.cps).toList=_
  simp
 simp only [f,List.append_assoc] at e
 have e2:=List.append_cancel_right (List.append_cancel_left e)
 cases x;cases y
 simpa [Array.toList_inj] using e2
abbrev nms (ns:List Int) (n:Nat):List Str:=(List.range n).map (nm ns)
theorem zgl (ns:List Int) (n:Nat) (h:n≤104):(nms ns n).Nodup:=by
 show List.Pairwise (·≠·) ((List.range n).map (nm ns))
 rw [List.pairwise_map]
 have q:List.Pairwise (·≠·) ((List.range 104).map sgn):=zjE
 rw [List.pairwise_map] at q
 have s:(List.range n).Sublist (List.range 104):=List.range_sublist.mpr h
 exact (q.sublist s).imp fun {a b} ne e=>ne (zhZ e)
theorem zek (ns:List Int) (n:Nat):nms ns (n+1)=nms ns n++[nm ns n]:=by simp [nms,List.range_succ]
theorem zjH (ns:List Int) (n:Nat) (h:n<104):nm ns n∉nms ns n:=fun m=>by
 have nd:=zgl ns (n+1) (by omega)
 rw [zek] at nd
 exact (List.nodup_append.mp nd).2.2 _ m _ (List.mem_singleton.mpr rfl) rfl
end FK31
namespace FK31
open PySem L2 PySem.W Mi
theorem zlp (z:Str):Gd (.str z):=⟨.str z,by simp [nd]⟩
theorem zjI {zs:List Str} {j:Nat} (hj:j<zs.length):atI (zs.map PV.str) (j:Int)=some (.str zs[j]):=by simp [atI,ixN,hj]
theorem zov {zs:List Str} {j:Nat} (hj:j<zs.length):∃z∈zs,atI (zs.map PV.str) (-1-(j:Int))=some (.str z):=by
 refine ⟨zs[zs.length-1-j],List.getElem_mem _,?_⟩
 have e:ixN (zs.map PV.str).length (-1-(j:Int))=some (zs.length-1-j):=by
  unfold ixN
  rw [List.length_map,if_neg (by omega),if_pos (by omega)]
  congr 1
  omega
 unfold atI
 rw [e]
 simp
theorem zjJ (c:Int) {st:Sto} {na:Nat} {zs:List Str} (h:st[na]?=some (.lst (zs.map PV.str))):∃a d,m__law_atom [.int c,.ref na] st=.ok a (st++d)∧Atm zs a:=by
 obtain ⟨d,hd⟩:=zqc (divP c 4) st
 by_cases he:zs=[]
 ·subst he
  refine ⟨.tup [.str "is", vl (divP c 4)],d,?_,.is _ (zmT _)⟩
  generalize st++d=s1 at hd ⊢
  simp at h
  by_cases h4:modP c 4=0<;>by_cases h16:modP c 16=4<;>simp [m__law_atom,mirror,zbt,zaf,cNz,cDv,zn h,h4,h16,hd]
 ·have hp:0<zs.length:=by cases zs with|nil=>exact absurd rfl he|cons=>simp
  have z0:atI (zs.map PV.str) 0=some (.str zs[0]):=zjI hp
  have hl:¬((zs.length:Int)=0):=by omega
  have tailc:∃a d,zaf [some (.int c),some (.ref na)] st=.ok (.rt a) (st++d)∧Atm zs a:=by
   by_cases h4:modP c 4=0
   ·refine ⟨.tup [.str "is", vl (divP c 4)],d,?_,.is _ (zmT _)⟩
    generalize st++d=s1 at hd ⊢
    simp [zaf,cNz,cDv,h4,hd]
   ·by_cases h3:modP c 4<3
    ·obtain ⟨j,hj,ej⟩:=modNat (divP c 4) (if zs.length<3 then zs.length else 3) (by split<;>omega)
     have hj':j<zs.length:=by split at hj<;>omega
     obtain ⟨z,hz,ez⟩:=zov hj'
     refine ⟨.tup [.str "of", .str z],[],?_,.of z hz⟩
     have ec:((if zs.length<3 then zs.length else 3:Nat):Int)=if (zs.length:Int)<3 then (zs.length:Int) else 3:=by split<;>split<;>omega
     rw [ec] at ej
     have nz:¬((if (zs.length:Int)<3 then (zs.length:Int) else 3)=0):=by split<;>omega
     simp [zaf,zbX,cNz,cDv,h4,h3,hl,he,zn h,ej,ez,nz]
    ·obtain ⟨j,hj,ej⟩:=modNat (divP c 4) zs.length hp
     refine ⟨.tup [.str "of", .str zs[j]],[],?_,.of _ (List.getElem_mem hj)⟩
     simp [zaf,zbX,zcZ,cNz,cDv,h4,h3,hl,he,zn h,ej,zjI hj]
  obtain ⟨a,d1,t,ha⟩:=tailc
  by_cases h16:modP c 16=4
  ·cases hal:Txt.isalpha zs[0]
   ·refine ⟨a,d1,?_,ha⟩
    generalize st++d1=s1 at t ⊢
    simp [m__law_atom,mirror,zbt,cNz,zn h,h16,hp,z0,hal,t]
   ·obtain ⟨j,hj,ej⟩:=modNat (divP c 16) zs.length hp
    refine ⟨.tup [.str "is", .str zs[j]],[],?_,.is _ (zlp _)⟩
    simp [m__law_atom,mirror,zbt,cNz,cDv,zn h,h16,hp,z0,hal,ej,zjI hj,he]
  ·refine ⟨a,d1,?_,ha⟩
   generalize st++d1=s1 at t ⊢
   simp [m__law_atom,mirror,zbt,cNz,h16,t]
end FK31
namespace FK31
open PySem L2 PySem.W Mi
abbrev zao (x0 x1 x2 x3 x4 x5 x6 x7 x8 x9 xa xb xc xd xe xf xg:Option PV):PEnv:=[x0,x1,x2,x3,x4,x5,x6,x7,x8,x9,xa,xb,xc,xd,xe,xf,xg]
def zlq:List Str:=["add", "sub", "mul", "less", "same", "front"]
theorem zow (b:Nat) (hb:b<6):∃op,Op6 op∧zlq[b]?=some op:=by
 match b,hb with
 | 0,_=>exact ⟨_,.add,rfl⟩
 | 1,_=>exact ⟨_,.sub,rfl⟩
 | 2,_=>exact ⟨_,.mul,rfl⟩
 | 3,_=>exact ⟨_,.less,rfl⟩
 | 4,_=>exact ⟨_,.same,rfl⟩
 | 5,_=>exact ⟨_,.front,rfl⟩
theorem Prg.snoc {ks ss fin} (h:Prg ks ss fin) {nm op:Str} {a1 a2:PV} (ho:Op6 op) (h1:Atm fin a1) (h2:Atm fin a2) (hn:nm∉fin):Prg ks (ss++[lnL nm op a1 a2]) (fin++[nm]):=by
 induction h with
 | nil ks=>exact .cons ho h1 h2 hn (.nil _)
 | cons ho' h1' h2' hn' t ih=>exact .cons ho' h1' h2' hn' (ih h1 h2 hn)
abbrev bdL:PEnv→Mo Fl:=(sSeq (sSet 7 (mOp oIxD (mLst (aStrs ["add", "sub", "mul", "less", "same", "front"])) (mOp oMod (mVar 6) (mC (.int 6)))))
  (sSeq (sSet 8 (mTup (aCons (mCall m__law_atom (aCons (mOp oDiv (mVar 6) (mC (.int 6))) (aCons (mVar 2) aNil))) (aCons (mCall m__law_atom (aCons (mOp oDiv (mVar 6) (mC (.int 1009))) (aCons (mVar 2) aNil))) aNil))))
  (sSeq (sExpr (mMut oAppend (mVar 2) (mCall m__law_name (aCons (mVar 0) (aCons (mOp oAdd (mVar 1) (mVar 5)) aNil)))))
  (sExpr (mMut oAppend (mVar 4) (mTup (aCons (mC (.str "let")) (aCons (mOp oIxD (mVar 2) (mUn oNeg (mC (.int 1)))) (aCons (mVar 7) (aCons (mVar 8) aNil))))))))))
section
variable {ns:List Int} {m na sa:Nat} {ins:PV}
abbrev envS (ns:List Int) (m na sa:Nat) (ins:PV) (z5 z6 z7 z8:Option PV):PEnv:=zao (some (scr ns)) (some (.int m)) (some (.ref na)) (some ins) (some (.ref sa)) z5 z6 z7 z8 none none none none none none none none
theorem zjK {st:Sto} {ss:List PV} (i:Nat) (c:Int) (hn:m+i<104) (hs:ss.length≤1000) (ne:na≠sa) (hna:st[na]?=some (.lst ((nms ns (m+i)).map PV.str))) (hsa:st[sa]?=some (.lst ss)) (z7 z8:Option PV) :
  ∃op a1 a2 z7' z8' st',bdL (envS ns m na sa ins (some (.int i)) (some (.int c)) z7 z8) st=.ok (.nx (envS ns m na sa ins (some (.int i)) (some (.int c)) z7' z8')) st'∧Op6 op∧Atm (nms ns (m+i)) a1∧Atm (nms ns (m+i)) a2 ∧
   st'[na]?=some (.lst ((nms ns (m+(i+1))).map PV.str))∧st'[sa]?=some (.lst (ss++[lnL (nm ns (m+i)) op a1 a2]))∧∀j so,j≠na→j≠sa→st[j]?=some so→st'[j]?=some so:=by
 obtain ⟨b,hb,eb⟩:=modNat c 6 (by decide)
 have eb':modP c 6=(b:Int):=eb
 obtain ⟨op,ho,eo⟩:=zow b hb
 have ht:=zaq st (.lst (zlq.map PV.str))
 have ei:atI (zlq.map PV.str) (b:Int)=some (.str op):=atI_get (by rw [List.getElem?_map,eo];rfl)
 have E1:(sSet 7 (mOp oIxD (mLst (aStrs ["add", "sub", "mul", "less", "same", "front"])) (mOp oMod (mVar 6) (mC (.int 6))))) (envS ns m na sa ins (some (.int i)) (some (.int c)) z7 z8) st=.ok (.nx (envS ns m na sa ins (some (.int i)) (some (.int c)) (some (.str op)) z8)) (st++[.lst (zlq.map PV.str)]):=by
  simp only [zbH,ziW,ziX,zjh,zk,zco,zjN,List.getElem?_cons_zero,List.getElem?_cons_succ]
  rw [if_pos (by simp)]
  simp only [zk,zmm]
  rw [show cNz c 6=true by simp [cNz],eb']
  simp only [if_true,zk]
  rw [show ([("add" : Str),"sub", "mul", "less", "same", "front"]:List Str).map PV.str=zlq.map PV.str from rfl]
  generalize zlq.map PV.str=l at ht ei
  simp [zn ht,ei]
 have k1:∀(n:Nat) so,st[n]?=some so→(st++[SO.lst (zlq.map PV.str)])[n]?=some so:=fun n so e=>(Pre.of _ _).get e
 generalize st++[SO.lst (zlq.map PV.str)]=s1 at E1 k1
 obtain ⟨a1,d1,p1,A1⟩:=zjJ (divP c 6) (k1 _ _ hna)
 have k2:∀(n:Nat) so,s1[n]?=some so→(s1++d1)[n]?=some so:=fun n so e=>(Pre.of _ _).get e
 generalize s1++d1=s2 at p1 k2
 obtain ⟨a2,d2,p2,A2⟩:=zjJ (divP c 1009) (k2 _ _ (k1 _ _ hna))
 have k3:∀(n:Nat) so,s2[n]?=some so→(s2++d2)[n]?=some so:=fun n so e=>(Pre.of _ _).get e
 generalize s2++d2=s3 at p2 k3
 have E2:(sSet 8 (mTup (aCons (mCall m__law_atom (aCons (mOp oDiv (mVar 6) (mC (.int 6))) (aCons (mVar 2) aNil))) (aCons (mCall m__law_atom (aCons (mOp oDiv (mVar 6) (mC (.int 1009))) (aCons (mVar 2) aNil))) aNil)))) (envS ns m na sa ins (some (.int i)) (some (.int c)) (some (.str op)) z8) s1=.ok (.nx (envS ns m na sa ins (some (.int i)) (some (.int c)) (some (.str op)) (some (.tup [a1,a2])))) s3:=by
  simp [cDv,p1,p2]
 have hna3:=k3 _ _ (k2 _ _ (k1 _ _ hna))
 have hsa3:=k3 _ _ (k2 _ _ (k1 _ _ hsa))
 obtain ⟨d3,p3⟩:=zjG ns (m+i) hn s3
 have k4:∀(n:Nat) so,s3[n]?=some so→(s3++d3)[n]?=some so:=fun n so e=>(Pre.of _ _).get e
 generalize s3++d3=s4 at p3 k4
 have hna4:=k4 _ _ hna3
 have hsa4:=k4 _ _ hsa3
 have es:(nms ns (m+i)).map PV.str++[.str (nm ns (m+i))]=(nms ns (m+(i+1))).map PV.str:=by
  rw [←Nat.add_assoc,zek];simp
 have ll:((nms ns (m+i)).map PV.str).length<1000000:=by simp;omega
 have E3:(sExpr (mMut oAppend (mVar 2) (mCall m__law_name (aCons (mVar 0) (aCons (mOp oAdd (mVar 1) (mVar 5)) aNil))))) (envS ns m na sa ins (some (.int i)) (some (.int c)) (some (.str op)) (some (.tup [a1,a2]))) s3=.ok (.nx (envS ns m na sa ins (some (.int i)) (some (.int c)) (some (.str op)) (some (.tup [a1,a2])))) (s4.set na (.lst ((nms ns (m+(i+1))).map PV.str))):=by
  have p3':m__law_name [scr ns,.int ((m:Int)+(i:Int))] s3=.ok (.str (nm ns (m+i))) s4:=p3
  rw [←es]
  generalize (nms ns (m+i)).map PV.str=l at hna3 hna4 ll
  simp [zn hna3,p3',zn hna4,ll]
 have lna:na<s4.length:=zb0 hna4
 have hna5:(s4.set na (.lst ((nms ns (m+(i+1))).map PV.str)))[na]?=some (.lst ((nms ns (m+(i+1))).map PV.str)):=by rw [List.getElem?_set_self lna]
 have hsa5:(s4.set na (.lst ((nms ns (m+(i+1))).map PV.str)))[sa]?=some (.lst ss):=by rw [List.getElem?_set_ne ne];exact hsa4
 have k5:∀(n:Nat) so,n≠na→s4[n]?=some so→(s4.set na (.lst ((nms ns (m+(i+1))).map PV.str)))[n]?=some so:=fun n so h e=>by rw [List.getElem?_set_ne (Ne.symm h)];exact e
 generalize s4.set na (.lst ((nms ns (m+(i+1))).map PV.str))=s5 at E3 hna5 hsa5 k5
 have la:atI ((nms ns (m+(i+1))).map PV.str) (-1)=some (.str (nm ns (m+i))):=by rw [←es];exact atL _ _
 have hs':ss.length<1000000:=by omega
 have E4:(sExpr (mMut oAppend (mVar 4) (mTup (aCons (mC (.str "let")) (aCons (mOp oIxD (mVar 2) (mUn oNeg (mC (.int 1)))) (aCons (mVar 7) (aCons (mVar 8) aNil))))))) (envS ns m na sa ins (some (.int i)) (some (.int c)) (some (.str op)) (some (.tup [a1,a2]))) s5=.ok (.nx (envS ns m na sa ins (some (.int i)) (some (.int c)) (some (.str op)) (some (.tup [a1,a2])))) (s5.set sa (.lst (ss++[lnL (nm ns (m+i)) op a1 a2]))):=by
  generalize (nms ns (m+(i+1))).map PV.str=l at hna5 la
  simp [zn hsa5,zn hna5,la,hs']
 refine ⟨op,a1,a2,some (.str op),some (.tup [a1,a2]),s5.set sa (.lst (ss++[lnL (nm ns (m+i)) op a1 a2])),?_,ho,A1,A2,by rw [List.getElem?_set_ne (Ne.symm ne)];exact hna5,by rw [List.getElem?_set_self (zb0 hsa5)],fun j so h1 h2 e=>by rw [List.getElem?_set_ne (Ne.symm h2)];exact k5 _ _ h1 (k4 _ _ (k3 _ _ (k2 _ _ (k1 _ _ e))))⟩
 unfold bdL
 rw [zG,E1,zk,zy,zG,E2,zk,zy,zG,E3,zk,zy,E4]
end
theorem zkR {g:PV→PEnv→Option PEnv} {body:PEnv→Mo Fl} {l:Nat} {xs:List PV} (I:Nat→PEnv→Sto→Prop) (hI:∀i e st,I i e st→st[l]?=some (.lst xs)) (hb:∀i e st x,xs[i]?=some x→I i e st→∃e1 e2 st2,g (.tup [.int i,x]) e=some e1∧body e1 st=.ok (.nx e2) st2∧I (i+1) e2 st2) :
  ∀(k i m:Nat) (env:PEnv) (st:Sto),xs.length-i=k→i≤xs.length→k<m→I i env st→∃env' st',forE g body l m i env st=.ok (.nx env') st'∧I xs.length env' st':=by
 intro k
 induction k with
 | zero =>
  intro i m env st hk hi hm h
  obtain ⟨m',rfl⟩:∃m',m=m'+1:=⟨m-1,by omega⟩
  have:i=xs.length:=by omega
  subst this
  refine ⟨env,st,?_,h⟩
  unfold forE
  rw [zn (hI _ _ _ h),List.getElem?_eq_none_iff.mpr (by omega)]
 | succ k ih =>
  intro i m env st hk hi hm h
  obtain ⟨m',rfl⟩:∃m',m=m'+1:=⟨m-1,by omega⟩
  have hlt:i<xs.length:=by omega
  obtain ⟨e1,e2,st2,q1,q2,q3⟩:=hb i env st xs[i] (List.getElem?_eq_getElem hlt) h
  obtain ⟨env',st',r1,r2⟩:=ih (i+1) m' e2 st2 (by omega) (by omega) (by omega) q3
  refine ⟨env',st',?_,r2⟩
  unfold forE
  rw [zn (hI _ _ _ h),List.getElem?_eq_getElem hlt]
  simp only [q1]
  rw [q2]
  simp only [zk]
  exact r1
theorem zmV {ns:List Int} {m na sa:Nat} {ins:PV} {st:Sto} (hm:m<7) (ne:na≠sa) (hna:st[na]?=some (.lst ((nms ns m).map PV.str))) (hsa:st[sa]?=some (.lst [])) :
  ∃n ss z5 z6 z7 z8 st',(sForE (aCons (mSl (mVar 0) (pSome (mC (.int 10))) (pSome (mC (.int 50)))) aNil) (g2 5 6) bdL) (envS ns m na sa ins none none none none) st=.ok (.nx (envS ns m na sa ins z5 z6 z7 z8)) st'∧n≤40∧ss.length=n∧Prg (nms ns m) ss (nms ns (m+n))∧st'[na]?=some (.lst ((nms ns (m+n)).map PV.str))∧st'[sa]?=some (.lst ss):=by
 have hc:∃ys:List Int,ys.length≤40∧cutP (ns.map PV.int) (some 10) (some 50)=ys.map PV.int:=by
  refine ⟨(ns.drop (HT.sIx ns.length 0 (some 10))).take (HT.sIx ns.length ns.length (some 50)-HT.sIx ns.length 0 (some 10)),?_,?_⟩
  ·simp [HT.sIx]
   omega
  ·simp [cutP,List.map_drop,List.map_take]
 obtain ⟨ys,hl,hc⟩:=hc
 have hla:=zaq st (.lst (ys.map PV.int))
 have n1:st.length≠na:=Nat.ne_of_gt (zb0 hna)
 have n2:st.length≠sa:=Nat.ne_of_gt (zb0 hsa)
 obtain ⟨env',st',F,z5,z6,z7,z8,ss,rfl,e1,e2,e3,e4,e5⟩:=zkR (g:=g2 5 6) (body:=bdL) (l:=st.length) (xs:=ys.map PV.int) (fun i e s=>∃z5 z6 z7 z8 ss,e=envS ns m na sa ins z5 z6 z7 z8∧ss.length=i∧Prg (nms ns m) ss (nms ns (m+i))∧s[na]?=some (.lst ((nms ns (m+i)).map PV.str))∧s[sa]?=some (.lst ss)∧s[st.length]?=some (.lst (ys.map PV.int)))
  (fun i e s ⟨_,_,_,_,_,_,_,_,_,_,h⟩=>h) (fun i e s x hx ⟨z5,z6,z7,z8,ss,he,h1,h2,h3,h4,h5⟩=>by
   subst he
   have hi:i<ys.length:=by have:=(List.getElem?_eq_some_iff.mp hx).1;simpa using this
   obtain ⟨c,rfl⟩:∃c,x=.int c:=by
    rw [List.getElem?_map,List.getElem?_eq_getElem hi] at hx
    exact ⟨_,(Option.some.inj hx).symm⟩
   obtain ⟨op,a1,a2,z7',z8',s',b,o6,A1,A2,q1,q2,q3⟩:=zjK (ns:=ns) (m:=m) (ins:=ins) i c (by omega) (by omega) ne h3 h4 z7 z8
   refine ⟨envS ns m na sa ins (some (.int i)) (some (.int c)) z7 z8,_,s',rfl,b,_,_,_,_,ss++[lnL (nm ns (m+i)) op a1 a2],rfl,by simp [h1],?_,q1,q2,q3 _ _ n1 n2 h5⟩
   have:=h2.snoc o6 A1 A2 (zjH ns (m+i) (by omega))
   rw [←zek] at this
   exact this) ys.length 0 (lim+1) (envS ns m na sa ins none none none none) (st++[.lst (ys.map PV.int)]) (by simp) (Nat.zero_le _) (by show ys.length<1000000+1;omega)
   ⟨none,none,none,none,[],rfl,rfl,.nil _,(Pre.of _ _).get hna,(Pre.of _ _).get hsa,hla⟩
 rw [List.length_map] at e1 e2 e3
 refine ⟨ys.length,ss,z5,z6,z7,z8,st',?_,hl,e1,e2,e3,e4⟩
 have src:(aCons (mSl (mVar 0) (pSome (mC (.int 10))) (pSome (mC (.int 50)))) aNil) (envS ns m na sa ins none none none none) st=.ok [.ref st.length] (st++[.lst (ys.map PV.int)]):=by
  simp [hc]
 rw [zmy,src]
 simp only [zk,zjg]
 rw [zn hla]
 simp only [zk]
 exact F
end FK31
namespace FK31
open PySem L2 PySem.W Mi
def fN (ns:List Int):PV→PV
 | .int i=>.str (nm ns i.toNat)
 | x=>x
theorem zmW (ns:List Int) (m:Nat) (hm:m<7) (st:Sto):∃d,(sSet 2 (mComp (iRng1 (aCons (mVar 1) aNil)) (mCall m__law_name (aCons (mVar 1) (aCons (mVar 0) aNil))))) (zao (some (scr ns)) (some (.int m)) none none none none none none none none none none none none none none none) st=.ok (.nx (zao (some (scr ns)) (some (.int m)) (some (.ref (st++d).length)) none none none none none none none none none none none none none none)) (st++d++[.lst ((nms ns m).map PV.str)]):=by
 obtain ⟨d,q⟩:=zcc (fe:=mCall m__law_name (aCons (mVar 1) (aCons (mVar 0) aNil))) (env:=zao (some (scr ns)) (some (.int m)) none none none none none none none none none none none none none none none) (f:=fN ns) (nums 0 m) (fun x hx st=>by
  rw [zbj] at hx
  obtain ⟨i,hi,rfl⟩:=List.mem_map.mp hx
  have hi':i<m:=List.mem_range.mp hi
  obtain ⟨d,e⟩:=zjG ns i (by omega) st
  exact ⟨d,by simp [e,fN]⟩) [] st
 rw [List.nil_append,show (nums 0 m).map (fN ns)=(nms ns m).map PV.str by rw [zbj];simp [fN]] at q
 refine ⟨d,?_⟩
 have src:(iRng1 (aCons (mVar 1) aNil)) (zao (some (scr ns)) (some (.int m)) none none none none none none none none none none none none none none none) st=.ok (.im (nums 0 m)) st:=by
  have hr:cR (m:Int)=true:=by simp [cR];omega
  simp [hr]
 rw [zbH,zdP,src]
 simp only [zk]
 rw [zfk,if_pos (by rw [zbj];simp;show m≤1000000;omega),q]
 rfl
noncomputable def fV (ns:List Int):PV→PV
 | .int i=>vl (cell ns (3+i.toNat))
 | x=>x
noncomputable abbrev vsOf (ns:List Int) (m:Nat):List PV:=(List.range m).map fun k=>vl (cell ns (3+k))
theorem zkS (ns:List Int) (m na:Nat) (hm:m<7) (st:Sto):∃d,(sSet 3 (mCall oTuple (aCons (mComp (iRng1 (aCons (mVar 1) aNil)) (mCall m__law_value (aCons (mCall m__law_cell_at (aCons (mVar 1) (aCons (mOp oAdd (mC (.int 3)) (mVar 0)) aNil))) aNil))) aNil))) (zao (some (scr ns)) (some (.int m)) (some (.ref na)) none none none none none none none none none none none none none none) st=.ok (.nx (zao (some (scr ns)) (some (.int m)) (some (.ref na)) (some (.tup (vsOf ns m))) none none none none none none none none none none none none none)) (st++d):=by
 obtain ⟨d,q⟩:=zcc (fe:=mCall m__law_value (aCons (mCall m__law_cell_at (aCons (mVar 1) (aCons (mOp oAdd (mC (.int 3)) (mVar 0)) aNil))) aNil)) (env:=zao (some (scr ns)) (some (.int m)) (some (.ref na)) none none none none none none none none none none none none none none) (f:=fV ns) (nums 0 m) (fun x hx st=>by
  rw [zbj] at hx
  obtain ⟨i,hi,rfl⟩:=List.mem_map.mp hx
  obtain ⟨d,e⟩:=zqc (cell ns (3+i)) st
  have c:m__law_cell_at [scr ns,.int (3+(i:Int))] st=.ok (.int (cell ns (3+i))) st:=by
   have:=ze5 ns (3+i) st
   rw [show ((3+i:Nat):Int)=3+(i:Int) by omega] at this
   exact this
  exact ⟨d,by simp [c,e,fV]⟩) [] st
 rw [List.nil_append,show (nums 0 m).map (fV ns)=vsOf ns m by rw [zbj];simp [fV]] at q
 refine ⟨d++[.lst (vsOf ns m)],?_⟩
 rw [←List.append_assoc]
 have src:(iRng1 (aCons (mVar 1) aNil)) (zao (some (scr ns)) (some (.int m)) (some (.ref na)) none none none none none none none none none none none none none none) st=.ok (.im (nums 0 m)) st:=by
  have hr:cR (m:Int)=true:=by simp [cR];omega
  simp [hr]
 have cm:mComp (iRng1 (aCons (mVar 1) aNil)) (mCall m__law_value (aCons (mCall m__law_cell_at (aCons (mVar 1) (aCons (mOp oAdd (mC (.int 3)) (mVar 0)) aNil))) aNil)) (zao (some (scr ns)) (some (.int m)) (some (.ref na)) none none none none none none none none none none none none none none) st=.ok (.ref (st++d).length) (st++d++[.lst (vsOf ns m)]):=by
  rw [zdP,src]
  simp only [zk]
  rw [zfk,if_pos (by rw [zbj];simp;show m≤1000000;omega),q]
 have ht:=zaq (st++d) (.lst (vsOf ns m))
 simp only [zbH,zbn,zaM]
 rw [cm]
 simp only [zk,zcp,oTuple]
 rw [zn ht]
 rfl
abbrev bdT:PEnv→Mo Fl:=(sDPutM (mVar 12) (mVar 13) (mVar 14))
theorem zhy {g:PV→PEnv→Option PEnv} {body:PEnv→Mo Fl} {l:Nat} {xs ys:List PV} (I:Nat→PEnv→Sto→Prop) (hI:∀i e st,I i e st→st[l]?=some (.lst xs)) (hle:ys.length≤xs.length)
  (hb:∀i e st x y,xs[i]?=some x→ys[i]?=some y→I i e st→∃e1 e2 st2,g (.tup [x,y]) e=some e1∧body e1 st=.ok (.nx e2) st2∧I (i+1) e2 st2) :
  ∀(k i m:Nat) (env:PEnv) (st:Sto),i+k=ys.length→k<m→I i env st→∃env' st',forZ g body l ys m i env st=.ok (.nx env') st'∧I ys.length env' st'
 | 0,i,m,env,st,hk,hm,h=>by
  obtain ⟨m',rfl⟩:∃m',m=m'+1:=⟨m-1,by omega⟩
  have:i=ys.length:=by omega
  subst this
  refine ⟨env,st,?_,h⟩
  unfold forZ
  rw [zn (hI _ _ _ h),List.getElem?_eq_none_iff.mpr (Nat.le_refl ys.length)]
  cases xs[ys.length]?<;>rfl
 | k+1,i,m,env,st,hk,hm,h=>by
  obtain ⟨m',rfl⟩:∃m',m=m'+1:=⟨m-1,by omega⟩
  have l1:i<ys.length:=by omega
  have l2:i<xs.length:=by omega
  obtain ⟨e1,e2,st2,q1,q2,q3⟩:=hb i env st xs[i] ys[i] (List.getElem?_eq_getElem l2) (List.getElem?_eq_getElem l1) h
  obtain ⟨env',st',r1,r2⟩:=zhy I hI hle hb k (i+1) m' e2 st2 (by omega) (by omega) q3
  refine ⟨env',st',?_,r2⟩
  unfold forZ
  rw [zn (hI _ _ _ h),List.getElem?_eq_getElem l2,List.getElem?_eq_getElem l1]
  simp only [q1]
  rw [q2]
  simp only [zk]
  exact r1
theorem zjL {α:Type} (l:List α) (i:Nat) (x:α) (h:l[i]?=some x):l.take (i+1)=l.take i++[x]:=by
 obtain ⟨hi,rfl⟩:=List.getElem?_eq_some_iff.mp h
 exact (List.take_append_getElem hi).symm
theorem zkT {ns:List Int} {m n na sa th:Nat} {x1 x4 x5 x6 x7 x8 x9 xa xb:Option PV} {vs:List PV} {st:Sto} (hmn:m≤n) (hn:n≤104) (hv:vs.length=m) (hna:st[na]?=some (.lst ((nms ns n).map PV.str))) (hth:st[th]?=some (.dic [] [])) {ss:List PV} (hsa:st[sa]?=some (.lst ss)) :
  ∃xd xe st',(sForZ (aCons (mVar 2) (aCons (mVar 3) aNil)) (g2 13 14) bdT) (zao (some (scr ns)) x1 (some (.ref na)) (some (.tup vs)) x4 x5 x6 x7 x8 x9 xa xb (some (.ref th)) none none none none) st=.ok (.nx (zao (some (scr ns)) x1 (some (.ref na)) (some (.tup vs)) x4 x5 x6 x7 x8 x9 xa xb (some (.ref th)) xd xe none none)) st'∧st'[th]?=some (.dic (nms ns m) vs)∧st'[sa]?=some (.lst ss):=by
 have nth:th≠na:=fun z=>by rw [z,hna] at hth;cases hth
 have nsa:th≠sa:=fun z=>by rw [z,hsa] at hth;cases hth
 obtain ⟨env',st',F,xd,xe,rfl,e1,e2,e3⟩:=zhy (g:=g2 13 14) (body:=bdT) (l:=na) (xs:=(nms ns n).map PV.str) (ys:=vs) (fun i e s=>∃xd xe,e=zao (some (scr ns)) x1 (some (.ref na)) (some (.tup vs)) x4 x5 x6 x7 x8 x9 xa xb (some (.ref th)) xd xe none none∧s[na]?=some (.lst ((nms ns n).map PV.str))∧s[th]?=some (.dic (nms ns i) (vs.take i))∧s[sa]?=some (.lst ss))
  (fun i e s ⟨_,_,_,h,_⟩=>h) (by simp;omega) (fun i e s x y hx hy ⟨xd,xe,he,h1,h2,h3⟩=>by
   subst he
   have hi:i<vs.length:=(List.getElem?_eq_some_iff.mp hy).1
   have hx':x=.str (nm ns i):=by
    rw [List.getElem?_map,List.getElem?_map,List.getElem?_range (by omega)] at hx
    exact (Option.some.inj hx).symm
   subst hx'
   have dp:=zgL h2 (by simp;omega) (nm ns i) y
   rw [zej _ _ _ _ (zjH ns i (by omega)),←zek,←zjL _ _ _ hy] at dp
   simp only at dp
   refine ⟨zao (some (scr ns)) x1 (some (.ref na)) (some (.tup vs)) x4 x5 x6 x7 x8 x9 xa xb (some (.ref th)) (some (.str (nm ns i))) (some y) none none,_,s.set th (.dic (nms ns (i+1)) (vs.take (i+1))),rfl,?_,some (.str (nm ns i)),some y,rfl,by rw [List.getElem?_set_ne nth];exact h1,by rw [List.getElem?_set_self (zb0 h2)],by rw [List.getElem?_set_ne nsa];exact h3⟩
   simp only [bdT,zkI,zco,List.getElem?_cons_succ,List.getElem?_cons_zero,zk]
   rw [dp]
   rfl) vs.length 0 (lim+1) (zao (some (scr ns)) x1 (some (.ref na)) (some (.tup vs)) x4 x5 x6 x7 x8 x9 xa xb (some (.ref th)) none none none none) st (by omega) (by show vs.length<1000000+1;omega) ⟨none,none,rfl,hna,hth,hsa⟩
 rw [List.take_of_length_le (Nat.le_refl _),hv] at e2
 refine ⟨xd,xe,st',?_,e2,e3⟩
 simp only [zmE,zaM,zco,zcp,List.getElem?_cons_succ,List.getElem?_cons_zero,zk,zmF]
 rw [zn hna]
 exact F
theorem zhz:∀xs:List PV,(∀x∈xs,eqP x x=true)→eqPs xs xs=true
 | [],_=>rfl
 | x::xs,h=>by
  show (eqP x x&&eqPs xs xs)=true
  rw [h x (List.mem_cons_self ..),zhz xs fun y hy=>h y (List.mem_cons_of_mem _ hy)];rfl
theorem Vd.refl {x:PV} (h:Vd x):eqP x x=true:=by
 induction h with
 | int i h=>show (i==i)=true;simp
 | str z=>show (z==z)=true;simp
 | tup xs h ih=>exact zhz xs ih
structure Good (R:PV):Prop where
 tup:∃xs,R=.tup xs
 pl:∀st,∃d,zt 64 [R] st=.ok (.bl true) (st++d)
 eq:∀st,oEq R R st=.ok (.bl true) st
theorem zkU {w v:PV} (h:Shp w v) (t bu:Nat) (ht:t≤1000) (hb:bu≤1000):Good (res w v t bu):=by
 have vt:∀n:Nat,n≤1000→Vd (.int n):=fun n h=>.int _ ⟨by omega,by omega⟩
 unfold res
 split
 ·have hw:Vd w∧nd w=1:=by
   rcases h with ⟨rfl,_⟩|⟨rfl,_⟩<;>exact ⟨.str _,rfl⟩
  have hv:Vd v∧nd v≤60:=by
   rcases h with ⟨_,g⟩|⟨_,z,rfl⟩
   ·exact g
   ·exact zlp z
  have vv:Vd (.tup [w,v,.int t]):=.tup _ fun x hx=>by
   simp only [List.mem_cons,List.not_mem_nil,or_false] at hx
   rcases hx with rfl|rfl|rfl
   ·exact hw.1
   ·exact hv.1
   ·exact vt t ht
  have hn:nd (.tup [w,v,.int t])≤63:=by
   show nd w+(nd v+(1+0))+1≤63
   omega
  have hd:=vv.dep
  refine ⟨⟨_,rfl⟩,fun st=>lplain 64 _ st vv (by omega) (by omega),fun st=>?_⟩
  unfold oEq
  rw [if_pos ⟨vv.plain,vv.plain,by omega⟩,vv.refl]
 ·refine ⟨⟨_,rfl⟩,fun st=>?_,fun st=>?_⟩
  ·refine zgj (by simp) (fun x hx st=>?_) st
   simp only [List.mem_cons,List.not_mem_nil,or_false] at hx
   rcases hx with rfl|rfl|rfl
   ·exact lplain 63 _ st (.str _) (by simp [nd]) (by simp [dep])
   ·exact zmP 62 st
   ·exact lplain 63 _ st (vt bu hb) (by simp [nd]) (by simp [dep])
  ·have h1:plain (outR bu)=true:=rfl
   have h2:dep (outR bu)≤150:=by show max 0 (max 0 (max 0 0))+1≤150;decide
   have h3:eqP (outR bu) (outR bu)=true:=by simp;rfl
   unfold oEq
   rw [if_pos ⟨h1,h1,h2⟩,h3]
end FK31
namespace FK31
open PySem L2 PySem.W Mi
theorem zkV (ns:List Int) (n sa:Nat) (hn:n≤40) {x1 x2 x3 x5 x6 x7 x8 x9:Option PV} {st:Sto} {ss:List PV} (hs:ss.length=n) (hsa:st[sa]?=some (.lst ss)):∃(bu:Nat) (d:Sto),bu≤1000∧∀F:PEnv→Mo Fl,(sSeq (sSet 10 (mOp oAdd (mCall oLen (aCons (mVar 4) aNil)) (mOp oIxD (mLst (aCons (mC (.int 1)) (aCons (mC (.int 9)) (aCons (mC (.int 300)) (aCons (mC (.int 0)) aNil))))) (mOp oMod (mOp oDiv (mCall m__law_cell_at (aCons (mVar 0) (aCons (mC (.int 9)) aNil))) (mC (.int 4))) (mC (.int 4)))))) (sSeq (sIf (mB (mOp oEq (mOp oMod (mOp oDiv (mCall m__law_cell_at (aCons (mVar 0) (aCons (mC (.int 9)) aNil))) (mC (.int 16))) (mC (.int 5))) (mC (.int 1))))
  (sSet 10 (mOp oMod (mOp oDiv (mCall m__law_cell_at (aCons (mVar 0) (aCons (mC (.int 9)) aNil))) (mC (.int 80))) (mOp oAdd (mCall oLen (aCons (mVar 4) aNil)) (mC (.int 1)))))
  sNext) F)) (zao (some (scr ns)) x1 x2 x3 (some (.ref sa)) x5 x6 x7 x8 x9 none none none none none none none) st=F (zao (some (scr ns)) x1 x2 x3 (some (.ref sa)) x5 x6 x7 x8 x9 (some (.int bu)) none none none none none none) (st++d):=by
 have c9:∀st,m__law_cell_at [scr ns,.int 9] st=.ok (.int (cell ns 9)) st:=ze5 ns 9
 generalize cell ns 9=c at c9
 obtain ⟨b,hb,eb⟩:=modNat (divP c 4) 4 (by decide)
 have eb':modP (divP c 4) 4=(b:Int):=eb
 obtain ⟨k,hk,ek⟩:∃k:Nat,k≤300∧[PV.int 1,.int 9,.int 300,.int 0][b]?=some (.int k):=by
  match b,hb with
  | 0,_=>exact ⟨1,by omega,rfl⟩
  | 1,_=>exact ⟨9,by omega,rfl⟩
  | 2,_=>exact ⟨300,by omega,rfl⟩
  | 3,_=>exact ⟨0,by omega,rfl⟩
 have hsa':(st++[SO.lst [PV.int 1,.int 9,.int 300,.int 0]])[sa]?=some (.lst ss):=(Pre.of _ _).get hsa
 have E1:(sSet 10 (mOp oAdd (mCall oLen (aCons (mVar 4) aNil)) (mOp oIxD (mLst (aCons (mC (.int 1)) (aCons (mC (.int 9)) (aCons (mC (.int 300)) (aCons (mC (.int 0)) aNil))))) (mOp oMod (mOp oDiv (mCall m__law_cell_at (aCons (mVar 0) (aCons (mC (.int 9)) aNil))) (mC (.int 4))) (mC (.int 4)))))) (zao (some (scr ns)) x1 x2 x3 (some (.ref sa)) x5 x6 x7 x8 x9 none none none none none none none) st=.ok (.nx (zao (some (scr ns)) x1 x2 x3 (some (.ref sa)) x5 x6 x7 x8 x9 (some (.int ((n+k:Nat):Int))) none none none none none none)) (st++[.lst [PV.int 1,.int 9,.int 300,.int 0]]):=by
  have e:=atI_get ek
  simp [hsa,hs,c9,cNz,cDv,eb',withL,e]
 by_cases h1:modP (divP c 16) 5=1
 ·obtain ⟨q,hq,eq⟩:=modNat (divP c 80) (n+1) (by omega)
  have eq':modP (divP c 80) ((n:Int)+1)=(q:Int):=eq
  refine ⟨q,[.lst [PV.int 1,.int 9,.int 300,.int 0]],by omega,fun F=>?_⟩
  rw [zG,E1,zk,zy,zG]
  generalize st++[SO.lst [PV.int 1,.int 9,.int 300,.int 0]]=s1 at hsa'
  have nz:¬((n:Int)+1=0):=by omega
  have E2:(sIf (mB (mOp oEq (mOp oMod (mOp oDiv (mCall m__law_cell_at (aCons (mVar 0) (aCons (mC (.int 9)) aNil))) (mC (.int 16))) (mC (.int 5))) (mC (.int 1))))
    (sSet 10 (mOp oMod (mOp oDiv (mCall m__law_cell_at (aCons (mVar 0) (aCons (mC (.int 9)) aNil))) (mC (.int 80))) (mOp oAdd (mCall oLen (aCons (mVar 4) aNil)) (mC (.int 1)))))
    sNext) (zao (some (scr ns)) x1 x2 x3 (some (.ref sa)) x5 x6 x7 x8 x9 (some (.int ((n+k:Nat):Int))) none none none none none none) s1=.ok (.nx (zao (some (scr ns)) x1 x2 x3 (some (.ref sa)) x5 x6 x7 x8 x9 (some (.int q)) none none none none none none)) s1:=by
   simp [c9,cNz,cDv,h1,zn hsa',hs,eq',nz]
  rw [E2,zk,zy]
 ·refine ⟨n+k,[.lst [PV.int 1,.int 9,.int 300,.int 0]],by omega,fun F=>?_⟩
  rw [zG,E1,zk,zy,zG]
  generalize st++[SO.lst [PV.int 1,.int 9,.int 300,.int 0]]=s1
  have E2:(sIf (mB (mOp oEq (mOp oMod (mOp oDiv (mCall m__law_cell_at (aCons (mVar 0) (aCons (mC (.int 9)) aNil))) (mC (.int 16))) (mC (.int 5))) (mC (.int 1))))
    (sSet 10 (mOp oMod (mOp oDiv (mCall m__law_cell_at (aCons (mVar 0) (aCons (mC (.int 9)) aNil))) (mC (.int 80))) (mOp oAdd (mCall oLen (aCons (mVar 4) aNil)) (mC (.int 1)))))
    sNext) (zao (some (scr ns)) x1 x2 x3 (some (.ref sa)) x5 x6 x7 x8 x9 (some (.int ((n+k:Nat):Int))) none none none none none none) s1=.ok (.nx (zao (some (scr ns)) x1 x2 x3 (some (.ref sa)) x5 x6 x7 x8 x9 (some (.int ((n+k:Nat):Int))) none none none none none none)) s1:=by
   simp [c9,cNz,cDv,h1]
  rw [E2,zk,zy]
theorem zkW {l:List PV} {m:Nat} (h:m≤l.length):cutP l none (some (m:Int))=l.take m:=by
 have:¬((m:Int)<0):=by omega
 simp [cutP,HT.sIx,this]
theorem zpA (ns:List Int):∃st,zoi [.frl (ns.map PV.int)] []=.ok (.bl true) st:=by
 have c2:∀st,m__law_cell_at [scr ns,.int 2] st=.ok (.int (cell ns 2)) st:=ze5 ns 2
 have c9:∀st,m__law_cell_at [scr ns,.int 9] st=.ok (.int (cell ns 9)) st:=ze5 ns 9
 obtain ⟨m,hm,em⟩:=modNat (cell ns 2) 7 (by decide)
 have em':modP (cell ns 2) 7=(m:Int):=em
 have E1:(sSet 1 (mOp oMod (mCall m__law_cell_at (aCons (mVar 0) (aCons (mC (.int 2)) aNil))) (mC (.int 7)))) (zao (some (scr ns)) none none none none none none none none none none none none none none none none) []=.ok (.nx (zao (some (scr ns)) (some (.int m)) none none none none none none none none none none none none none none none)) []:=by
  simp [c2,cNz,em']
 obtain ⟨d2,E2⟩:=zmW ns m hm []
 have h2:=zaq ([]++d2) (.lst ((nms ns m).map PV.str))
 generalize hna:([]++d2:Sto).length=na at E2 h2
 generalize ([]++d2:Sto)++[.lst ((nms ns m).map PV.str)]=s2 at E2 h2
 obtain ⟨d3,E3⟩:=zkS ns m na hm s2
 have h3:(s2++d3)[na]?=some (.lst ((nms ns m).map PV.str)):=(Pre.of _ _).get h2
 generalize s2++d3=s3 at E3 h3
 have E4:(sSet 4 (mLst aNil)) (zao (some (scr ns)) (some (.int m)) (some (.ref na)) (some (.tup (vsOf ns m))) none none none none none none none none none none none none none) s3=.ok (.nx (envS ns m na s3.length (.tup (vsOf ns m)) none none none none)) (s3++[.lst []]):=by
  simp
 have h4:(s3++[SO.lst []])[na]?=some (.lst ((nms ns m).map PV.str)):=(Pre.of _ _).get h3
 have h4s:=zaq s3 (.lst [])
 have ne:na≠s3.length:=Nat.ne_of_lt (zb0 h3)
 generalize s3++[SO.lst []]=s4 at E4 h4 h4s
 generalize s3.length=sa at E4 h4s ne
 obtain ⟨n,ss,z5,z6,z7,z8,s5,E5,hn,hss,hP,h5,h5s⟩:=zmV (ins:=.tup (vsOf ns m)) hm ne h4 h4s
 obtain ⟨last,d6,p6,A6⟩:=zjJ (cell ns 9) h5
 have h6:(s5++d6)[na]?=some (.lst ((nms ns (m+n)).map PV.str)):=(Pre.of _ _).get h5
 have h6s:(s5++d6)[sa]?=some (.lst ss):=(Pre.of _ _).get h5s
 have E6:(sSet 9 (mCall m__law_atom (aCons (mCall m__law_cell_at (aCons (mVar 0) (aCons (mC (.int 9)) aNil))) (aCons (mVar 2) aNil)))) (envS ns m na sa (.tup (vsOf ns m)) z5 z6 z7 z8) s5=.ok (.nx (zao (some (scr ns)) (some (.int m)) (some (.ref na)) (some (.tup (vsOf ns m))) (some (.ref sa)) z5 z6 z7 z8 (some last) none none none none none none none)) (s5++d6):=by
  generalize s5++d6=s9 at p6
  simp [c9,p6]
 generalize s5++d6=s6 at E6 h6 h6s
 obtain ⟨bu,d7,hbu,E7⟩:=zkV ns n sa hn (x1:=some (.int m)) (x2:=some (.ref na)) (x3:=some (.tup (vsOf ns m))) (x5:=z5) (x6:=z6) (x7:=z7) (x8:=z8) (x9:=some last) hss h6s
 have h7:(s6++d7)[na]?=some (.lst ((nms ns (m+n)).map PV.str)):=(Pre.of _ _).get h6
 have h7s:(s6++d7)[sa]?=some (.lst ss):=(Pre.of _ _).get h6s
 generalize s6++d7=s7 at E7 h7 h7s
 obtain ⟨d8,p8⟩:=zjG ns 24 (by decide) s7
 have h8:(s7++d8)[na]?=some (.lst ((nms ns (m+n)).map PV.str)):=(Pre.of _ _).get h7
 have h8s:(s7++d8)[sa]?=some (.lst ss):=(Pre.of _ _).get h7s
 generalize s7++d8=s8 at p8 h8 h8s
 have ct:cutP ((nms ns (m+n)).map PV.str) none (some (m:Int))=(nms ns m).map PV.str:=by
  have e0:List.take m (nms ns (m+n))=nms ns m:=by
   unfold nms
   rw [←List.map_take,List.take_range,Nat.min_eq_left (by omega)]
  rw [zkW (by simp),←List.map_take,e0]
 generalize hpr:PV.tup [.tup [.str (nm ns 24),.tup ((nms ns m).map PV.str),.tup [.tup ss,.tup [.str "give", last]]]]=prog
 have E8:(sSet 11 (mTup (aCons (mTup (aCons (mCall m__law_name (aCons (mVar 0) (aCons (mC (.int 24)) aNil))) (aCons (mCall oTuple (aCons (mSl (mVar 2) pNone (pSome (mVar 1))) aNil)) (aCons (mTup (aCons (mCall oTuple (aCons (mVar 4) aNil)) (aCons (mTup (aCons (mC (.str "give")) (aCons (mVar 9) aNil))) aNil))) aNil)))) aNil))) (zao (some (scr ns)) (some (.int m)) (some (.ref na)) (some (.tup (vsOf ns m))) (some (.ref sa)) z5 z6 z7 z8 (some last) (some (.int bu)) none none none none none none) s7=.ok (.nx (zao (some (scr ns)) (some (.int m)) (some (.ref na)) (some (.tup (vsOf ns m))) (some (.ref sa)) z5 z6 z7 z8 (some last) (some (.int bu)) (some prog) none none none none none)) (s8++[.lst ((nms ns m).map PV.str)]):=by
  subst hpr
  have p8':m__law_name [scr ns,.int 24] s7=.ok (.str (nm ns 24)) s8:=p8
  have t1:=zaq s8 (.lst ((nms ns m).map PV.str))
  have t2:(s8++[SO.lst ((nms ns m).map PV.str)])[sa]?=some (.lst ss):=(Pre.of _ _).get h8s
  generalize (nms ns (m+n)).map PV.str=l1 at h8 ct
  generalize (nms ns m).map PV.str=l2 at ct t1 t2
  simp [p8',zn h8,ct,oTuple,zn t1,zn t2]
 have h9:(s8++[SO.lst ((nms ns m).map PV.str)])[na]?=some (.lst ((nms ns (m+n)).map PV.str)):=(Pre.of _ _).get h8
 have h9s:(s8++[SO.lst ((nms ns m).map PV.str)])[sa]?=some (.lst ss):=(Pre.of _ _).get h8s
 generalize s8++[SO.lst ((nms ns m).map PV.str)]=s9 at E8 h9 h9s
 have ha:(s9++[SO.dic [] []])[na]?=some (.lst ((nms ns (m+n)).map PV.str)):=(Pre.of _ _).get h9
 have has:(s9++[SO.dic [] []])[sa]?=some (.lst ss):=(Pre.of _ _).get h9s
 have hat:=zaq s9 (.dic [] [])
 have Ea:(sSet 12 mDNew) (zao (some (scr ns)) (some (.int m)) (some (.ref na)) (some (.tup (vsOf ns m))) (some (.ref sa)) z5 z6 z7 z8 (some last) (some (.int bu)) (some prog) none none none none none) s9=.ok (.nx (zao (some (scr ns)) (some (.int m)) (some (.ref na)) (some (.tup (vsOf ns m))) (some (.ref sa)) z5 z6 z7 z8 (some last) (some (.int bu)) (some prog) (some (.ref s9.length)) none none none none)) (s9++[.dic [] []]):=rfl
 generalize s9++[SO.dic [] []]=sa' at Ea ha has hat
 generalize s9.length=th at Ea hat
 obtain ⟨xd,xe,sb,Eb,hbt,hbs⟩:=zkT (x1:=some (.int m)) (x4:=some (.ref sa)) (x5:=z5) (x6:=z6) (x7:=z7) (x8:=z8) (x9:=some last) (xa:=some (.int bu)) (xb:=some prog) (m:=m) (vs:=vsOf ns m) (by omega) (by omega) (by simp) ha hat has
 obtain ⟨w,v,t,sh,htl,D,R⟩:=zmS (vs:=vsOf ns m) (nm ns 24) A6 hP (zgl ns m (by omega)) (by simp) (fun v hv=>by
  obtain ⟨k,_,rfl⟩:=List.mem_map.mp hv
  exact zmT _) (by simp;omega) bu sa th
 obtain ⟨sc,Dc⟩:=D sb hbs hbt
 have G:=zkU sh t bu (by omega) hbu
 rw [hpr] at R
 generalize res w v t bu=RR at Dc R G
 obtain ⟨xs,rfl⟩:=G.tup
 obtain ⟨sd,Rd⟩:=R sc
 obtain ⟨de,Pe⟩:=G.pl sd
 obtain ⟨sf,Rf⟩:=R (sd++de)
 refine ⟨sf,?_⟩
 show (zmH (zao (some (scr ns)) none none none none none none none none none none none none none none none none) []).bind endOf=_
 simp only [zmH,zG]
 rw [E1]
 simp only [zk,zy,zhl,zG]
 rw [E2]
 simp only [zk,zy,zhk,zG]
 rw [E3]
 simp only [zk,zy,zhj,zG]
 rw [E4]
 simp only [zk,zy,zhi,zG]
 unfold bdL at E5
 rw [E5]
 simp only [zk,zy,zhh,zG]
 rw [E6]
 simp only [zk,zy]
 unfold zhg zhf
 rw [E7]
 simp only [zhe,zG]
 rw [E8]
 simp only [zk,zy,zhd,zG]
 rw [Ea]
 simp only [zk,zy,zgc,zG]
 unfold bdT at Eb
 rw [Eb]
 simp only [zk,zy,zgb,zG,zbH,zbn,zaM,zco,zcp,List.getElem?_cons_succ,List.getElem?_cons_zero]
 rw [Dc]
 simp only [zk,zy,zga,zG,zbH,zbn,zaM,zco,zcp,List.set_cons_succ,List.set_cons_zero,List.getElem?_cons_succ,List.getElem?_cons_zero]
 rw [Rd]
 have i1:oIsi isT [.tup xs,.ty "tuple"] sd=.ok (.bl true) sd:=rfl
 have ee:=G.eq
 simp only [zk,zy,zf9,zG,List.set_cons_succ,List.set_cons_zero]
 have E13:∀x15,(sIf (bOr (bNot (mB (mCall (oIsi isT) (aCons (mVar 16) (aCons (mC (.ty "tuple")) aNil))))) (bNot (mB (mCall (zt 64) (aCons (mVar 16) aNil)))))
  (sRet (mC (.bl false)))
  sNext) (zao (some (scr ns)) (some (.int m)) (some (.ref na)) (some (.tup (vsOf ns m))) (some (.ref sa)) z5 z6 z7 z8 (some last) (some (.int bu)) (some prog) (some (.ref th)) xd xe x15 (some (.tup xs))) sd=.ok (.nx (zao (some (scr ns)) (some (.int m)) (some (.ref na)) (some (.tup (vsOf ns m))) (some (.ref sa)) z5 z6 z7 z8 (some last) (some (.int bu)) (some prog) (some (.ref th)) xd xe x15 (some (.tup xs)))) (sd++de):=fun x15=>by
  generalize sd++de=s10 at Pe
  generalize vsOf ns m=vv
  simp [i1,Pe]
 rw [E13]
 simp only [zk,zy,zf8,zg5,znV,ziW,zco,zbn,zaM,zcp,List.getElem?_cons_succ,List.getElem?_cons_zero]
 rw [ee]
 simp only [zk]
 rw [show asB (.bl true) (sd++de)=.ok true (sd++de) from rfl]
 simp only [zk,if_true]
 rw [Rf]
 simp only [zk]
 rw [ee]
 rfl
end FK31
open PySem PySem.W PyProof.Rows
set_option maxHeartbeats 0
namespace PySem.W.Fast
def tw5422459024162873376:=()
def tw13989401218958379136:=()
def tw4543357335744763008:=()
def tw3763064767782465696:=()
def tw1937588757997542592:=()
def tw6090367890817826016:=()
def tw11145361131737779456:=()
def tw11580330514469120320:=()
def tw3979812842892386656:=()
def tw18343924297542965632:=()
def tw7156950394831539616:=()
def tw1031957679374639520:=()
def tw7449875054043605440:=()
def tw12893780005389805120:=()
def tw10274909012663377600:=()
def tw1844370016969825984:=()
def tw4903613260370815680:=()
def tw5165233262021056224:=()
def tw17030034787315318528:=()
def tw8453278198843344704:=()
def tw11425114182643207008:=()
def tw15443810872348336225:=()
def tw2059070008920900737:=()
def tw7148934985206993025:=()
def tw6101320959039674657:=()
def tw9607830111404102977:=()
def tw7450078728642109825:=()
def tw5363099244638618081:=()
def tw15009497898603434561:=()
def tw8230444157320288929:=()
def tw14594129718489937665:=()
def tw6374413764064010017:=()
def tw13131462262126634785:=()
def tw74663948371277633:=()
def tw10099695638841385889:=()
def tw10768446424828314561:=()
def tw5885766200903748545:=()
def tw14224772883799350241:=()
def tw16886350617538965506:=()
def tw3163217807179857922:=()
def tw3755915419497628706:=()
def tw13681770660591258658:=()
def tw4155370403949194338:=()
def tw5017884899072020610:=()
def tw14664442570611243266:=()
def tw8083475292667102626:=()
def tw17609847453510679042:=()
def tw7891871970215977698:=()
def tw5920597244747024162:=()
def tw9449106256036401986:=()
def tw8281039398285180770:=()
def tw1857879809359058850:=()
def tw8419007868389760003:=()
def tw4061441218518354979:=()
def tw14139053673683135555:=()
def tw8464935863556324451:=()
def tw8835452333821780259:=()
def tw11833997865787860387:=()
def tw5432874834905171395:=()
def tw15308806405571087811:=()
def tw3750028083350574531:=()
def tw12723709163734258179:=()
def tw3794317355570679459:=()
def tw11830476356166562531:=()
def tw10301200563340957411:=()
def tw9274933556345298723:=()
def tw9770887571987260259:=()
def tw11640217937080530819:=()
def tw11865053331515865987:=()
def tw7009740581462092868:=()
def tw890660297901460548:=()
def tw18188969029471768740:=()
def tw1944263907650676004:=()
def tw15651031862379361636:=()
def tw1432058875082836356:=()
def tw16460977569284743556:=()
def tw3278562246784279044:=()
def tw4586710439035791876:=()
def tw12278179424242486916:=()
def tw13711312134945991332:=()
def tw68637367299847876:=()
def tw9037024423309567684:=()
def tw2473860055375291140:=()
def tw10416862441068760165:=()
def tw2964491474191921285:=()
def tw12170436461423303845:=()
def tw1711716937562295493:=()
def tw9749006905721904325:=()
def tw7144444703867144485:=()
def tw9306920259015581061:=()
def tw3542173008339136933:=()
def tw5029665332173436357:=()
def tw10940319405948478949:=()
def tw7072719223745375717:=()
def tw7957985699441254085:=()
def tw7983007090494275301:=()
def tw588394099400301445:=()
def tw13050159067113572293:=()
def tw17061141170447380518:=()
def tw1896567366858444966:=()
def tw5218377233734759750:=()
def tw14816297726982580582:=()
def tw2223482398833415558:=()
def tw6862730295532410278:=()
def tw1589775094827678118:=()
def tw4945455619775401414:=()
def tw10755459767760302534:=()
def tw6476914457254133222:=()
def tw17030731380369037830:=()
def tw9890745274697342470:=()
def tw793386678933960262:=()
def tw13520642288541536966:=()
def tw11047492762340823750:=()
def tw17355523458351426278:=()
def tw4010461026702366566:=()
def tw5755440277297719174:=()
def tw13954613356136847302:=()
def tw2486203689027660871:=()
def tw14218720794276908135:=()
def tw13727373838625742983:=()
def tw9843540083314274471:=()
def tw12244908846169985351:=()
def tw15630647406278756711:=()
def tw14331986546932970855:=()
def tw8631119922075221703:=()
def tw16243691220564914023:=()
def tw17523357860535001959:=()
def tw8624196930197389159:=()
def tw8623702553552382919:=()
def tw18396002191304646664:=()
def tw12824225608724752424:=()
def tw16217775412105195560:=()
def tw558746005296412744:=()
def tw1132752003266019432:=()
def tw2810259913452938344:=()
def tw7148842861097315432:=()
def tw13166208584252299432:=()
def tw8495702330051731656:=()
def tw17745157685613742280:=()
def tw13997651772945361224:=()
def tw5419097350403292488:=()
def tw2497158778231768424:=()
def tw2625461754278809032:=()
def tw12419193261846059464:=()
def tw10958325981212500424:=()
def tw15858704347928230504:=()
def tw13435102599857380008:=()
def tw17636100177212503752:=()
def tw15472620754435922696:=()
def tw2791057311062819624:=()
def tw16885267941978153768:=()
def tw12077907180048599944:=()
def tw14645263427044794248:=()
def tw4936086006854156168:=()
def tw796050816773925864:=()
def tw12874141840109704233:=()
def tw4573085165934192841:=()
def tw11337939571669174537:=()
def tw11425248627073359113:=()
def tw12492198019759442377:=()
def tw1974420287372357129:=()
def tw6275630068390996585:=()
def tw1053313995919358601:=()
def tw4325926841318596265:=()
def tw4007469846208657097:=()
def tw11338288334836614889:=()
def tw5457915222827854633:=()
def tw4036461531281375081:=()
def tw15063816746116984713:=()
def tw10511018123266534345:=()
def tw4100007938799771754:=()
def tw9910475135884381290:=()
def tw11912099469482512586:=()
def tw16982734899456252298:=()
def tw76059420408778186:=()
def tw2618685949271333354:=()
def tw4478654787941486154:=()
def tw14085569025281659562:=()
def tw104235418117889834:=()
def tw9733568294967660362:=()
def tw9304971058105865034:=()
def tw6948523838610923338:=()
def tw4232153050971412330:=()
def tw14344803227425698762:=()
def tw3280069390304979946:=()
def tw11854672462478225419:=()
def tw14756705942111597675:=()
def tw7579007895083926635:=()
def tw9485320362202397867:=()
def tw3105332416013755723:=()
def tw4039190097506466283:=()
def tw10889120481242820107:=()
def tw2097295425164946955:=()
def tw11392721782429675115:=()
def tw8624416791417946795:=()
def tw17879386449209134923:=()
def tw14479423038600503115:=()
def tw4090976627024491339:=()
def tw16425426045135424363:=()
def tw11691979381953291147:=()
def tw1632981890173992875:=()
def tw12662572187164664811:=()
def tw7974699964164385900:=()
def tw440782769964673260:=()
def tw16471387159689902444:=()
def tw2685113377615147372:=()
def tw8476693816856260044:=()
def tw8363115841319806668:=()
def tw3164860371053973356:=()
def tw4226848260258358124:=()
def tw5391572554334823308:=()
def tw12206921882397058988:=()
def tw11041927614218069037:=()
def tw10671786478918687917:=()
def tw7468514028552095949:=()
def tw3042307057773919469:=()
def tw2370766593442583821:=()
def tw16797315380603002157:=()
def tw13379470960043698477:=()
def tw15207807936149387565:=()
def tw7229622334968471949:=()
def tw4063573881387404685:=()
def tw7326280575537574285:=()
def tw16461020862680864173:=()
def tw14747563710385062381:=()
def tw14147686684331691533:=()
def tw10359059405588292173:=()
def tw4352668670278431373:=()
def tw15745447435639870349:=()
def tw1612442727989361613:=()
def tw15494438674416117774:=()
def tw13904406376262274190:=()
def tw2918202248286901454:=()
def tw15233841040833794350:=()
def tw1892371037509165422:=()
def tw17174843663265229166:=()
def tw2022711126442162606:=()
def tw6555143838719401422:=()
def tw4367557229581232622:=()
def tw664244091082734062:=()
def tw4162726254090068622:=()
def tw7736739695222416078:=()
def tw98068145813812014:=()
def tw10507443364458133294:=()
def tw9085145740428716910:=()
def tw1312446085913801646:=()
def tw8189578056743136238:=()
def tw17900084902259600399:=()
def tw3505861326113034351:=()
def tw3098963735914918031:=()
def tw13937647197628463343:=()
def tw15078775193499501839:=()
def tw12644464911596689743:=()
def tw4144826722658133327:=()
def tw17689317819290036623:=()
def tw8786036253874965903:=()
def tw12804198508965487023:=()
def tw14645385915613015631:=()
def tw6490091699469319951:=()
def tw10542286040425421647:=()
def tw8194776649183911759:=()
def tw3089962467943793519:=()
def tw9491931449441620879:=()
def tw1577010847474450319:=()
def tw9072106039034801168:=()
def tw18400874811627184240:=()
def tw3217158089760969968:=()
def tw10568925039722997136:=()
def tw1174662520086510992:=()
def tw1647475980172131728:=()
def tw6987496393814749648:=()
def tw9518707652791874032:=()
def tw13365648022291509744:=()
def tw9910060874654091792:=()
def tw6497083409103311440:=()
def tw14517492410455308912:=()
def tw14406561785035852464:=()
def tw12393423190094860080:=()
def tw5090833687433808752:=()
def tw1847674096497333104:=()
def tw14617196519517778832:=()
def tw17133233376583831472:=()
def tw8524310512081336240:=()
def tw4755322035185626064:=()
def tw466132905212005360:=()
def tw2332265283783468081:=()
def tw11212509683747803217:=()
def tw5775053703004775537:=()
def tw1586814386432065681:=()
def tw4079848406252760273:=()
def tw18236455360591461585:=()
def tw4522465980720557361:=()
def tw10365631065426583857:=()
def tw12345417779103459665:=()
def tw15181789389910223249:=()
def tw4682253471321590193:=()
def tw13005954146370661841:=()
def tw2729418844554048977:=()
def tw7843091463279191601:=()
def tw886830210233997937:=()
def tw3706857856364341905:=()
def tw5220255134087640721:=()
def tw14465915897235975889:=()
def tw15883186764753521585:=()
def tw6230876638106146769:=()
def tw725167644113893329:=()
def tw5864814469504020465:=()
def tw18072588307805510706:=()
def tw6994615742954226898:=()
def tw13373161644567389554:=()
def tw10938539020755662226:=()
def tw10067157658862946898:=()
def tw8434822123244954194:=()
def tw18024478144130456210:=()
def tw4062197796661472914:=()
def tw303780793035643634:=()
def tw15642950988206242610:=()
def tw11266317964694191954:=()
def tw8846255094883945394:=()
def tw14712850086400744402:=()
def tw13515416901310548978:=()
def tw6482193909863024755:=()
def tw16127422392203786355:=()
def tw15684019346836118803:=()
def tw11617310392261798163:=()
def tw18122738669389878579:=()
def tw16115928692095375923:=()
def tw17628367871454634643:=()
def tw9833806813208670003:=()
def tw1046776669731703635:=()
def tw1482537961589120947:=()
def tw14297555905818320851:=()
def tw6866134895078950899:=()
def tw14325237694715702356:=()
def tw16348357270970813556:=()
def tw1329825861112079508:=()
def tw4929179680990501076:=()
def tw17097221767594397236:=()
def tw15750936597440050772:=()
def tw638297923029529172:=()
def tw5595023905871058548:=()
def tw8126179348126028532:=()
def tw14087077044363196276:=()
def tw11434117604106772404:=()
def tw9538464219033761780:=()
def tw3168826794931204117:=()
def tw1984112895102349397:=()
def tw3119835848713025653:=()
def tw14844483314538570869:=()
def tw18117495511060846741:=()
def tw11586190912332078325:=()
def tw12197405437692645653:=()
def tw7359215475661287829:=()
def tw2192592922858377685:=()
def tw9885527301502707221:=()
def tw4155099513290616341:=()
def tw3842907970548989525:=()
def tw2139001761264422549:=()
def tw16844131366654406389:=()
def tw13196734951148413845:=()
def tw11845590207754610613:=()
def tw12003895659915944917:=()
def tw15498735793009607702:=()
def tw6002720326304715830:=()
def tw14583006319761018966:=()
def tw8323788935242343510:=()
def tw10379301036583039158:=()
def tw13729187797224944822:=()
def tw4126711968591976790:=()
def tw13353623244268563862:=()
def tw1188462880945110454:=()
def tw9822631622851560918:=()
def tw2253672120007611862:=()
def tw491917063019019766:=()
def tw15562923744641834518:=()
def tw17774530577512671830:=()
def tw17755900715435532950:=()
def tw1460922303519112854:=()
def tw2200864910392805142:=()
def tw6311198349885532982:=()
def tw12429786022357692246:=()
def tw7916025181599738774:=()
def tw7690263982000922518:=()
def tw18266746422620228566:=()
def tw13748577461770261591:=()
def tw16154182991341170775:=()
def tw6872063562458217751:=()
def tw7954014960889456919:=()
def tw5002000030608850199:=()
def tw3744700516938124599:=()
def tw14035094420071547223:=()
def tw3937786518955883927:=()
def tw18254063102935869911:=()
def tw17324846447732041207:=()
def tw9319984705923165719:=()
def tw16846627375198012055:=()
def tw340606899720885943:=()
def tw12934517471257370359:=()
def tw13813892191204711287:=()
def tw2310013915579584439:=()
def tw14832493129652476855:=()
def tw13589487388921946039:=()
def tw14966273054233675735:=()
def tw3462595488291191767:=()
def tw1175351250900008984:=()
def tw18393713428286595192:=()
def tw3012462994635878520:=()
def tw3200375104385201336:=()
def tw11882495857799807192:=()
def tw2319425830691086616:=()
def tw10766494856093624600:=()
def tw1260851757661849912:=()
def tw4220084461746356600:=()
def tw14122354408543093112:=()
def tw14116290809655240120:=()
def tw2281645744949877208:=()
def tw7782281806036060728:=()
def tw2169383868564578008:=()
def tw18222623540182797144:=()
def tw1411290552253026264:=()
def tw3511694617336004568:=()
def tw4534350275389467673:=()
def tw13157757656163652761:=()
def tw16608098765697861785:=()
def tw4811485881436149945:=()
def tw15928843872150331577:=()
def tw14798257242446306521:=()
def tw14195861143303166233:=()
def tw16810676349521182009:=()
def tw2648503310515553593:=()
def tw13284575536446135865:=()
def tw12502115837268226649:=()
def tw2366771041768892121:=()
def tw3841277518016346905:=()
def tw2708833814291623737:=()
def tw10336640447109019449:=()
def tw4528429290172839801:=()
def tw13464014425104947129:=()
def tw8308912113245058009:=()
def tw3439567745537036346:=()
def tw1450122753739707482:=()
def tw3774508814048831674:=()
def tw778255679271584954:=()
def tw7645405417117229306:=()
def tw8379108762608192826:=()
def tw13662782185602816346:=()
def tw4525992607811976570:=()
def tw12048911583005658490:=()
def tw815151707465999834:=()
def tw10240357735205696986:=()
def tw1649326413888131642:=()
def tw13666684493385676378:=()
def tw7210567731604423290:=()
def tw15440303728742991482:=()
def tw14524986872889366138:=()
def tw5374830236731897498:=()
def tw8141332160352876218:=()
def tw10872352773072155354:=()
def tw2451913211297765146:=()
def tw10197663757198585754:=()
def tw7750354549917964218:=()
def tw773304510420239354:=()
def tw1993860560073276443:=()
def tw17869942935493975131:=()
def tw8858116691924049019:=()
def tw1540761926435623131:=()
def tw18241824539721584923:=()
def tw2725870326581326171:=()
def tw10838779689171019163:=()
def tw16690752584973055483:=()
def tw3894448669117795867:=()
def tw15063964515158196827:=()
def tw12665394836699327099:=()
def tw4739033778963651227:=()
def tw3098147654240066235:=()
def tw11843757711878123227:=()
def tw1359769726700932859:=()
def tw17563380569588356859:=()
def tw11487866178655612795:=()
def tw14626913935583864731:=()
def tw11789503555512922011:=()
def tw15688247228519531451:=()
def tw8894553544174352379:=()
def tw6040837443394748444:=()
def tw5616628329872801852:=()
def tw5094233783756918876:=()
def tw8062602049690841180:=()
def tw10239629368724356220:=()
def tw7277628095361987772:=()
def tw3306597359199590812:=()
def tw12258269884315889052:=()
def tw14522752057006698076:=()
def tw6380909778941145692:=()
def tw18064529117680106076:=()
def tw6132727442864311932:=()
def tw9758594922861867644:=()
def tw14538685768688458428:=()
def tw14340997948366530332:=()
def tw14541979913516516156:=()
def tw5463811282917731132:=()
def tw4288888718723746652:=()
def tw1131936765491155868:=()
def tw17956224108379953052:=()
def tw2490890500789930972:=()
def tw2918804995271233500:=()
def tw7674836438987480028:=()
def tw3160122418672735293:=()
def tw4487500502896002109:=()
def tw12290435555538479229:=()
def tw5864434426585707677:=()
def tw7542596787205924029:=()
def tw17124305161995863261:=()
def tw1698996889396696349:=()
def tw14557500333765429597:=()
def tw14462824749356214621:=()
def tw18224084925095736669:=()
def tw1629932311045580157:=()
def tw16455056675564482973:=()
def tw18048046326338755005:=()
def tw8285750339144727005:=()
def tw3917619104225017341:=()
def tw2062032596816129533:=()
def tw11496577341053358717:=()
def tw5153202991106814653:=()
def tw11254945135472552669:=()
def tw14710433284802269:=()
def tw17583373998401766237:=()
def tw8414861320964003677:=()
def tw68523917658410973:=()
def tw11652563187888100349:=()
def tw894609685281855485:=()
def tw15877243629957314622:=()
def tw11264004120108430462:=()
def tw9480985089478716574:=()
def tw309492647624563902:=()
def tw9039671421636205790:=()
def tw2346339830717291902:=()
def tw1563881845005759006:=()
def tw2560073534162569822:=()
def tw17400771678382279294:=()
def tw9347195769723488926:=()
def tw2767642804699358910:=()
def tw8759758849535226718:=()
def tw13502058043044913086:=()
def tw4196626138541659102:=()
def tw49721690618537950:=()
def tw3103347526331971647:=()
def tw18137715408302642303:=()
def tw15654132365470475455:=()
def tw16918139668057049343:=()
def tw13181787721490038015:=()
def tw11004091521110442527:=()
def tw4635120314319742495:=()
def tw8215686023134954015:=()
def tw4199058660335682175:=()
def tw12769660984311136895:=()
def tw49001696787101311:=()
def tw13836647651325856511:=()
def tw5281405454208150303:=()
def tw10765222448683262847:=()
def tw10341904971170490239:=()
def tw1186917871935201183:=()
def tw5135373606591324127:=()
def tw6248501552575569953:=()
def tw8329901621352167316:=()
end PySem.W.Fast
open_top hdT for PySem.Challenge.rw_foreknown_k31_straight_lines
theorem PySem.Challenge.cw_foreknown_k31_straight_lines_holds : PySem.Challenge.rw_foreknown_k31_straight_lines.Holds :=
 hdT (by
 k_fill
 refine Mi.walkM (l:=PySem.Challenge.rw_foreknown_k31_straight_lines) (k:=69) (x := "_law_script") rfl rfl ⟨rfl,by decide,by decide⟩ (fun w h Y=>PySem.W.kIn_of Y) ?F
 case F =>
  intro w mg fa h KX G hmg
  have f__law_cell_at:Mi.FnF (L2.KOf KX) mg "_law_cell_at" FK31.zbT ["_law_script", "_law_k"]:=by
   dsimp only [L2.KOf]
   refine' Mi.zX KX G ?a ?l ?c ?k ?b
   case a|l|c|k=>k_is
   (case b=>exact fun _ _ _ _ _ _ us hl=>match us,hl with|[_,_],_=>rfl)
  have f__law_name:Mi.FnF (L2.KOf KX) mg "_law_name" FK31.zc4 ["_law_script", "_law_k"]:=by
   dsimp only [L2.KOf]
   refine' Mi.zX KX G ?a ?l ?c ?k ?b
   case a|l|c|k=>k_is
   (case b=>exact fun _ _ _ _ _ _ us hl=>match us,hl with|[_,_],_=>rfl)
  have f__law_value:Mi.FnF (L2.KOf KX) mg "_law_value" FK31.zbI ["_law_cell"]:=by
   dsimp only [L2.KOf]
   refine' Mi.zX KX G ?a ?l ?c ?k ?b
   case a|l|c|k=>k_is
   (case b=>exact fun _ _ _ _ _ _ us hl=>match us,hl with|[_],_=>rfl)
  have f__law_atom:Mi.FnF (L2.KOf KX) mg "_law_atom" FK31.zc5 ["_law_cell", "_law_names"]:=by
   dsimp only [L2.KOf]
   refine' Mi.zX KX G ?a ?l ?c ?k ?b
   case a|l|c|k=>k_is
   (case b=>exact fun _ _ _ _ _ _ us hl=>match us,hl with|[_,_],_=>rfl)
  have f__law_parts:Mi.FnF (L2.KOf KX) mg "_law_parts" FK31.zbJ ["_law_value_here"]:=by
   dsimp only [L2.KOf]
   refine' Mi.zX KX G ?a ?l ?c ?k ?b
   case a|l|c|k=>k_is
   (case b=>exact fun _ _ _ _ _ _ us hl=>match us,hl with|[_],_=>rfl)
  have f__law_told:Mi.FnF (L2.KOf KX) mg "_law_told" FK31.zc6 ["_law_op", "_law_one", "_law_other"]:=by
   dsimp only [L2.KOf]
   refine' Mi.zX KX G ?a ?l ?c ?k ?b
   case a|l|c|k=>k_is
   (case b=>exact fun _ _ _ _ _ _ us hl=>match us,hl with|[_,_,_],_=>rfl)
  have f__law_due:Mi.FnF (L2.KOf KX) mg "_law_due" FK31.zcS ["_law_steps", "_law_last", "_law_things", "_law_budget"]:=by
   dsimp only [L2.KOf]
   refine' Mi.zX KX G ?a ?l ?c ?k ?b
   case a|l|c|k=>k_is
   (case b=>exact fun _ _ _ _ _ _ us hl=>match us,hl with|[_,_,_,_],_=>rfl)
  have f_functions_by_name:Mi.FnF (L2.KOf KX) mg "functions_by_name" FK31.zax ["program"]:=by
   dsimp only [L2.KOf]
   refine' Mi.zX KX G ?a ?l ?c ?k ?b
   case a|l|c|k=>k_is
   (case b=>exact fun _ _ _ _ _ _ us hl=>match us,hl with|[_],_=>rfl)
  have n_Frame:Mi.NwF (L2.KOf KX) mg "Frame" "Frame.__init__" FK31.za5 ["self", "function", "values"]:=by
   dsimp only [L2.KOf]
   refine' Mi.ziY KX G ?aC ?mk ?kc ?a ?i ?l ?c ?k ?b
   case aC|mk|kc|a|i|l|c|k=>k_is
   (case b=>exact fun _ _ _ _ _ _ us hl=>match us,hl with|[_,_,_],_=>rfl)
  have n_Runner:Mi.NwF (L2.KOf KX) mg "Runner" "Runner.__init__" FK31.zaN ["self", "program", "inputs"]:=by
   dsimp only [L2.KOf]
   refine' Mi.ziY KX G ?aC ?mk ?kc ?a ?i ?l ?c ?k ?b
   case aC|mk|kc|a|i|l|c|k=>k_is
   (case b=>exact fun _ _ _ _ _ _ us hl=>match us,hl with|[_,_,_],_=>rfl)
  have m_Frame_line_here:Mi.MtF (L2.KOf KX) mg "Frame" "line_here" "Frame.line_here" FK31.zaO ["self"]:=by
   dsimp only [L2.KOf]
   refine' Mi.zcW KX G ?aC ?pg ?hd ?po ?sa ?a ?i ?l ?c ?k ?b
   case aC|pg|hd|po|sa|a|i|l|c|k=>k_is
   (case b=>exact fun _ _ _ _ _ _ us hl=>match us,hl with|[_],_=>rfl)
  have m_Frame_end_step:Mi.MtF (L2.KOf KX) mg "Frame" "end_step" "Frame.end_step" FK31.za6 ["self", "value"]:=by
   dsimp only [L2.KOf]
   refine' Mi.zcW KX G ?aC ?pg ?hd ?po ?sa ?a ?i ?l ?c ?k ?b
   case aC|pg|hd|po|sa|a|i|l|c|k=>k_is
   (case b=>exact fun _ _ _ _ _ _ us hl=>match us,hl with|[_,_],_=>rfl)
  have f_kind_of:Mi.FnF (L2.KOf KX) mg "kind_of" FK31.zeD ["value"]:=by
   dsimp only [L2.KOf]
   refine' Mi.zX KX G ?a ?l ?c ?k ?b
   case a|l|c|k=>k_is
   (case b=>exact fun _ _ _ _ _ _ us hl=>match us,hl with|[_],_=>rfl)
  have f_check_kinds:Mi.FnF (L2.KOf KX) mg "check_kinds" FK31.zcg ["kinds", "values"]:=by
   dsimp only [L2.KOf]
   refine' Mi.zX KX G ?a ?l ?c ?k ?b
   case a|l|c|k=>k_is
   (case b=>exact fun _ _ _ _ _ _ us hl=>match us,hl with|[_,_],_=>rfl)
  have f_in_bounds:Mi.FnF (L2.KOf KX) mg "in_bounds" FK31.zc7 ["number"]:=by
   dsimp only [L2.KOf]
   refine' Mi.zX KX G ?a ?l ?c ?k ?b
   case a|l|c|k=>k_is
   (case b=>exact fun _ _ _ _ _ _ us hl=>match us,hl with|[_],_=>rfl)
  have f_within_bounds:Mi.FnF (L2.KOf KX) mg "within_bounds" FK31.zbp ["number"]:=by
   dsimp only [L2.KOf]
   refine' Mi.zX KX G ?a ?l ?c ?k ?b
   case a|l|c|k=>k_is
   (case b=>exact fun _ _ _ _ _ _ us hl=>match us,hl with|[_],_=>rfl)
  have f_tell_add:Mi.FnF (L2.KOf KX) mg "tell_add" FK31.zdR ["values"]:=by
   dsimp only [L2.KOf]
   refine' Mi.zX KX G ?a ?l ?c ?k ?b
   case a|l|c|k=>k_is
   (case b=>exact fun _ _ _ _ _ _ us hl=>match us,hl with|[_],_=>rfl)
  have f_tell_sub:Mi.FnF (L2.KOf KX) mg "tell_sub" FK31.zdS ["values"]:=by
   dsimp only [L2.KOf]
   refine' Mi.zX KX G ?a ?l ?c ?k ?b
   case a|l|c|k=>k_is
   (case b=>exact fun _ _ _ _ _ _ us hl=>match us,hl with|[_],_=>rfl)
  have f_tell_mul:Mi.FnF (L2.KOf KX) mg "tell_mul" FK31.zdT ["values"]:=by
   dsimp only [L2.KOf]
   refine' Mi.zX KX G ?a ?l ?c ?k ?b
   case a|l|c|k=>k_is
   (case b=>exact fun _ _ _ _ _ _ us hl=>match us,hl with|[_],_=>rfl)
  have f_number_of:Mi.FnF (L2.KOf KX) mg "number_of" FK31.zc8 ["truth"]:=by
   dsimp only [L2.KOf]
   refine' Mi.zX KX G ?a ?l ?c ?k ?b
   case a|l|c|k=>k_is
   (case b=>exact fun _ _ _ _ _ _ us hl=>match us,hl with|[_],_=>rfl)
  have f_tell_less:Mi.FnF (L2.KOf KX) mg "tell_less" FK31.zc9 ["values"]:=by
   dsimp only [L2.KOf]
   refine' Mi.zX KX G ?a ?l ?c ?k ?b
   case a|l|c|k=>k_is
   (case b=>exact fun _ _ _ _ _ _ us hl=>match us,hl with|[_],_=>rfl)
  have f_tell_same:Mi.FnF (L2.KOf KX) mg "tell_same" FK31.zda ["values"]:=by
   dsimp only [L2.KOf]
   refine' Mi.zX KX G ?a ?l ?c ?k ?b
   case a|l|c|k=>k_is
   (case b=>exact fun _ _ _ _ _ _ us hl=>match us,hl with|[_],_=>rfl)
  have f_tell_front:Mi.FnF (L2.KOf KX) mg "tell_front" FK31.zcA ["values"]:=by
   dsimp only [L2.KOf]
   refine' Mi.zX KX G ?a ?l ?c ?k ?b
   case a|l|c|k=>k_is
   (case b=>exact fun _ _ _ _ _ _ us hl=>match us,hl with|[_],_=>rfl)
  have f_things_within:Mi.FnF (L2.KOf KX) mg "things_within" FK31.zbq ["thing"]:=by
   dsimp only [L2.KOf]
   refine' Mi.zX KX G ?a ?l ?c ?k ?b
   case a|l|c|k=>k_is
   (case b=>exact fun _ _ _ _ _ _ us hl=>match us,hl with|[_],_=>rfl)
  have f_all_within:Mi.FnF (L2.KOf KX) mg "all_within" FK31.zcB ["thing"]:=by
   dsimp only [L2.KOf]
   refine' Mi.zX KX G ?a ?l ?c ?k ?b
   case a|l|c|k=>k_is
   (case b=>exact fun _ _ _ _ _ _ us hl=>match us,hl with|[_],_=>rfl)
  have f_parts:Mi.FnF (L2.KOf KX) mg "parts" FK31.zgA ["value"]:=by
   dsimp only [L2.KOf]
   refine' Mi.zX KX G ?a ?l ?c ?k ?b
   case a|l|c|k=>k_is
   (case b=>exact fun _ _ _ _ _ _ us hl=>match us,hl with|[_],_=>rfl)
  have m_Op_answer:Mi.MtF (L2.KOf KX) mg "Op" "answer" "Op.answer" FK31.zdb ["self", "values"]:=by
   dsimp only [L2.KOf]
   refine' Mi.zcW KX G ?aC ?pg ?hd ?po ?sa ?a ?i ?l ?c ?k ?b
   case aC|pg|hd|po|sa|a|i|l|c|k=>k_is
   (case b=>exact fun _ _ _ _ _ _ us hl=>match us,hl with|[_,_],_=>rfl)
  have n_Op:Mi.NwF (L2.KOf KX) mg "Op" "Op.__init__" FK31.zch ["self", "word"]:=by
   dsimp only [L2.KOf]
   refine' Mi.ziY KX G ?aC ?mk ?kc ?a ?i ?l ?c ?k ?b
   case aC|mk|kc|a|i|l|c|k=>k_is
   (case b=>exact fun _ _ _ _ _ _ us hl=>match us,hl with|[_,_],_=>rfl)
  have f_op_of:Mi.FnF (L2.KOf KX) mg "op_of" FK31.zgB ["word"]:=by
   dsimp only [L2.KOf]
   refine' Mi.zX KX G ?a ?l ?c ?k ?b
   case a|l|c|k=>k_is
   (case b=>exact fun _ _ _ _ _ _ us hl=>match us,hl with|[_],_=>rfl)
  have m_Frame_value_of:Mi.MtF (L2.KOf KX) mg "Frame" "value_of" "Frame.value_of" FK31.za7 ["self", "atom"]:=by
   dsimp only [L2.KOf]
   refine' Mi.zcW KX G ?aC ?pg ?hd ?po ?sa ?a ?i ?l ?c ?k ?b
   case aC|pg|hd|po|sa|a|i|l|c|k=>k_is
   (case b=>exact fun _ _ _ _ _ _ us hl=>match us,hl with|[_,_],_=>rfl)
  have m_Frame_values_by:Mi.MtF (L2.KOf KX) mg "Frame" "values_by" "Frame.values_by" FK31.zal ["self", "atoms"]:=by
   dsimp only [L2.KOf]
   refine' Mi.zcW KX G ?aC ?pg ?hd ?po ?sa ?a ?i ?l ?c ?k ?b
   case aC|pg|hd|po|sa|a|i|l|c|k=>k_is
   (case b=>exact fun _ _ _ _ _ _ us hl=>match us,hl with|[_,_],_=>rfl)
  have m_Runner_begin:Mi.MtF (L2.KOf KX) mg "Runner" "begin" "Runner.begin" FK31.zbU ["self", "name", "values"]:=by
   dsimp only [L2.KOf]
   refine' Mi.zcW KX G ?aC ?pg ?hd ?po ?sa ?a ?i ?l ?c ?k ?b
   case aC|pg|hd|po|sa|a|i|l|c|k=>k_is
   (case b=>exact fun _ _ _ _ _ _ us hl=>match us,hl with|[_,_,_],_=>rfl)
  have m_Runner_at_rest:Mi.MtF (L2.KOf KX) mg "Runner" "at_rest" "Runner.at_rest" FK31.za8 ["self"]:=by
   dsimp only [L2.KOf]
   refine' Mi.zcW KX G ?aC ?pg ?hd ?po ?sa ?a ?i ?l ?c ?k ?b
   case aC|pg|hd|po|sa|a|i|l|c|k=>k_is
   (case b=>exact fun _ _ _ _ _ _ us hl=>match us,hl with|[_],_=>rfl)
  have m_Runner_give_back:Mi.MtF (L2.KOf KX) mg "Runner" "give_back" "Runner.give_back" FK31.zaF ["self", "value"]:=by
   dsimp only [L2.KOf]
   refine' Mi.zcW KX G ?aC ?pg ?hd ?po ?sa ?a ?i ?l ?c ?k ?b
   case aC|pg|hd|po|sa|a|i|l|c|k=>k_is
   (case b=>exact fun _ _ _ _ _ _ us hl=>match us,hl with|[_,_],_=>rfl)
  have m_Frame_enter:Mi.MtF (L2.KOf KX) mg "Frame" "enter" "Frame.enter" FK31.zci ["self", "block"]:=by
   dsimp only [L2.KOf]
   refine' Mi.zcW KX G ?aC ?pg ?hd ?po ?sa ?a ?i ?l ?c ?k ?b
   case aC|pg|hd|po|sa|a|i|l|c|k=>k_is
   (case b=>exact fun _ _ _ _ _ _ us hl=>match us,hl with|[_,_],_=>rfl)
  have f_chooses_first:Mi.FnF (L2.KOf KX) mg "chooses_first" FK31.zbr ["value"]:=by
   dsimp only [L2.KOf]
   refine' Mi.zX KX G ?a ?l ?c ?k ?b
   case a|l|c|k=>k_is
   (case b=>exact fun _ _ _ _ _ _ us hl=>match us,hl with|[_],_=>rfl)
  have m_Runner_go_line:Mi.MtF (L2.KOf KX) mg "Runner" "go_line" "Runner.go_line" FK31.za9 ["self"]:=by
   dsimp only [L2.KOf]
   refine' Mi.zcW KX G ?aC ?pg ?hd ?po ?sa ?a ?i ?l ?c ?k ?b
   case aC|pg|hd|po|sa|a|i|l|c|k=>k_is
   (case b=>exact fun _ _ _ _ _ _ us hl=>match us,hl with|[_],_=>rfl)
  have f_run:Mi.FnF (L2.KOf KX) mg "run" FK31.zmG ["program", "inputs", "budget"]:=by
   dsimp only [L2.KOf]
   refine' Mi.zX KX G ?a ?l ?c ?k ?b
   case a|l|c|k=>k_is
   (case b=>exact fun _ _ _ _ _ _ us hl=>match us,hl with|[_,_,_],_=>rfl)
  have f__law_plain:Mi.FnF (L2.KOf KX) mg "_law_plain" FK31.zbK ["_law_value_here"]:=by
   dsimp only [L2.KOf]
   refine' Mi.zX KX G ?a ?l ?c ?k ?b
   case a|l|c|k=>k_is
   (case b=>exact fun _ _ _ _ _ _ us hl=>match us,hl with|[_],_=>rfl)
  have f_law:Mi.FnF (L2.KOf KX) mg "law" FK31.zhU ["_law_script"]:=by
   dsimp only [L2.KOf]
   refine' Mi.zX KX G ?a ?l ?c ?k ?b
   case a|l|c|k=>k_is
   (case b=>exact fun _ _ _ _ _ _ us hl=>match us,hl with|[_],_=>rfl)
  have x_Fault:Mi.XnF (L2.KOf KX) mg "Fault" "word" "Fault.__init__" FK31.s_x_Fault:=by
   dsimp only [L2.KOf]
   refine' Mi.zlb KX G ?aC ?hC ?hB ?hN ?he ?hi ?fn ?kp ?sa ?hcl ?hl ?no ?hd ?l ?c ?k ?b
   case aC|hC=>k_is
   (case hB=>k_exc)
   (case hN=>k_is)
   (case he=>first|rfl|with_unfolding_all rfl|simp)
   (case hi=>k_is)
   (case fn=>k_is)
   (case kp=>k_is)
   (case sa=>k_is)
   (case hcl=>k_is)
   (case hl=>rfl)
   (case no=>k_is)
   (case hd=>k_is)
   (case l=>k_is)
   (case c=>k_is)
   (case k=>k_is)
   (case b=>exact fun _ _ _ _ _ _ us hl=>match us,hl with|[_,_],_=>rfl)
  have x_NoOp:Mi.XnF (L2.KOf KX) mg "NoOp" "word" "NoOp.__init__" FK31.s_x_NoOp:=by
   dsimp only [L2.KOf]
   refine' Mi.zlb KX G ?aC ?hC ?hB ?hN ?he ?hi ?fn ?kp ?sa ?hcl ?hl ?no ?hd ?l ?c ?k ?b
   case aC|hC=>k_is
   (case hB=>k_exc)
   (case hN=>k_is)
   (case he=>first|rfl|with_unfolding_all rfl|simp)
   (case hi=>k_is)
   (case fn=>k_is)
   (case kp=>k_is)
   (case sa=>k_is)
   (case hcl=>k_is)
   (case hl=>rfl)
   (case no=>k_is)
   (case hd=>k_is)
   (case l=>k_is)
   (case c=>k_is)
   (case k=>k_is)
   (case b=>exact fun _ _ _ _ _ _ us hl=>match us,hl with|[_,_],_=>rfl)
  have b_abs:mg "abs" = none:=by
   refine' Mi.zgw KX G ?a
   (case a=>k_is)
  have b_all:mg "all" = none:=by
   refine' Mi.zgw KX G ?a
   (case a=>k_is)
  have b_bool:mg "bool" = none:=by
   refine' Mi.zgw KX G ?a
   (case a=>k_is)
  have b_dict:mg "dict" = none:=by
   refine' Mi.zgw KX G ?a
   (case a=>k_is)
  have b_enumerate:mg "enumerate" = none:=by
   refine' Mi.zgw KX G ?a
   (case a=>k_is)
  have b_int:mg "int" = none:=by
   refine' Mi.zgw KX G ?a
   (case a=>k_is)
  have b_isinstance:mg "isinstance" = none:=by
   refine' Mi.zgw KX G ?a
   (case a=>k_is)
  have b_len:mg "len" = none:=by
   refine' Mi.zgw KX G ?a
   (case a=>k_is)
  have b_list:mg "list" = none:=by
   refine' Mi.zgw KX G ?a
   (case a=>k_is)
  have b_min:mg "min" = none:=by
   refine' Mi.zgw KX G ?a
   (case a=>k_is)
  have b_range:mg "range" = none:=by
   refine' Mi.zgw KX G ?a
   (case a=>k_is)
  have b_str:mg "str" = none:=by
   refine' Mi.zgw KX G ?a
   (case a=>k_is)
  have b_sum:mg "sum" = none:=by
   refine' Mi.zgw KX G ?a
   (case a=>k_is)
  have b_tuple:mg "tuple" = none:=by
   refine' Mi.zgw KX G ?a
   (case a=>k_is)
  have b_zip:mg "zip" = none:=by
   refine' Mi.zgw KX G ?a
   (case a=>k_is)
  have c_MOST_PARTS:∃t,mg "MOST_PARTS" = some (.int 60 t):=by
   refine' Mi.zn5 KX G ?a
   (case a=>k_is)
  have c_NUMBER_BOUND:∃t,mg "NUMBER_BOUND" = some (.int 1000000000000000000 t):=by
   refine' Mi.zn5 KX G ?a
   (case a=>k_is)
  have d_block:Mi.FldF (L2.KOf KX) mg "block" FK31.insOf FK31.excOf:=by
   refine ⟨fun c hc=>?_,fun c hc=>?_⟩
   ·simp [FK31.insOf,or_assoc] at hc
    rcases hc with rfl|rfl|rfl
    ·dsimp only [L2.KOf]
     refine' Mi.zO KX G ?aC ?pg ?hd ?po ?sa ?na
     case aC|pg|hd|po|sa|na=>k_is
    ·dsimp only [L2.KOf]
     refine' Mi.zO KX G ?aC ?pg ?hd ?po ?sa ?na
     case aC|pg|hd|po|sa|na=>k_is
    ·dsimp only [L2.KOf]
     refine' Mi.zO KX G ?aC ?pg ?hd ?po ?sa ?na
     case aC|pg|hd|po|sa|na=>k_is
   ·simp [FK31.excOf,or_assoc] at hc
    rcases hc with rfl|rfl
    ·dsimp only [L2.KOf]
     refine' Mi.zap KX G ?aC ?ga ?hk ?hB ?hd ?no
     case aC|ga|hk|hB|hd|no=>k_is
    ·dsimp only [L2.KOf]
     refine' Mi.zap KX G ?aC ?ga ?hk ?hB ?hd ?no
     case aC|ga|hk|hB|hd|no=>k_is
  have d_bound:Mi.FldF (L2.KOf KX) mg "bound" FK31.insOf FK31.excOf:=by
   refine ⟨fun c hc=>?_,fun c hc=>?_⟩
   ·simp [FK31.insOf,or_assoc] at hc
    rcases hc with rfl|rfl|rfl
    ·dsimp only [L2.KOf]
     refine' Mi.zO KX G ?aC ?pg ?hd ?po ?sa ?na
     case aC|pg|hd|po|sa|na=>k_is
    ·dsimp only [L2.KOf]
     refine' Mi.zO KX G ?aC ?pg ?hd ?po ?sa ?na
     case aC|pg|hd|po|sa|na=>k_is
    ·dsimp only [L2.KOf]
     refine' Mi.zO KX G ?aC ?pg ?hd ?po ?sa ?na
     case aC|pg|hd|po|sa|na=>k_is
   ·simp [FK31.excOf,or_assoc] at hc
    rcases hc with rfl|rfl
    ·dsimp only [L2.KOf]
     refine' Mi.zap KX G ?aC ?ga ?hk ?hB ?hd ?no
     case aC|ga|hk|hB|hd|no=>k_is
    ·dsimp only [L2.KOf]
     refine' Mi.zap KX G ?aC ?ga ?hk ?hB ?hd ?no
     case aC|ga|hk|hB|hd|no=>k_is
  have d_frames:Mi.FldF (L2.KOf KX) mg "frames" FK31.insOf FK31.excOf:=by
   refine ⟨fun c hc=>?_,fun c hc=>?_⟩
   ·simp [FK31.insOf,or_assoc] at hc
    rcases hc with rfl|rfl|rfl
    ·dsimp only [L2.KOf]
     refine' Mi.zO KX G ?aC ?pg ?hd ?po ?sa ?na
     case aC|pg|hd|po|sa|na=>k_is
    ·dsimp only [L2.KOf]
     refine' Mi.zO KX G ?aC ?pg ?hd ?po ?sa ?na
     case aC|pg|hd|po|sa|na=>k_is
    ·dsimp only [L2.KOf]
     refine' Mi.zO KX G ?aC ?pg ?hd ?po ?sa ?na
     case aC|pg|hd|po|sa|na=>k_is
   ·simp [FK31.excOf,or_assoc] at hc
    rcases hc with rfl|rfl
    ·dsimp only [L2.KOf]
     refine' Mi.zap KX G ?aC ?ga ?hk ?hB ?hd ?no
     case aC|ga|hk|hB|hd|no=>k_is
    ·dsimp only [L2.KOf]
     refine' Mi.zap KX G ?aC ?ga ?hk ?hB ?hd ?no
     case aC|ga|hk|hB|hd|no=>k_is
  have d_functions:Mi.FldF (L2.KOf KX) mg "functions" FK31.insOf FK31.excOf:=by
   refine ⟨fun c hc=>?_,fun c hc=>?_⟩
   ·simp [FK31.insOf,or_assoc] at hc
    rcases hc with rfl|rfl|rfl
    ·dsimp only [L2.KOf]
     refine' Mi.zO KX G ?aC ?pg ?hd ?po ?sa ?na
     case aC|pg|hd|po|sa|na=>k_is
    ·dsimp only [L2.KOf]
     refine' Mi.zO KX G ?aC ?pg ?hd ?po ?sa ?na
     case aC|pg|hd|po|sa|na=>k_is
    ·dsimp only [L2.KOf]
     refine' Mi.zO KX G ?aC ?pg ?hd ?po ?sa ?na
     case aC|pg|hd|po|sa|na=>k_is
   ·simp [FK31.excOf,or_assoc] at hc
    rcases hc with rfl|rfl
    ·dsimp only [L2.KOf]
     refine' Mi.zap KX G ?aC ?ga ?hk ?hB ?hd ?no
     case aC|ga|hk|hB|hd|no=>k_is
    ·dsimp only [L2.KOf]
     refine' Mi.zap KX G ?aC ?ga ?hk ?hB ?hd ?no
     case aC|ga|hk|hB|hd|no=>k_is
  have d_many:Mi.FldF (L2.KOf KX) mg "many" FK31.insOf FK31.excOf:=by
   refine ⟨fun c hc=>?_,fun c hc=>?_⟩
   ·simp [FK31.insOf,or_assoc] at hc
    rcases hc with rfl|rfl|rfl
    ·dsimp only [L2.KOf]
     refine' Mi.zO KX G ?aC ?pg ?hd ?po ?sa ?na
     case aC|pg|hd|po|sa|na=>k_is
    ·dsimp only [L2.KOf]
     refine' Mi.zO KX G ?aC ?pg ?hd ?po ?sa ?na
     case aC|pg|hd|po|sa|na=>k_is
    ·dsimp only [L2.KOf]
     refine' Mi.zO KX G ?aC ?pg ?hd ?po ?sa ?na
     case aC|pg|hd|po|sa|na=>k_is
   ·simp [FK31.excOf,or_assoc] at hc
    rcases hc with rfl|rfl
    ·dsimp only [L2.KOf]
     refine' Mi.zap KX G ?aC ?ga ?hk ?hB ?hd ?no
     case aC|ga|hk|hB|hd|no=>k_is
    ·dsimp only [L2.KOf]
     refine' Mi.zap KX G ?aC ?ga ?hk ?hB ?hd ?no
     case aC|ga|hk|hB|hd|no=>k_is
  have d_place:Mi.FldF (L2.KOf KX) mg "place" FK31.insOf FK31.excOf:=by
   refine ⟨fun c hc=>?_,fun c hc=>?_⟩
   ·simp [FK31.insOf,or_assoc] at hc
    rcases hc with rfl|rfl|rfl
    ·dsimp only [L2.KOf]
     refine' Mi.zO KX G ?aC ?pg ?hd ?po ?sa ?na
     case aC|pg|hd|po|sa|na=>k_is
    ·dsimp only [L2.KOf]
     refine' Mi.zO KX G ?aC ?pg ?hd ?po ?sa ?na
     case aC|pg|hd|po|sa|na=>k_is
    ·dsimp only [L2.KOf]
     refine' Mi.zO KX G ?aC ?pg ?hd ?po ?sa ?na
     case aC|pg|hd|po|sa|na=>k_is
   ·simp [FK31.excOf,or_assoc] at hc
    rcases hc with rfl|rfl
    ·dsimp only [L2.KOf]
     refine' Mi.zap KX G ?aC ?ga ?hk ?hB ?hd ?no
     case aC|ga|hk|hB|hd|no=>k_is
    ·dsimp only [L2.KOf]
     refine' Mi.zap KX G ?aC ?ga ?hk ?hB ?hd ?no
     case aC|ga|hk|hB|hd|no=>k_is
  have d_told:Mi.FldF (L2.KOf KX) mg "told" FK31.insOf FK31.excOf:=by
   refine ⟨fun c hc=>?_,fun c hc=>?_⟩
   ·simp [FK31.insOf,or_assoc] at hc
    rcases hc with rfl|rfl|rfl
    ·dsimp only [L2.KOf]
     refine' Mi.zO KX G ?aC ?pg ?hd ?po ?sa ?na
     case aC|pg|hd|po|sa|na=>k_is
    ·dsimp only [L2.KOf]
     refine' Mi.zO KX G ?aC ?pg ?hd ?po ?sa ?na
     case aC|pg|hd|po|sa|na=>k_is
    ·dsimp only [L2.KOf]
     refine' Mi.zO KX G ?aC ?pg ?hd ?po ?sa ?na
     case aC|pg|hd|po|sa|na=>k_is
   ·simp [FK31.excOf,or_assoc] at hc
    rcases hc with rfl|rfl
    ·dsimp only [L2.KOf]
     refine' Mi.zap KX G ?aC ?ga ?hk ?hB ?hd ?no
     case aC|ga|hk|hB|hd|no=>k_is
    ·dsimp only [L2.KOf]
     refine' Mi.zap KX G ?aC ?ga ?hk ?hB ?hd ?no
     case aC|ga|hk|hB|hd|no=>k_is
  have d_word:Mi.FldF (L2.KOf KX) mg "word" FK31.insOf FK31.excOf:=by
   refine ⟨fun c hc=>?_,fun c hc=>?_⟩
   ·simp [FK31.insOf,or_assoc] at hc
    rcases hc with rfl|rfl|rfl
    ·dsimp only [L2.KOf]
     refine' Mi.zO KX G ?aC ?pg ?hd ?po ?sa ?na
     case aC|pg|hd|po|sa|na=>k_is
    ·dsimp only [L2.KOf]
     refine' Mi.zO KX G ?aC ?pg ?hd ?po ?sa ?na
     case aC|pg|hd|po|sa|na=>k_is
    ·dsimp only [L2.KOf]
     refine' Mi.zO KX G ?aC ?pg ?hd ?po ?sa ?na
     case aC|pg|hd|po|sa|na=>k_is
   ·simp [FK31.excOf,or_assoc] at hc
    rcases hc with rfl|rfl
    ·dsimp only [L2.KOf]
     refine' Mi.zap KX G ?aC ?ga ?hk ?hB ?hd ?no
     case aC|ga|hk|hB|hd|no=>k_is
    ·dsimp only [L2.KOf]
     refine' Mi.zap KX G ?aC ?ga ?hk ?hB ?hd ?no
     case aC|ga|hk|hB|hd|no=>k_is
  have is:Mi.IsF (L2.KOf KX) mg FK31.isT:=by
   exact Mi.zky rfl rfl rfl
  have kd_OPS:∀X:L2.Cx,X.K=(L2.KOf KX)→X.mg=mg→X.w=w→Mi.KdF X "OPS" FK31.zay FK31.zaz FK31.full_OPS:=by
   dsimp only [L2.KOf]
   refine' Mi.zn3 KX G ?aO ?lO ?hk ?no ?hi
   case aO|lO=>k_is
   case hk =>
    repeat (refine ⟨⟨_,_,rfl,rfl⟩,?_⟩)
    exact trivial
   (case no=>first|rfl|decide)
   case hi =>
    simp only [FK31.zay,FK31.zaz,List.zip_cons_cons,List.zip_nil_left]
    refine Mi.all_cons ?_ ?_
    ·refine' Mi.zdN KX G ?e ?l1 ?l2 ?a
     case e|l1|l2|a=>k_is
    refine Mi.all_cons ?_ ?_
    ·refine' Mi.zdN KX G ?e ?l1 ?l2 ?a
     case e|l1|l2|a=>k_is
    refine Mi.all_cons ?_ ?_
    ·refine' Mi.zdN KX G ?e ?l1 ?l2 ?a
     case e|l1|l2|a=>k_is
    refine Mi.all_cons ?_ ?_
    ·refine' Mi.zdN KX G ?e ?l1 ?l2 ?a
     case e|l1|l2|a=>k_is
    refine Mi.all_cons ?_ ?_
    ·refine' Mi.zdN KX G ?e ?l1 ?l2 ?a
     case e|l1|l2|a=>k_is
    refine Mi.all_cons ?_ ?_
    ·refine' Mi.zdN KX G ?e ?l1 ?l2 ?a
     case e|l1|l2|a=>k_is
    exact Mi.zmo
  have T:FK31.Txt w (L2.KOf KX) mg:=⟨f__law_cell_at,f__law_name,f__law_value,f__law_atom,f__law_parts,f__law_told,f__law_due,f_functions_by_name,n_Frame,n_Runner,m_Frame_line_here,m_Frame_end_step,f_kind_of,f_check_kinds,f_in_bounds,f_within_bounds,f_tell_add,f_tell_sub,f_tell_mul,f_number_of,f_tell_less,f_tell_same,f_tell_front,f_things_within,f_all_within,f_parts,m_Op_answer,n_Op,f_op_of,m_Frame_value_of,m_Frame_values_by,m_Runner_begin,m_Runner_at_rest,m_Runner_give_back,m_Frame_enter,f_chooses_first,m_Runner_go_line,f_run,f__law_plain,f_law,x_Fault,x_NoOp,b_abs,b_all,b_bool,b_dict,b_enumerate,b_int,b_isinstance,b_len,b_list,b_min,b_range,b_str,b_sum,b_tuple,b_zip,c_MOST_PARTS,c_NUMBER_BOUND,d_block,d_bound,d_frames,d_functions,d_many,d_place,d_told,d_word,is,kd_OPS⟩
  exact Mi.zn4 T.f_law hmg (fun _ _ _ _ _ _ _=>rfl) (fun f fd F base=>FK31.zkG T F) (fun ns _=>FK31.zpA ns))
