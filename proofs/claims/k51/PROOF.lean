import PyProof.Rows.All
import Wide.All
import OpenK.AllK
import Wide.FinOn
import Lean
import PyProof.EqAt
import PyProof.EqKinds
import PyProof.TupleCall
import PySem.Challenge.RW_foreknown_k51_roots
set_option Elab.async false
set_option linter.all false
set_option maxRecDepth 100000
def zt:=@PySem.wpAny_bind
def yo:=@PySem.Heap.get?_push_of_some
def zM:=@PySem.wpAny_pure
def ym:=@PySem.Heap.lt_size
def y8:=@PySem.Heap.get?_push_size
def j9:=@PySem.wpAny_field
def wF:=@PySem.wpAny_call_entry
def wG:=@PySem.wpAny_newObj_type
def jp:=@PySem.wpAny_holding
def y9:=@PySem.wpAny_mono
def jH:=@PySem.Heap.get?_update_other
def zaa:=@PySem.wpAny_truthy_bool
def wH:=@PySem.lookup_relabel_local
def yn:=@List.getElem?_eq_getElem
def ja:=@List.getElem?_set_ne
def yE:=@List.getElem?_eq_some_iff
def jI:=@List.getElem?_set_self
def yg:=@Nat.le_refl
def yx:=@List.size_toArray
def yO:=@List.mem_cons_self
def jh:=@List.mem_cons_of_mem
def yq:=@List.mem_append_right
def jW:=@List.mem_append_left
def zE:=@if_pos
def zN:=@if_neg
def wa:=@List.mem_singleton
def jt:=@List.getElem?_map
def yD:=@List.mem_cons
def jJ:=@List.drop_eq_getElem_cons
def yT:=@Nat.le_trans
def zab:=@List.getElem_mem
def zac:=@List.length_append
def wb:=@if_true
def ju:=@Nat.zero_le
def wc:=@List.mem_of_getElem?
def jX:=@List.length_map
def wI:=@List.map_append
def jb:=@Nat.lt_of_lt_of_le
def ji:=@List.map_cons
def yz:=@Nat.ne_of_lt
def zaY:=@List.getElem_of_mem
def zbz:=@List.range_succ
def jK:=@Bool.and_eq_true
def zad:=@List.mem_map
def jv:=@List.mem_append
def jY:=@List.length_cons
def jc:=@List.nodup_cons
def we:=@List.getElem?_append_left
def jZ:=@List.getElem?_append_right
def jw:=@decide_eq_false
def zaZ:=@decide_eq_true
def y1:=@Nat.mod_lt
def za0:=@List.drop_of_length_le
def za1:=@List.flatMap_cons
def jx:=@List.lookup_cons
def zcB:=@List.getElem?_eq_none
def za2:=@List.getElem?_eq_none_iff
def zbA:=@List.append_assoc
def zbB:=@List.mem_range
def zbC:=@decide_eq_true_eq
def yA:=@Ne.symm
def jL:=@Nat.lt_succ_self
namespace L2
open PySem PySem.Spec PyProof.Rows
abbrev Key:=Sum Int Str
def keyIs:Key->Value->Bool
 | .inl k,v=>Value.isInt k v
 | .inr x,v=>Value.isStrOf x v
def keyH (w:World):Key->Int
 | .inl k=>hashInt k
 | .inr x=>hashStr w x
def wf:∀{k:Key}{v:Value},keyIs k v=true->(∃i t,k=Sum.inl i/\v=Value.int i t)\/(∃x t,k=Sum.inr x/\v=Value.str x t)
 | .inl i,v,h=>by
  obtain ⟨t,e⟩:=Value.isInt_shape (k:=i) (v:=v) h
  exact .inl ⟨i,t,rfl,e⟩
 | .inr x,v,h=>by
  obtain ⟨t,e⟩:=Value.isStrOf_shape (x:=x) (v:=v) h
  exact .inr ⟨x,t,rfl,e⟩
def zhz (i:Int) (t:Tok):keyIs (.inl i) (.int i t)=true:=by simp [keyIs,Value.isInt]
def zhA (x:Str) (t:Tok):keyIs (.inr x) (.str x t)=true:=by simp [keyIs,Value.isStrOf]
def zhB (a b:Int):decide ((Sum.inl a:Key)=Sum.inl b)=(a==b):=by
 by_cases e:a=b
 ·subst e;simp
 ·have h:¬(Sum.inl a:Key)=Sum.inl b:=fun q=>e (Sum.inl.inj q)
  rw [jw h]
  exact (beq_eq_false_iff_ne.mpr e).symm
def zhC (a b:Str):decide ((Sum.inr a:Key)=Sum.inr b)=decide (a=b):=by
 by_cases e:a=b
 ·subst e;simp
 ·have h:¬(Sum.inr a:Key)=Sum.inr b:=fun q=>e (Sum.inr.inj q)
  rw [jw h,jw e]
def zhD (a:Int) (b:Str):decide ((Sum.inl a:Key)=Sum.inr b)=false:=jw (fun q=>nomatch q)
def zhE (a:Str) (b:Int):decide ((Sum.inr a:Key)=Sum.inl b)=false:=jw (fun q=>nomatch q)
def mixKind (prog:Program) (w:World):PySem.KeyKind prog w Key where
 is:=keyIs
 hash:=keyH w
 inj:=fun v a b ha hb=>by
  rcases wf ha with ⟨i,t,rfl,rfl⟩|⟨x,t,rfl,rfl⟩
  ·rcases wf hb with ⟨j,u,rfl,e⟩|⟨y,u,rfl,e⟩
   ·injection e with e1 _;rw [e1]
   ·exact nomatch e
  ·rcases wf hb with ⟨j,u,rfl,e⟩|⟨y,u,rfl,e⟩
   ·exact nomatch e
   ·injection e with e1 _;rw [e1]
 byValue:=fun k v h=>by
  rcases wf h with ⟨i,t,rfl,rfl⟩|⟨x,t,rfl,rfl⟩<;>rfl
 pyHash:=fun hv h=>by
  rcases wf hv with ⟨i,t,rfl,rfl⟩|⟨x,t,rfl,rfl⟩
  ·exact wpAny_pyHash_int h
  ·exact wpAny_pyHash_str h
 eqBool:=fun hu hv h=>by
  rcases wf hu with ⟨i,t,rfl,rfl⟩|⟨x,t,rfl,rfl⟩
  ·rcases wf hv with ⟨j,u,rfl,rfl⟩|⟨y,u,rfl,rfl⟩
   ·rw [zhB] at h;exact wpAny_eqBool_int h
   ·rw [zhD] at h;exact SeqAt.EqAt.int_str i t y u _ _ _ _ h
  ·rcases wf hv with ⟨j,u,rfl,rfl⟩|⟨y,u,rfl,rfl⟩
   ·rw [zhE] at h;exact SeqAt.EqAt.str_int x t j u _ _ _ _ h
   ·rw [zhC] at h;exact wpAny_eqBool_str h
 «strs» := fun k x t v h=>by
  rcases wf h with ⟨i,u,rfl,e⟩|⟨y,u,rfl,e⟩
  ·exact nomatch e
  ·injection e with e1 _
   subst e1
   cases v<;>rfl
def zhF (prog:Program) (w:World) (i:Int) (t:Tok):(mixKind prog w).is (.inl i) (.int i t)=true:=zhz i t
def zhG (prog:Program) (w:World) (x:Str) (t:Tok):(mixKind prog w).is (.inr x) (.str x t)=true:=zhA x t
inductive V where
 | non|bl (b:Bool)|int (i:Int)|str (x:Str)|byt (b:Array UInt8)|flt (b:UInt64)|ref (a:Addr)|ty (n:String)
 deriving DecidableEq
def RelV:V->Value->Prop
 | .non,u=>u=Value.none
 | .bl b,u=>u=Value.bool b
 | .int i,u=>∃t,u=Value.int i t
 | .str x,u=>∃t,u=Value.str x t
 | .byt b,u=>∃t,u=Value.bytes b t
 | .flt b,u=>∃t,u=Value.float b t
 | .ref a,u=>u=Value.ref a
 | .ty n,u=>u=Value.type n
abbrev Vals:List V->List Value->Prop:=Paired RelV
def Vals.length {xs:List V}{us:List Value}(r:Vals xs us):xs.length=us.length:=Paired.length r
def Vals.get:∀{xs:List V}{us:List Value}{i:Nat}{x:V},Vals xs us->xs[i]?=some x->∃u,us[i]?=some u/\RelV x u
 | _,_,_,_,.nil,e=>by simp at e
 | _,_,0,_,.cons r _,e=>by simp at e;subst e;exact ⟨_,rfl,r⟩
 | _,_,i+1,x,.cons _ t,e=>by
  obtain ⟨u,h1,h2⟩:=Vals.get (i:=i) (x:=x) t (by simpa using e)
  exact ⟨u,by simpa using h1,h2⟩
def Vals.set {x:V}{u:Value}(r:RelV x u):∀{xs:List V}{us:List Value}(i:Nat),Vals xs us->Vals (xs.set i x) (us.set i u)
 | _,_,_,.nil=>.nil
 | _,_,0,.cons _ t=>.cons r t
 | _,_,i+1,.cons q t=>.cons q (Vals.set r i t)
def Vals.append:∀{xs ys:List V}{us ws:List Value},Vals xs us->Vals ys ws->Vals (xs++ys) (us++ws)
 | _,_,_,_,.nil,s=>s
 | _,_,_,_,.cons r t,s=>.cons r (Vals.append t s)
def Vals.take:∀{xs:List V}{us:List Value}(n:Nat),Vals xs us->Vals (xs.take n) (us.take n)
 | _,_,0,_=>.nil
 | _,_,_+1,.nil=>.nil
 | _,_,n+1,.cons r t=>.cons r (Vals.take n t)
def Vals.drop:∀{xs:List V}{us:List Value}(n:Nat),Vals xs us->Vals (xs.drop n) (us.drop n)
 | _,_,0,r=>r
 | _,_,_+1,.nil=>.nil
 | _,_,n+1,.cons _ t=>Vals.drop n t
def RelO:Option V->Option Value->Prop
 | some v,some u=>RelV v u
 | none,none=>True
 | _,_=>False
def KV {κ:Type}:List (κ×V)->List (κ×Value)->Prop:=Paired fun (p:κ×V) (q:κ×Value)=>p.1=q.1/\RelV p.2 q.2
def kV:Key->V
 | .inl i=>.int i
 | .inr x=>.str x
inductive HO where
 | lst (xs:List V)
 | tup (xs:List V)
 | dK (kvs:List (Key×V))|dT (kvs:List (List Key×V))
 | set (S:Int->Bool) (n:Nat)
 | ins (C dx:Addr) (fs:List (Str×V))
 | own (x:Addr)
 | xd (fs:List (Str×V))
 | met (f x:Addr)
 | rng (lo hi:Int)
 | frz (o:Obj) (u:HO)
 | tbl (ps:Array Value)
 | ext (φ:Heap->Prop)
abbrev Hp:=Addr->Option HO
def upd (H:Hp) (a:Addr) (o:HO):Hp:=fun b=>if b=a then some o else H b
def yC {H:Hp}{a:Addr}{o:HO}:upd H a o a=some o:=by unfold upd;rw [zE rfl]
def zX {H:Hp}{a b:Addr}{o:HO}(h:b≠a):upd H a o b=H b:=by unfold upd;rw [zN h]
def zhH {H:Hp}{a:Addr}{o u:HO}:upd (upd H a o) a u=upd H a u:=by
 funext b;unfold upd;split<;>rfl
def zhI {H:Hp}{a b:Addr}{o u:HO}(h:H a=some o) (h':H b=some u) (d:o≠u):a≠b:=by
 intro e;subst e;rw [h] at h';exact d (Option.some.inj h')
def wg {H:Hp}{a b:Addr}{o:HO}(h:H a=some o) (h':H b=none):a≠b:=by
 intro e;subst e;rw [h] at h';cases h'
section
variable (P:Program) (w:World)
def ObjOk (H:Hp) (h:Heap) (a:Addr):HO->Prop
 | .lst xs=>xs.length<=sizeLine/\∃(its:List Value) (n:Nat),Vals xs its/\h.get? a=some { cls:=.type "list", data:=.seq its.toArray n }
 | .tup xs=>xs.length<=sizeLine/\∃its:List Value,Vals xs its/\IsTup h a its.toArray
 | .dK kvs=>kvs.length<=sizeLine/\(a==sysModules)=false/\∃vs,KV kvs vs/\h.DictOf (mixKind P w) a vs
 | .dT kvs=>kvs.length<=sizeLine/\(a==sysModules)=false/\∃xs:List (List Key×Addr×Value),
   Paired (fun (p:List Key×V) (q:List Key×Addr×Value)=>p.1=q.1/\H q.2.1=some (.tup (p.1.map kV))/\RelV p.2 q.2.2) kvs xs /\
   ∃o es ep,h.get? a=some o/\o.ExactDict/\o.data=.dict es ep/\es.toList=xs.map (entryOfKey (tupleKind (mixKind P w)))/\(xs.map (·.1)).Nodup
 | .set S n=>h.SetOf (intKind P w) a S n
 | .ins C dx fs=>H dx=some (.own a)/\fs.length<=1000/\dx≠a/\h.get? a=some (PySem.W.instObj C dx) /\
   ∃mA,h.Ns1 dx mA/\(∀f,RelO (fs.lookup f) (mA f))/\PySem.Within mA (fs.map (·.1))
 | .own _=>∃o,h.get? a=some o
 | .xd fs=>∃mA,h.Ns1 a mA/\∀f,RelO (fs.lookup f) (mA f)
 | .rng lo hi=>∃t u v,h.get? a=some { cls:=.type "range", data:=.fields #[.int lo t,.int hi u,.int 1 v] }
 | .frz o u=>h.get? a=some o/\ObjOk H h a u
 | .tbl ps=>h.get? a=some { cls:=.none,data:=.fields ps }
 | .met f x=>h.get? a=some (PySem.W.methodObj (.ref f) (.ref x))
 | .ext φ=>φ h/\(∃o,h.get? a=some o)/\∀h1 h2:Heap,φ h1->(∀o,h1.get? a=some o->h2.get? a=some o)->φ h2
def HOk (H:Hp) (h:Heap):Prop:=∀a o,H a=some o->ObjOk P w H h a o
end
section
variable {P:Program}{w:World}{H H':Hp}{h h':Heap}{a:Addr}{o:HO}
def ObjOk.lt (x:ObjOk P w H h a o):a<h.objs.size:=by
 cases o with
 | lst xs=>obtain ⟨_,_,_,_,e⟩:=x;exact ym e
 | tup xs=>obtain ⟨_,_,_,p⟩:=x;exact p.lt
 | dK kvs=>obtain ⟨_,_,_,_,o,_,_,e,_⟩:=x;exact ym e
 | dT kvs=>obtain ⟨_,_,_,_,o,_,_,e,_⟩:=x;exact ym e
 | set S n=>obtain ⟨o,_,_,_,e,_⟩:=x;exact ym e
 | ins C dx fs=>obtain ⟨_,_,_,e,_⟩:=x;exact ym e
 | own y=>obtain ⟨_,e⟩:=x;exact ym e
 | xd fs=>obtain ⟨_,⟨_,_,_,e,_⟩,_⟩:=x;exact ym e
 | rng lo hi=>obtain ⟨_,_,_,e⟩:=x;exact ym e
 | frz ob u=>obtain ⟨e,_⟩:=x;exact ym e
 | tbl ps=>exact ym (show h.get? a=some _ from x)
 | met f y=>exact ym (show h.get? a=some _ from x)
 | ext φ=>obtain ⟨_,⟨_,e⟩,_⟩:=x;exact ym e
def Paired.mapP {α β:Type}{F G:α->β->Prop}:∀{aF:List α}{aG:List β},Paired F aF aG->(∀a b,F a b->G a b)->Paired G aF aG
 | _,_,.nil,_=>.nil
 | _,_,.cons r t,f=>.cons (f _ _ r) (Paired.mapP t f)
def ObjOk.stay (x:ObjOk P w H h a o) (k:∀b u,(b=a\/H b=some (.own a))->h.get? b=some u->h'.get? b=some u)
  (ho:∀b,H b=some (.own a)->H' b=some (.own a)) (ht:∀b xs,H b=some (.tup xs)->H' b=some (.tup xs)):ObjOk P w H' h' a o:=by
 induction o with
 | lst xs=>obtain ⟨z,its,n,r,e⟩:=x;exact ⟨z,its,n,r,k _ _ (.inl rfl) e⟩
 | tup xs=>obtain ⟨z,its,r,ob,e,c⟩:=x;exact ⟨z,its,r,ob,k _ _ (.inl rfl) e,c⟩
 | dK kvs=>obtain ⟨z,y,vs,r,ob,es,ep,e,c⟩:=x;exact ⟨z,y,vs,r,ob,es,ep,k _ _ (.inl rfl) e,c⟩
 | dT kvs =>
  obtain ⟨z,y,xs,r,ob,es,ep,e,c⟩:=x
  exact ⟨z,y,xs,Paired.mapP r fun p q z=>⟨z.1,ht _ _ z.2.1,z.2.2⟩,ob,es,ep,k _ _ (.inl rfl) e,c⟩
 | set S n=>obtain ⟨ob,es,ep,t,e,c⟩:=x;exact ⟨ob,es,ep,t,k _ _ (.inl rfl) e,c⟩
 | ins C dx fs =>
  obtain ⟨d,z,ne,e,mA,⟨od,es,ep,e2,c⟩,r⟩:=x
  exact ⟨ho _ d,z,ne,k _ _ (.inl rfl) e,mA,⟨od,es,ep,k _ _ (.inr d) e2,c⟩,r⟩
 | own y=>obtain ⟨ob,e⟩:=x;exact ⟨ob,k _ _ (.inl rfl) e⟩
 | xd fs=>obtain ⟨mA,⟨od,es,ep,e,c⟩,r⟩:=x;exact ⟨mA,⟨od,es,ep,k _ _ (.inl rfl) e,c⟩,r⟩
 | rng lo hi=>obtain ⟨t,u,v,e⟩:=x;exact ⟨t,u,v,k _ _ (.inl rfl) e⟩
 | frz ob u ih=>obtain ⟨e,q⟩:=x;exact ⟨k _ _ (.inl rfl) e,ih q⟩
 | tbl ps =>
  have e:h.get? a=some { cls:=.none,data:=.fields ps }:=x
  show h'.get? a=some { cls:=.none,data:=.fields ps }
  exact k a _ (.inl rfl) e
 | met f y =>
  have e:h.get? a=some (PySem.W.methodObj (.ref f) (.ref y)):=x
  show h'.get? a=some (PySem.W.methodObj (.ref f) (.ref y))
  exact k a _ (.inl rfl) e
 | ext φ=>obtain ⟨p,⟨o,e⟩,st⟩:=x;exact ⟨st _ _ p fun o q=>k _ _ (.inl rfl) q,⟨o,k _ _ (.inl rfl) e⟩,st⟩
def HOk.lt (x:HOk P w H h) (e:H a=some o):a<h.objs.size:=(x a o e).lt
def HOk.fresh (x:HOk P w H h) (e:h.objs.size<=a):H a=none:=by
 cases q:H a with
 | none=>rfl
 | some u=>exact absurd (jb (x.lt q) e) (Nat.lt_irrefl _)
def HOk.kept (x:HOk P w H h) (k:∀b u,h.get? b=some u->h'.get? b=some u):HOk P w H h':=fun a o e =>
 (x a o e).stay (fun b u _ q=>k b u q) (fun _ q=>q) fun _ _ q=>q
def HOk.laid (x:HOk P w H h) (k:∀b u,h.get? b=some u->h'.get? b=some u) (hp:h.objs.size<=a) (new:ObjOk P w (upd H a o) h' a o):HOk P w (upd H a o) h':=fun b u e=>by
 have hn:=x.fresh hp
 by_cases hb:b=a
 ·subst hb;rw [yC] at e;cases e;exact new
 ·rw [zX hb] at e
  exact (x b u e).stay (fun c v _ q=>k c v q) (fun c q=>by rw [zX (wg q hn)];exact q) fun c xs q=>by rw [zX (wg q hn)];exact q
end
def Rd (H:Hp) (a:Addr) (u:HO):Prop:=H a=some u\/∃o,H a=some (.frz o u)
def Rd.ok {P:Program}{w:World}{H:Hp}{h:Heap}{a:Addr}{u:HO}(r:Rd H a u) (x:HOk P w H h):ObjOk P w H h a u:=by
 rcases r with r|⟨o,r⟩
 ·exact x a u r
 ·obtain ⟨_,q⟩:=x a _ r
  exact q
def Mut:Option HO->Prop
 | some (.lst _)=>True
 | some (.dK _)=>True
 | some (.dT _)=>True
 | some (.set _ _)=>True
 | some (.ins _ _ _)=>True
 | some (.ext _)=>True
 | _=>False
section
variable {P:Program}{w:World}{H:Hp}{h h':Heap}{x e:Addr}{o':HO}
def HOk.write (ok:HOk P w H h) (mu:Mut (H x)) (he:e=x\/H e=some (.own x)) (k:∀b u,b≠e->h.get? b=some u->h'.get? b=some u) (heo:∃u,h'.get? e=some u)
  (new:ObjOk P w (upd H x o') h' x o'):HOk P w (upd H x o') h':=fun b u q=>by
 have nown:∀c y,H c=some (.own y)->c≠x:=fun c y r z=>by subst z;rw [r] at mu;exact mu
 have ntup:∀c xs,H c=some (.tup xs)->c≠x:=fun c xs r z=>by subst z;rw [r] at mu;exact mu
 by_cases hb:b=x
 ·subst hb;rw [yC] at q;cases q;exact new
 ·rw [zX hb] at q
  by_cases hbe:b=e
  ·have q':H b=some (.own x):=by
    rcases he with z|z
    ·exact absurd (hbe.trans z) hb
    ·rw [hbe];exact z
   rw [q] at q';cases q'
   obtain ⟨v,hv⟩:=heo
   exact ⟨v,by rw [hbe];exact hv⟩
  ·refine (ok b u q).stay (fun c v hc r=>k c v ?_ r) (fun c r=>by rw [zX (nown c b r)];exact r) fun c xs r=>by rw [zX (ntup c xs r)];exact r
   rcases hc with rfl|hc
   ·exact hbe
   ·rintro rfl
    rcases he with z|z
    ·exact nown c b hc z
    ·rw [hc] at z;cases z;exact hb rfl
end
structure Un (fs ex:List Addr) (H H':Hp) (h h':Heap):Prop where
 keep:∀b o,h.get? b=some o->H b=none->b∉fs->b∉ex->h'.get? b=some o
 slot:∀b o,h.get? b=some o->H b=none->b∈fs->b∉ex->∃sl,h'.get? b=some { o with slots:=sl }
 free:∀b o,h.get? b=some o->H b=none->b∉ex->H' b=none
 there:∀b o,h.get? b=some o->b∉ex->∃o',h'.get? b=some o'
 tups:∀b xs,H b=some (.tup xs)->H' b=some (.tup xs)
 frzs:∀b o u,H b=some (.frz o u)->H' b=some (.frz o u)
 tbls:∀b ps,H b=some (.tbl ps)->∃more,H' b=some (.tbl (ps++more))
section
variable {fs fs' ex ex':List Addr}{H H1 H2:Hp}{h h1 h2 h':Heap}{a x e:Addr}{o:HO}
def Un.any (u:Un fs ex H H1 h h1) {b:Addr}{ob:Obj}(q:h.get? b=some ob) (n:H b=none) (hx:b∉ex):∃sl,h1.get? b=some { ob with slots:=sl }:=by
 by_cases hb:b∈fs
 ·exact u.slot b ob q n hb hx
 ·exact ⟨ob.slots,u.keep b ob q n hb hx⟩
def Un.kept (k:∀b u,h.get? b=some u->h'.get? b=some u):Un fs ex H H h h' :=
 ⟨fun b ob q _ _ _=>k b ob q,fun b ob q _ _ _=>⟨ob.slots,k b ob q⟩,fun _ _ _ n _=>n,fun b ob q _=>⟨ob,k b ob q⟩,fun _ _ q=>q,fun _ _ _ q=>q,fun _ ps q=>⟨#[],by rw [q];simp⟩⟩
def Un.refl:Un fs ex H H h h:=Un.kept fun _ _ q=>q
def Un.laid (k:∀b u,h.get? b=some u->h'.get? b=some u) (hp:h.objs.size<=a) (hn:H a=none):Un fs ex H (upd H a o) h h' where
 keep:=fun b u q _ _ _=>k b u q
 slot:=fun b u q _ _ _=>⟨u.slots,k b u q⟩
 free:=fun b u q n _=>by rw [zX (yz (jb (ym q) hp))];exact n
 there:=fun b u q _=>⟨u,k b u q⟩
 tups:=fun b xs q=>by rw [zX (wg q hn)];exact q
 frzs:=fun b u xs q=>by rw [zX (wg q hn)];exact q
 tbls:=fun b ps q=>⟨#[],by rw [zX (wg q hn),q];simp⟩
def Un.write (mu:Mut (H x)) (he:e=x\/H e=some (.own x)) (k:∀b u,b≠e->h.get? b=some u->h'.get? b=some u) (heo:∃u,h'.get? e=some u):Un fs ex H (upd H x o) h h':=by
 have hx:∀b,H b=none->b≠x:=fun b n z=>by subst z;rw [n] at mu;exact mu
 have hb:∀b,H b=none->b≠e:=fun b n z=>by
  subst z
  rcases he with r|r
  ·exact hx b n r
  ·rw [n] at r;cases r
 have hm:∀b u,H b=some u->¬Mut (some u)->b≠x:=fun b u q nm z=>by subst z;rw [q] at mu;exact nm mu
 refine ⟨fun b u q n _ _=>k b u (hb b n) q,fun b u q n _ _=>⟨u.slots,k b u (hb b n) q⟩,fun b u q n _=>by rw [zX (hx b n)];exact n,fun b u q _=>?_,
  fun b xs q=>by rw [zX (hm b _ q fun z=>z)];exact q,fun b u xs q=>by rw [zX (hm b _ q fun z=>z)];exact q,fun b ps q=>⟨#[],by rw [zX (hm b _ q fun z=>z),q];simp⟩⟩
 by_cases hbe:b=e
 ·subst hbe;exact heo
 ·exact ⟨u,k b u hbe q⟩
end
def trk (h:Heap) (H:Hp):List Addr:=(List.range h.objs.size).filter fun a=>(H a).isSome
def hidT (h:Heap) (H:Hp):Heap:=PySem.W.hideAll h (trk h H)
def zhJ (h:Heap) (H:Hp):(hidT h H).objs.size=h.objs.size:=PySem.W.hideAll_size _ _
def zhK {h:Heap}{H:Hp}{b:Addr}{o:Obj}(e:h.get? b=some o) (n:H b=none):(hidT h H).get? b=some o :=
 PySem.W.hideAll_get _ e fun hm=>by
  have q:(H b).isSome=true:=(List.mem_filter.mp hm).2
  rw [n] at q;simp at q
def zhL {h:Heap}{H:Hp}{b:Addr}{o:Obj}(e:(hidT h H).get? b=some o):h.get? b=some o/\H b=none:=by
 have e':h.get? b=some o:=PySem.W.of_hideAll (trk h H) e
 refine ⟨e',?_⟩
 cases q:H b with
 | none=>rfl
 | some x =>
  have hm:b∈trk h H:=List.mem_filter.mpr ⟨zbB.mpr (ym e'),by simp [q]⟩
  have z:(hidT h H).get? b=none:=PySem.W.hideAll_none (trk h H) hm
  rw [z] at e;cases e
def allNews (g h:Heap) (L:Addr):List (Addr×Obj):=(List.range h.objs.size).filterMap fun a=>if a=L\/(g.get? a).isSome=true then none else (h.get? a).map fun o=>(a,o)
def rest (g h:Heap) (L d:Addr):List (Addr×Obj):=(allNews g h L).filter fun p=>decide (p.1≠d)
structure Mod (K:PySem.W.Frag) (mg:Str->Option Value) (base:Heap):Prop where
 kin:K.In base
 glob:base.Ns mainGlobals mg
 blt:∃mb,base.Ns builtinsNs mb/\∀x:Str,x ≠ "__name__" -> mb x=bootBuiltins x
 nolimit:base.NoLimit
structure Cx where
 prog:Program
 w:World
 K:PySem.W.Frag
 mg:Str->Option Value
 base:Heap
 A:Around
 N:List Str
 s₀:Shared
 H₀:Hp
 env:Env
 outer:List Env
 stack:List Env
 ex:List Addr
 fn:Str->Bool
 calm:Bool
 pn:List (Addr×Obj)
 xe:Value->Shared->Prop
def frs (l:List Env):List Addr:=l.filterMap (·.frame)
abbrev Cx.fs (X:Cx):List Addr:=frs X.outer
def Vis (sc:Scope) (x:Str):Prop:=sc.names.lookup x=some .local\/sc.names.lookup x=some .cell\/sc.names.lookup x=some .free
def Loc (sc:Scope) (x:Str):Prop:=sc.names.lookup x=some .local\/sc.names.lookup x=some .cell
def Look (env:Env) (h:Heap) (m:Str->Option Value) (x:Str) (u:Value):Prop :=
 (env.kindOf x=some .local/\m x=some u)\/((env.kindOf x=some .cell\/env.kindOf x=some .free)/\∃c,env.cells.lookup x=some c/\h.IsCell c (some u))
structure Cx.Ok (X:Cx):Prop where
 mod:Mod X.K X.mg X.base
 kind:X.env.scope.kind=.function
 glob:X.env.globals=mainGlobals
 blt:X.env.builtins=builtinsNs
 above:X.s₀.heap.objs.size<=X.env.locals
 inj:∀x y c,X.env.cells.lookup x=some c->X.env.cells.lookup y=some c->x=y
 has:∀x,(X.env.kindOf x=some .cell\/X.env.kindOf x=some .free)->∃c,X.env.cells.lookup x=some c
 cab:∀x c,X.fn x=true->X.env.cells.lookup x=some c->X.s₀.heap.objs.size<=c
 hd:X.calm=true->X.A.handled=none
 frames:X.A.frames=some X.stack
 stk:X.stack=X.outer\/(X.stack=X.env::X.outer/\X.env.frame=some X.env.locals)
 exf:∀b∈X.ex,b≠X.env.locals/\∀x c,X.env.cells.lookup x=some c->c≠b
 bs:∀b o,X.base.get? b=some o->X.s₀.heap.get? b=some o/\X.H₀ b=none
 bsz:X.base.objs.size<=X.s₀.heap.objs.size
 noex:∀b o,X.base.get? b=some o->b∉X.ex
 exfs:∀b∈X.ex,b∉X.fs
 funs:X.s₀.heap.FunFrames X.base X.outer
 frf:∀b∈X.fs,X.H₀ b=none
structure Inv (X:Cx) (pins:List (Addr×Obj)) (U:List (Option V)) (H:Hp) (s:Shared):Prop where
 ok:X.Ok
 os:s.os=X.s₀.os
 bare:AllBare s.gens
 base:Un X.fs X.ex X.H₀ H X.s₀.heap s.heap
 loc:∃m,s.heap.Ns X.env.locals m/\∀(i:Nat) (x:Str) (v:V),X.N[i]?=some x->U[i]?=some (some v)->Vis X.env.scope x->∃u,RelV v u/\Look X.env s.heap m x u
 cell:∀x c,X.env.cells.lookup x=some c->∃v,s.heap.IsCell c v
 free:H X.env.locals=none
 freeC:∀x c,X.env.cells.lookup x=some c->H c=none
 pin:∀p∈X.pn++pins,s.heap.get? p.1=some p.2/\H p.1=none/\p.1≠X.env.locals/\p.1∉X.fs/\∀v,p.2.data ≠ .cell v
 hok:HOk X.prog X.w H s.heap
 len:U.length=X.N.length
section
variable {X:Cx}{pins:List (Addr×Obj)}{U:List (Option V)}{H H':Hp}{s:Shared}{h':Heap}
def Cx.Ok.nofr (ok:X.Ok) {b:Addr}{o:Obj}(e:X.base.get? b=some o):b∉X.fs:=fun hb=>by
 have:=(ok.funs.mem hb).1
 rw [e] at this;cases this
def Inv.bs (I:Inv X pins U H s):∀b o,X.base.get? b=some o->s.heap.get? b=some o/\H b=none:=fun b o e =>
 ⟨I.base.keep b o (I.ok.bs b o e).1 (I.ok.bs b o e).2 (I.ok.nofr e) (I.ok.noex b o e),I.base.free b o (I.ok.bs b o e).1 (I.ok.bs b o e).2 (I.ok.noex b o e)⟩
def Inv.bk (I:Inv X pins U H s):∀b o,X.base.get? b=some o->s.heap.get? b=some o:=fun b o e=>(I.bs b o e).1
def Inv.mod (I:Inv X pins U H s):Mod X.K X.mg X.base:=I.ok.mod
def Inv.kIn (I:Inv X pins U H s):X.K.In s.heap:=I.ok.mod.kin.keeps I.bk
def Inv.fr (I:Inv X pins U H s):∃m,Fr X.base X.env.locals s.heap m :=
 let ⟨m,hn,_⟩:=I.loc
 ⟨m,hn,I.bk,yT I.ok.bsz I.ok.above⟩
def Inv.lt (I:Inv X pins U H s):X.env.locals<s.heap.objs.size:=let ⟨_,hn,_⟩:=I.loc;hn.lt
def Inv.sz (I:Inv X pins U H s):X.s₀.heap.objs.size<=s.heap.objs.size:=yT I.ok.above (Nat.le_of_lt I.lt)
def Inv.nofs (I:Inv X pins U H s) {a:Addr}(h:s.heap.objs.size<=a):a∉X.fs:=fun hb=>by
 obtain ⟨_,o,ho,_⟩:=I.ok.funs.mem hb
 exact absurd (jb (ym ho) (yT I.sz h)) (Nat.lt_irrefl _)
def Inv.cne (I:Inv X pins U H s):∀x c,X.env.cells.lookup x=some c->c≠X.env.locals:=fun x c e z=>by
 obtain ⟨v,o,ho,hd⟩:=I.cell x c e
 obtain ⟨m,⟨o',es,ep,ho',hd',_⟩,_⟩:=I.loc
 rw [z,ho'] at ho;cases ho;rw [hd'] at hd;cases hd
def Inv.funs (I:Inv X pins U H s):s.heap.FunFrames X.base X.outer:=by
 have all:∀(l:List Env),(∀b∈frs l,b∈X.fs)->X.s₀.heap.FunFrames X.base l->s.heap.FunFrames X.base l:=by
  intro l
  induction l with
  | nil=>intro _ _;trivial
  | cons env r ih =>
   intro hs hl
   obtain ⟨hk,⟨L,o,hf,hn,ho,hd⟩,hr⟩:=hl
   have hL:L∈X.fs:=hs L (by unfold frs;rw [List.filterMap_cons,hf];exact yO)
   obtain ⟨sl,e⟩:=I.base.slot L o ho (I.ok.frf L hL) hL fun z=>I.ok.exfs L z hL
   exact ⟨hk,⟨L,_,hf,hn,e,hd⟩,ih (fun b hb=>hs b (by unfold frs;rw [List.filterMap_cons,hf];exact jh _ hb)) hr⟩
 exact all X.outer (fun _ hb=>hb) I.ok.funs
def Inv.stack (I:Inv X pins U H s):s.heap.FunFrames X.base X.stack:=by
 rcases I.ok.stk with e|⟨e,hf⟩
 ·rw [e];exact I.funs
 ·rw [e]
  obtain ⟨m,hn,_⟩:=I.loc
  refine .cons (by rw [I.ok.kind];decide) hf hn ?_ I.funs
  exact Heap.get?_none_of_le (yT I.ok.bsz I.ok.above)
def Inv.stkSub (I:Inv X pins U H s):∀b∈frs X.stack,b∈X.env.locals::X.fs:=fun b hb=>by
 rcases I.ok.stk with e|⟨e,hf⟩
 ·rw [e] at hb;exact jh _ hb
 ·rw [e] at hb
  unfold frs at hb
  rw [List.filterMap_cons,hf] at hb
  exact hb
def Inv.stkFree (I:Inv X pins U H s):∀b∈frs X.stack,H b=none:=fun b hb=>by
 rcases yD.mp (I.stkSub b hb) with e|hb
 ·rw [e];exact I.free
 ·obtain ⟨_,o,ho,_⟩:=I.ok.funs.mem hb
  exact I.base.free b o ho (I.ok.frf b hb) fun z=>I.ok.exfs b z hb
def Inv.step {g':Array GenState}{t':Nat}{d':Drawn}{ch:List Addr}(I:Inv X pins U H s)
  (hch:∀b∈ch,(b∈X.ex\/X.s₀.heap.objs.size<=b)/\b≠X.env.locals/\(∀x c,X.env.cells.lookup x=some c->c≠b)/\∀p∈X.pn++pins,p.1≠b)
  (keep:∀b o,b≠X.env.locals->b∉X.fs->b∉ch->s.heap.get? b=some o->H b=none->h'.get? b=some o)
  (slot:∀b o,b≠X.env.locals->b∈X.fs->b∉ch->s.heap.get? b=some o->H b=none->∃sl,h'.get? b=some { o with slots:=sl }) (free:∀b o,b∉ch->s.heap.get? b=some o->H b=none->H' b=none)
  (there:∀b o,b∉ch->s.heap.get? b=some o->∃o',h'.get? b=some o')
  (tups:∀b xs,H b=some (.tup xs)->H' b=some (.tup xs)) (frzs:∀b o u,H b=some (.frz o u)->H' b=some (.frz o u)) (tbls:∀b ps,H b=some (.tbl ps)->∃more,H' b=some (.tbl (ps++more)))
  (ns:∀m,s.heap.Ns X.env.locals m->h'.Ns X.env.locals m) (hok:HOk X.prog X.w H' h') (hg:AllBare g') :
  Inv X pins U H' { s with heap:=h',gens:=g',drawn:=d',toks:=t' }:=by
 have neL:∀b o,X.s₀.heap.get? b=some o->b≠X.env.locals:=fun b o e=>yz (jb (ym e) I.ok.above)
 have neC:∀b o,X.s₀.heap.get? b=some o->b∉X.ex->b∉ch:=fun b o e hx hb=>by
  rcases (hch b hb).1 with z|z
  ·exact hx z
  ·exact absurd (jb (ym e) z) (Nat.lt_irrefl _)
 have cellK:∀x c,X.env.cells.lookup x=some c->∀v,s.heap.IsCell c v->h'.IsCell c v:=fun x c e v ⟨o,ho,hd⟩=>by
  have nch:c∉ch:=fun z=>(hch c z).2.2.1 x c e rfl
  by_cases hc:c∈X.fs
  ·obtain ⟨sl,q⟩:=slot c o (I.cne x c e) hc nch ho (I.freeC x c e)
   exact ⟨_,q,hd⟩
  ·exact ⟨o,keep c o (I.cne x c e) hc nch ho (I.freeC x c e),hd⟩
 refine ⟨I.ok,I.os,hg,⟨fun b o e n hb hx=>?_,fun b o e n hb hx=>?_,fun b o e n hx=>?_,fun b o e hx=>?_,fun b xs e=>tups b xs (I.base.tups b xs e),fun b o xs e=>frzs b o xs (I.base.frzs b o xs e),fun b ps e=>?_⟩,?_,fun x c e=>?_,?_,fun x c e=>?_,fun p hp=>?_,hok,I.len⟩
 ·exact keep b o (neL b o e) hb (neC b o e hx) (I.base.keep b o e n hb hx) (I.base.free b o e n hx)
 ·obtain ⟨sl,e1⟩:=I.base.slot b o e n hb hx
  obtain ⟨sl',e2⟩:=slot b _ (neL b o e) hb (neC b o e hx) e1 (I.base.free b o e n hx)
  exact ⟨sl',e2⟩
 ·obtain ⟨o',e1⟩:=I.base.there b o e hx
  exact free b o' (neC b o e hx) e1 (I.base.free b o e n hx)
 ·obtain ⟨o',e1⟩:=I.base.there b o e hx
  exact there b o' (neC b o e hx) e1
 ·obtain ⟨m1,e1⟩:=I.base.tbls b ps e
  obtain ⟨m2,e2⟩:=tbls b _ e1
  exact ⟨m1++m2,by rw [e2,Array.append_assoc]⟩
 ·obtain ⟨m,hn,hl⟩:=I.loc
  refine ⟨m,ns m hn,fun i x v e1 e2 e3=>?_⟩
  obtain ⟨u,r,l⟩:=hl i x v e1 e2 e3
  refine ⟨u,r,?_⟩
  rcases l with l|⟨k,c,e,z⟩
  ·exact .inl l
  ·exact .inr ⟨k,c,e,cellK x c e _ z⟩
 ·obtain ⟨v,z⟩:=I.cell x c e
  exact ⟨v,cellK x c e v z⟩
 ·obtain ⟨m,⟨o,_,_,ho,_⟩,_⟩:=I.loc
  exact free _ o (fun z=>(hch _ z).2.1 rfl) ho I.free
 ·obtain ⟨v,o,ho,hd⟩:=I.cell x c e
  exact free c o (fun z=>(hch c z).2.2.1 x c e rfl) ho (I.freeC x c e)
 ·obtain ⟨e,n,ne,nf,d⟩:=I.pin p hp
  have nch:p.1∉ch:=fun z=>(hch p.1 z).2.2.2 p hp rfl
  exact ⟨keep p.1 p.2 ne nf nch e n,free p.1 p.2 nch e n,ne,nf,d⟩
def Inv.un {t':Nat}(I:Inv X pins U H s) (u:Un X.fs [] H H' s.heap h') (hok:HOk X.prog X.w H' h'):Inv X pins U H' { s with heap:=h',toks:=t' }:=by
 obtain ⟨m,⟨o,es,ep,ho,r⟩,_⟩:=id I.loc
 obtain ⟨sl,hL⟩:=u.any ho I.free (by simp)
 exact I.step (g':=s.gens) (d':=s.drawn) (ch:=[]) (fun _ z=>nomatch z) (fun b o _ hb _ e n=>u.keep b o e n hb (by simp)) (fun b o _ hb _ e n=>u.slot b o e n hb (by simp)) (fun b o _ e n=>u.free b o e n (by simp)) (fun b o _ e=>u.there b o e (by simp)) u.tups u.frzs u.tbls (fun m' hm=>by
  obtain ⟨o',es',ep',ho',r'⟩:=hm
  rw [ho] at ho';cases ho'
  exact ⟨_,es',ep',hL,r'⟩) hok I.bare
def Inv.call {g':Array GenState}{t':Nat}{d':Drawn}{ch:List Addr}(I:Inv X pins U H s) (u:Un (frs X.stack) ch H H' s.heap h') (hok:HOk X.prog X.w H' h') (hg:AllBare g')
  (hch:∀b∈ch,(b∈X.ex\/X.s₀.heap.objs.size<=b)/\b≠X.env.locals/\(∀x c,X.env.cells.lookup x=some c->c≠b)/\∀p∈X.pn++pins,p.1≠b) :
  Inv X pins U H' { s with heap:=h',gens:=g',drawn:=d',toks:=t' }:=by
 obtain ⟨m,⟨o,es,ep,ho,r⟩,_⟩:=id I.loc
 obtain ⟨sl,hL⟩:=u.any ho I.free fun z=>(hch _ z).2.1 rfl
 exact I.step (ch:=ch) hch (fun b o hL hb hc e n=>u.keep b o e n (fun z=>(yD.mp (I.stkSub b z)).elim hL hb) hc) (fun b o _ _ hc e n=>u.any e n hc) (fun b o hc e n=>u.free b o e n hc) (fun b o hc e=>u.there b o e hc) u.tups u.frzs u.tbls (fun m' hm=>by
  obtain ⟨o',es',ep',ho',r'⟩:=hm
  rw [ho] at ho';cases ho'
  exact ⟨_,es',ep',hL,r'⟩) hok hg
def Inv.turned {t':Nat}{it:Addr}(I:Inv X pins U H s) (k:∀b o,b≠it->s.heap.get? b=some o->h'.get? b=some o) (hn:H it=none) (hL:it≠X.env.locals)
  (h1:it∈X.ex\/X.s₀.heap.objs.size<=it) (h2:∀x c,X.env.cells.lookup x=some c->c≠it) (h3:∀p∈X.pn++pins,p.1≠it):Inv X pins U H { s with heap:=h',toks:=t' }:=by
 have nit:∀b u,H b=some u->b≠it:=fun b u e z=>by rw [z,hn] at e;cases e
 refine I.step (g':=s.gens) (d':=s.drawn) (ch:=[it]) (fun b hb=>?_) (fun b o _ _ hc e _=>k b o (fun z=>hc (by simp [z])) e) (fun b o _ _ hc e _=>⟨o.slots,k b o (fun z=>hc (by simp [z])) e⟩) (fun _ _ _ _ n=>n)
  (fun b o hc e=>⟨o,k b o (fun z=>hc (by simp [z])) e⟩) (fun _ _ e=>e) (fun _ _ _ e=>e) (fun b ps e=>⟨#[],by rw [e];simp⟩) (fun m hm=>?_) (fun b u e=>?_) I.bare
 ·have e:b=it:=by simpa using hb
  subst e
  exact ⟨h1,hL,h2,h3⟩
 ·obtain ⟨o,es,ep,ho,r⟩:=hm
  exact ⟨o,es,ep,k _ o (yA hL) ho,r⟩
 ·refine (I.hok b u e).stay (fun c v hc q=>k c v ?_ q) (fun _ q=>q) fun _ _ q=>q
  rcases hc with z|z
  ·rw [z];exact nit b u e
  ·exact nit c _ z
def Inv.tok (I:Inv X pins U H s) (t:Nat):Inv X pins U H { s with toks:=t }:=I.un (h':=s.heap) (t':=t) Un.refl I.hok
def Inv.kept {t':Nat}(I:Inv X pins U H s) (k:∀b u,s.heap.get? b=some u->h'.get? b=some u):Inv X pins U H { s with heap:=h',toks:=t' }:=I.un (Un.kept k) (I.hok.kept k)
def Inv.laid {a:Addr}{o:HO}{t':Nat}(I:Inv X pins U H s) (k:∀b u,s.heap.get? b=some u->h'.get? b=some u) (hp:s.heap.objs.size<=a) (new:ObjOk X.prog X.w (upd H a o) h' a o) :
  Inv X pins U (upd H a o) { s with heap:=h',toks:=t' }:=I.un (Un.laid k hp (I.hok.fresh hp)) (I.hok.laid k hp new)
def Inv.write {x e:Addr}{o:HO}{t':Nat}(I:Inv X pins U H s) (mu:Mut (H x)) (he:e=x\/H e=some (.own x)) (k:∀b u,b≠e->s.heap.get? b=some u->h'.get? b=some u) (heo:∃u,h'.get? e=some u)
  (new:ObjOk X.prog X.w (upd H x o) h' x o):Inv X pins U (upd H x o) { s with heap:=h',toks:=t' }:=I.un (Un.write mu he k heo) (I.hok.write mu he k heo new)
def Inv.weak {ai:List (Option V)}(I:Inv X pins U H s) (hl:ai.length=U.length) (w:∀(i:Nat) v,ai[i]?=some (some v)->U[i]?=some (some v)):Inv X pins ai H s :=
 ⟨I.ok,I.os,I.bare,I.base,let ⟨m,hn,hl'⟩:=I.loc;⟨m,hn,fun i x v e1 e2 e3=>hl' i x v e1 (w i v e2) e3⟩,I.cell,I.free,I.freeC,I.pin,I.hok,hl.trans I.len⟩
def Inv.pins_of {pins':List (Addr×Obj)}(I:Inv X pins U H s) (h:∀p∈pins',s.heap.get? p.1=some p.2/\H p.1=none/\p.1≠X.env.locals/\p.1∉X.fs/\∀v,p.2.data ≠ .cell v):Inv X pins' U H s :=
 ⟨I.ok,I.os,I.bare,I.base,I.loc,I.cell,I.free,I.freeC,fun p hp=>(jv.mp hp).elim (fun z=>I.pin p (jW _ z)) (h p),I.hok,I.len⟩
def zdW {N:List Str}(hN:N.Nodup) {i j:Nat}{x:Str}(a:N[i]?=some x) (b:N[j]?=some x):i=j:=by
 obtain ⟨h1,e1⟩:=yE.mp a
 obtain ⟨h2,e2⟩:=yE.mp b
 exact (List.getElem_inj hN).mp (e1.trans e2.symm)
def zhM {M:Model}{A:Around}{E:Value->Shared->Prop}{i:Nat}{x:Str}{v:V}{u:Value}{Q:Unit->Shared->Prop}(I:Inv X pins U H s) (hN:X.N.Nodup) (hi:X.N[i]?=some x) (hx:Loc X.env.scope x) (r:RelV v u)
  (h:∀s',Inv X pins (U.set i (some v)) H s'->(∃a,Heap.SameBut a s.heap s'.heap/\(a=X.env.locals\/X.env.cells.lookup x=some a))->Q () s') (hf:X.fn x=true\/X.env.scope.names.lookup x=some .local:=by first|exact .inl rfl|exact .inr rfl|assumption):wpAny M A (storeName X.env x u) Q E s:=by
 obtain ⟨m,hn,hl⟩:=id I.loc
 have hcls:(X.env.scope.kind == .class||(X.env.scope.kind == .module&&X.env.locals != X.env.globals))=false:=by rw [I.ok.kind];rfl
 have aH:i<U.length:=by rw [I.len];exact (yE.mp hi).1
 have cne:=I.cne
 have tracked:∀{a:Addr} {h':Heap},(∃o,s.heap.get? a=some o/\H a=none)->Heap.SameBut a s.heap h'->HOk X.prog X.w H h':=fun {a h'} ha hs b ob e=>by
  obtain ⟨_,_,hfree⟩:=ha
  refine (I.hok b ob e).stay (fun c w' hc q=>(hs.2 c ?_).trans q) (fun _ q=>q) fun _ _ q=>q
  rintro rfl
  rcases hc with rfl|hc
  ·rw [hfree] at e;cases e
  ·rw [hfree] at hc;cases hc
 rcases hx with hk|hk
 ·refine wpAny_storeName_local hk hn (fun h' hn' hs=>?_) hcls
  obtain ⟨oL,_,_,hoL,_⟩:=id hn
  refine h _ ⟨I.ok,I.os,I.bare,⟨fun b o e n hb hx=>?_,fun b o e n hb hx=>?_,I.base.free,fun b o e hx=>?_,I.base.tups,I.base.frzs,I.base.tbls⟩,⟨_,hn',fun j y v' e1 e2 e3=>?_⟩,fun y c e=>?_,I.free,I.freeC,fun p hp=>?_,tracked ⟨oL,hoL,I.free⟩ hs,by simpa using I.len⟩ ⟨_,hs,.inl rfl⟩
  ·exact (hs.2 b (yz (jb (ym e) I.ok.above))).trans (I.base.keep b o e n hb hx)
  ·obtain ⟨sl,e1⟩:=I.base.slot b o e n hb hx
   exact ⟨sl,(hs.2 b (yz (jb (ym e) I.ok.above))).trans e1⟩
  ·obtain ⟨o',e1⟩:=I.base.there b o e hx
   exact ⟨o',(hs.2 b (yz (jb (ym e) I.ok.above))).trans e1⟩
  ·by_cases hj:j=i
   ·subst hj
    rw [hi] at e1;cases e1
    rw [jI aH] at e2
    cases e2
    exact ⟨u,r,.inl ⟨hk,by simp⟩⟩
   ·rw [ja (yA hj)] at e2
    obtain ⟨u',r',q⟩:=hl j y v' e1 e2 e3
    refine ⟨u',r',?_⟩
    rcases q with ⟨k,e⟩|⟨k,c,e,z⟩
    ·refine .inl ⟨k,?_⟩
     have:y≠x:=fun e=>hj (zdW hN e1 (e▸hi))
     simp [this,e]
    ·exact .inr ⟨k,c,e,z.sameBut hs (cne y c e)⟩
  ·obtain ⟨w',z⟩:=I.cell y c e
   exact ⟨w',z.sameBut hs (cne y c e)⟩
  ·obtain ⟨e,n,ne,nf,d⟩:=I.pin p hp
   exact ⟨(hs.2 p.1 ne).trans e,n,ne,nf,d⟩
 ·have hfn:X.fn x=true:=by
   rcases hf with z|z
   ·exact z
   ·rw [z] at hk;cases hk
  obtain ⟨c,hc⟩:=I.ok.has x (.inl hk)
  obtain ⟨w',z⟩:=I.cell x c hc
  refine wpAny_storeName_cell I.ok.kind hk hc z (fun h' hc' hs=>?_)
  obtain ⟨oc,hoc,hocd⟩:=id z
  refine h { s with heap:=h' } ⟨I.ok,I.os,I.bare,⟨fun b o e n hb hx=>?_,fun b o e n hb hx=>?_,I.base.free,fun b o e hx=>?_,I.base.tups,I.base.frzs,I.base.tbls⟩,⟨m,hn.sameBut hs (yA (cne x c hc)),fun j y v' e1 e2 e3=>?_⟩,fun y c' e=>?_,I.free,I.freeC,fun p hp=>?_,tracked ⟨oc,hoc,I.freeC x c hc⟩ hs,by simpa using I.len⟩ ⟨c,hs,.inr hc⟩
  ·exact (hs.2 b (yz (jb (ym e) (I.ok.cab x c hfn hc)))).trans (I.base.keep b o e n hb hx)
  ·obtain ⟨sl,e1⟩:=I.base.slot b o e n hb hx
   exact ⟨sl,(hs.2 b (yz (jb (ym e) (I.ok.cab x c hfn hc)))).trans e1⟩
  ·obtain ⟨o',e1⟩:=I.base.there b o e hx
   exact ⟨o',(hs.2 b (yz (jb (ym e) (I.ok.cab x c hfn hc)))).trans e1⟩
  ·by_cases hj:j=i
   ·subst hj
    rw [hi] at e1;cases e1
    rw [jI aH] at e2
    cases e2
    exact ⟨u,r,.inr ⟨.inl hk,c,hc,hc'⟩⟩
   ·rw [ja (yA hj)] at e2
    obtain ⟨u',r',q⟩:=hl j y v' e1 e2 e3
    refine ⟨u',r',?_⟩
    rcases q with q|⟨k,c',e,z'⟩
    ·exact .inl q
    ·refine .inr ⟨k,c',e,z'.sameBut hs ?_⟩
     rintro rfl
     exact hj (zdW hN e1 (I.ok.inj _ _ _ e hc▸hi))
  ·by_cases hcc:c'=c
   ·subst hcc;exact ⟨_,hc'⟩
   ·obtain ⟨w2,z2⟩:=I.cell y c' e
    exact ⟨w2,z2.sameBut hs hcc⟩
  ·obtain ⟨e,n,ne,nf,d⟩:=I.pin p hp
   refine ⟨(hs.2 p.1 ?_).trans e,n,ne,nf,d⟩
   intro q
   rw [q,hoc] at e
   have q':oc=p.2:=Option.some.inj e
   exact d w' (by rw [<-q'];exact hocd)
def zbD {M:Model}{A:Around}{E:Value->Shared->Prop}{i:Nat}{x:Str}{v:V}{u:Value}{Q:Unit->Shared->Prop}(I:Inv X pins U H s) (hN:X.N.Nodup) (hi:X.N[i]?=some x) (hx:Loc X.env.scope x) (r:RelV v u)
  (h:∀s',Inv X pins (U.set i (some v)) H s'->Q () s') (hf:X.fn x=true\/X.env.scope.names.lookup x=some .local:=by first|exact .inl rfl|exact .inr rfl|assumption):wpAny M A (storeName X.env x u) Q E s :=
 zhM I hN hi hx r (fun s' I' _=>h s' I') hf
def Inv.call' {s':Shared}{ch:List Addr}(I:Inv X pins U H s) (ho:s'.os=s.os) (u:Un (frs X.stack) ch H H' s.heap s'.heap) (hok:HOk X.prog X.w H' s'.heap) (hg:AllBare s'.gens)
  (hch:∀b∈ch,(b∈X.ex\/X.s₀.heap.objs.size<=b)/\b≠X.env.locals/\(∀x c,X.env.cells.lookup x=some c->c≠b)/\∀p∈X.pn++pins,p.1≠b):Inv X pins U H' s':=by
 obtain ⟨h',g',d',t',o'⟩:=s'
 have e:o'=s.os:=ho
 subst e
 exact I.call (g':=g') (t':=t') (d':=d') u hok hg hch
end
abbrev XK:=Value->Option Addr->Hp->Prop
abbrev St:=List (Option V)
abbrev VK:=V->Hp->Prop
abbrev TE:=St->Hp->VK->Prop
abbrev TT:=St->Hp->(Bool->Hp->Prop)->Prop
abbrev TA:=St->Hp->(List V->Hp->Prop)->Prop
structure Ends where
 nx:St->Hp->Prop
 rt:VK
 bk:St->Hp->Prop:=fun _ _=>False
 ct:St->Hp->Prop:=fun _ _=>False
abbrev TS:=Ends->St->Hp->Prop
def EP (X:Cx) (pins:List (Addr×Obj)) (U:St) (Q:VK) (u:Value) (s':Shared):Prop:=∃v H',Inv X pins U H' s'/\RelV v u/\Q v H'
def TP (X:Cx) (pins:List (Addr×Obj)) (U:St) (Q:Bool->Hp->Prop) (b:Bool) (s':Shared):Prop:=∃H',Inv X pins U H' s'/\Q b H'
def AP (X:Cx) (pins:List (Addr×Obj)) (U:St) (Q:List V->Hp->Prop) (us:List Value) (s':Shared):Prop:=∃vs H',Inv X pins U H' s'/\Vals vs us/\Q vs H'
def SP (X:Cx) (pins:List (Addr×Obj)) (D:Ends) (f:Flow) (s':Shared):Prop :=
 match f with
 | .next=>∃ai H',Inv X pins ai H' s'/\D.nx ai H'
 | .brk=>∃ai H',Inv X pins ai H' s'/\D.bk ai H'
 | .cont=>∃ai H',Inv X pins ai H' s'/\D.ct ai H'
 | .ret u=>∃v ai H',Inv X pins ai H' s'/\RelV v u/\D.rt v H'
def PE (X:Cx) (e:Expr) (t:TE):Prop :=
 ∀(pins:List (Addr×Obj)) (s:Shared) (U:St) (H:Hp) (Q:VK),Inv X pins U H s->t U H Q->wpAny (model X.prog X.w) X.A (eval e X.env) (EP X pins U Q) X.xe s
def PT (X:Cx) (e:Expr) (t:TT):Prop :=
 ∀(pins:List (Addr×Obj)) (s:Shared) (U:St) (H:Hp) (Q:Bool->Hp->Prop),Inv X pins U H s->t U H Q->wpAny (model X.prog X.w) X.A (isTrue e X.env (eval e X.env)) (TP X pins U Q) X.xe s
def PW (X:Cx) (e:Expr) (t:TT):Prop :=
 ∀(whole:Sem Value) (pins:List (Addr×Obj)) (s:Shared) (U:St) (H:Hp) (Q:Bool->Hp->Prop),Inv X pins U H s->t U H Q->wpAny (model X.prog X.w) X.A (isTrue e X.env whole) (TP X pins U Q) X.xe s
def PW.pt {X:Cx}{e:Expr}{t:TT}(h:PW X e t):PT X e t:=h _
def PA (X:Cx) (es:List Expr) (t:TA):Prop :=
 ∀(pos:Pos) (pins:List (Addr×Obj)) (s:Shared) (U:St) (H:Hp) (Q:List V->Hp->Prop),Inv X pins U H s->t U H Q->wpAny (model X.prog X.w) X.A (spliced (backTo pos (starEach es X.env))) (AP X pins U Q) X.xe s
def PS (X:Cx) (st:Stmt) (t:TS):Prop :=
 ∀(pins:List (Addr×Obj)) (s:Shared) (U:St) (H:Hp) (D:Ends),Inv X pins U H s->t D U H->wpAny (model X.prog X.w) X.A (exec st X.env) (SP X pins D) X.xe s
def PSs (X:Cx) (st:List Stmt) (t:TS):Prop :=
 ∀(pins:List (Addr×Obj)) (s:Shared) (U:St) (H:Hp) (D:Ends),Inv X pins U H s->t D U H->wpAny (model X.prog X.w) X.A (execs st X.env) (SP X pins D) X.xe s
def thn {α:Type}{t:Sem α}{Q Q':α->Shared->Prop}{M:Model}{A:Around}{E:Value->Shared->Prop}{s:Shared}(h:wpAny M A t Q E s) (hQ:∀a s,Q a s->Q' a s):wpAny M A t Q' E s:=y9 h hQ fun _ _ x=>x
section
variable {X:Cx}
def zbE (i:Nat):TE:=fun U H Q=>∃v,U[i]?=some (some v)/\Q v H
def tC (v:V):TE:=fun _ H Q=>Q v H
def zdX {i:Nat} {x:Str} {pos:Pos} (hN:X.N[i]?=some x) (hv:Vis X.env.scope x) (hd:(x==("__debug__" : Str))=false:=by decide) (hcd:(x==("__classdict__" : Str))=false:=by decide):PE X (.Name x pos) (zbE i):=by
 intro pins s U H Q I h
 obtain ⟨v,e,h⟩:=h
 obtain ⟨m,hn,hl⟩:=I.loc
 obtain ⟨u,r,l⟩:=hl i x v hN e hv
 have fin:EP X pins U Q u s:=⟨v,H,I,r,h⟩
 rcases l with ⟨hk,hm⟩|⟨hk,c,hc,hcell⟩
 ·exact wpAny_Name (wpAny_loadName_local I.ok.kind hk hn hm fin) hd
 ·rcases hk with hk|hk
  ·exact wpAny_Name (wpAny_loadName_cell I.ok.kind hk hc hcell fin) hd
  ·exact wpAny_Name (wpAny_loadName_free I.ok.kind hk hc hcell fin hcd) hd
def zhN {i j pos}:PE X (.Constant (.int i) j pos) (tC (.int i)):=fun _ _ _ H _ I h=>wpAny_Constant_int ⟨.int i,H,I.tok _,⟨_,rfl⟩,h⟩
def zhO {b j pos}:PE X (.Constant (.bool b) j pos) (tC (.bl b)):=fun _ _ _ H _ I h=>Constant_bool ⟨.bl b,H,I,rfl,h⟩
def zhP {j pos}:PE X (.Constant .none j pos) (tC .non):=fun _ _ _ H _ I h=>Constant_none ⟨.non,H,I,rfl,h⟩
def zhQ {x j pos}:PE X (.Constant (.str x) j pos) (tC (.str x)):=fun _ _ _ H _ I h=>Calls.Constant_str ⟨.str x,H,I.tok _,⟨_,rfl⟩,h⟩
def Gl (X:Cx) (x:Str):Prop:=X.env.kindOf x=some .globalImplicit
def zbF {E:Value->Shared->Prop}{pins:List (Addr×Obj)}{s:Shared}{U:St}{H:Hp}{x:Str}{u:Value}{pos:Pos}{Q:Value->Shared->Prop}(I:Inv X pins U H s) (hg:Gl X x) (hm:X.mg x=some u) (h:Q u s)
  (hd:(x==("__debug__" : Str))=false:=by decide):wpAny (model X.prog X.w) X.A (eval (.Name x pos) X.env) Q E s :=
 Calls.Name_function_global I.ok.kind hg (Calls.loadGlobal_global (by rw [I.ok.glob];exact I.mod.glob.keeps I.bk) hm h) hd
def za3 {E:Value->Shared->Prop}{pins:List (Addr×Obj)}{s:Shared}{U:St}{H:Hp}{x:Str}{u:Value}{pos:Pos}{Q:Value->Shared->Prop}(I:Inv X pins U H s) (hg:Gl X x) (hm:X.mg x=none) (hv:bootBuiltins x=some u) (h:Q u s)
  (hn:x ≠ "__name__" := by decide) (hd:(x==("__debug__" : Str))=false:=by decide):wpAny (model X.prog X.w) X.A (eval (.Name x pos) X.env) Q E s:=by
 obtain ⟨mb,h1,h2⟩:=I.mod.blt
 exact Calls.Name_function_global I.ok.kind hg (Calls.loadGlobal_builtin (by rw [I.ok.glob];exact I.mod.glob.keeps I.bk) hm (by rw [I.ok.blt];exact h1.keeps I.bk) ((h2 x hn).trans hv) h) hd
def zcC {x:Str} {v:V} {u:Value} {pos:Pos} (hg:Gl X x) (hm:X.mg x=some u) (r:RelV v u) (hd:(x==("__debug__" : Str))=false:=by decide):PE X (.Name x pos) (tC v) :=
 fun _ _ _ H _ I h=>zbF I hg hm ⟨v,H,I,r,h⟩ hd
def zhR {x:Str} {v:V} {u:Value} {pos:Pos} (hg:Gl X x) (hm:X.mg x=none) (hv:bootBuiltins x=some u) (r:RelV v u) (hn:x ≠ "__name__" := by decide) (hd:(x==("__debug__" : Str))=false:=by decide):PE X (.Name x pos) (tC v) :=
 fun _ _ _ H _ I h=>za3 I hg hm hv ⟨v,H,I,r,h⟩ hn hd
variable {a b:Expr}{ta tb:TE}{pos:Pos}
def tB (t:TE):TT:=fun U H Q=>t U H fun x H1=>∃c,x=.bl c/\Q c H1
def zhS {e:Expr}{t:TE}(h:PE X e t) (he:∀whole,isTrue e X.env whole=(do let v <-whole;standAt e.pos;holding [v] (truthy v)):=by intro _;rfl):PT X e (tB t):=by
 intro pins s U H Q I hw
 refine isTrue_plain (thn (h pins s U H _ I hw) fun v s1 ⟨x,H1,I1,r1,q1⟩=>?_) (he _)
 obtain ⟨d,rfl,q⟩:=q1
 cases r1
 exact zaa ⟨H1,I1,q⟩
variable {tA tB':TT}{rest:List Expr}
def zhT (t u:TT):TT:=fun U H Q=>t U H fun c H1=>if c=true then u U H1 Q else Q false H1
def tOr (t u:TT):TT:=fun U H Q=>t U H fun c H1=>if c=true then Q true H1 else u U H1 Q
def zhV (t:TT):TT:=fun U H Q=>t U H fun c H1=>Q (!c) H1
def zhW (ha:PT X a tA):PW X (.BoolOp .And [a] pos) tA:=by
 intro wh pins s U H Q I h
 refine isTrue_and (thn (ha pins s U H Q I h) fun c s1 e=>?_)
 cases c with
 | true=>exact isTrue_and_nil e
 | false=>exact e
def zhX (ha:PT X a tA):PW X (.BoolOp .Or [a] pos) tA:=by
 intro wh pins s U H Q I h
 refine isTrue_or (thn (ha pins s U H Q I h) fun c s1 e=>?_)
 cases c with
 | false=>exact isTrue_or_nil e
 | true=>exact e
def zhY (ha:PT X a tA) (hb:PW X (.BoolOp .And (b::rest) pos) tB'):PW X (.BoolOp .And (a::b::rest) pos) (zhT tA tB'):=by
 intro wh pins s U H Q I h
 refine isTrue_and (thn (ha pins s U H _ I h) fun c s1 ⟨H1,I1,q1⟩=>?_)
 cases c with
 | true=>exact hb wh pins s1 U H1 Q I1 q1
 | false=>exact ⟨H1,I1,q1⟩
def zhZ (ha:PT X a tA) (hb:PW X (.BoolOp .Or (b::rest) pos) tB'):PW X (.BoolOp .Or (a::b::rest) pos) (tOr tA tB'):=by
 intro wh pins s U H Q I h
 refine isTrue_or (thn (ha pins s U H _ I h) fun c s1 ⟨H1,I1,q1⟩=>?_)
 cases c with
 | true=>exact ⟨H1,I1,q1⟩
 | false=>exact hb wh pins s1 U H1 Q I1 q1
def zh0 (ha:PT X a tA):PT X (.UnaryOp .Not a pos) (zhV tA):=by
 intro pins s U H Q I h
 exact isTrue_not (ha pins s U H (fun c H1=>Q (!c) H1) I h)
def zh1 (ta tb:TE):TE:=fun U H Q=>ta U H fun x H1=>∃c,x=.bl c/\if c=true then tb U H1 Q else Q (.bl false) H1
def zh2 {op}{t:TE}(h:PE X a t):PE X (.BoolOp op [a] pos) t:=fun pins s U H Q I hw=>BoolOp_one (h pins s U H Q I hw)
def zh3 (ha:PE X a ta) (hb:PE X (.BoolOp .And (b::rest) pos) tb):PE X (.BoolOp .And (a::b::rest) pos) (zh1 ta tb):=by
 intro pins s U H Q I h
 refine BoolOp_and (thn (ha pins s U H _ I h) fun v s1 ⟨x,H1,I1,r1,q1⟩=>?_)
 obtain ⟨c,rfl,q1⟩:=q1
 cases r1
 refine zaa ?_
 cases c with
 | true=>exact hb pins s1 U H1 Q I1 q1
 | false=>exact ⟨.bl false,H1,I1,rfl,q1⟩
end
def SqL (K:PySem.W.Frag) (H:Hp) (a:Addr) (xs:List V):Prop :=
 Rd H a (.lst xs) \/
  ∃(o:Obj) (its:Array Value) (n:Nat),K.lookup a=some o/\o.cls=.type "list" /\ o.dict=none/\o.data=.seq its n/\its.size<=sizeLine/\Vals xs its.toList
def SqT (K:PySem.W.Frag) (H:Hp) (a:Addr) (xs:List V):Prop :=
 Rd H a (.tup xs) \/
  ∃(o:Obj) (its:Array Value) (n:Nat),K.lookup a=some o/\o.cls=.type "tuple" /\ o.data=.seq its n/\its.size<=sizeLine/\Vals xs its.toList
def absV:Value->Option V
 | .none=>some .non
 | .bool b=>some (.bl b)
 | .int i _=>some (.int i)
 | .str x _=>some (.str x)
 | .bytes b _=>some (.byt b)
 | .float b _=>some (.flt b)
 | .ref a=>some (.ref a)
 | .type n=>some (.ty n)
 | _=>none
def RelV.abs {x:V}{u:Value}(r:RelV x u):absV u=some x:=by
 cases x with
 | non=>cases r;rfl
 | bl _=>cases r;rfl
 | int _=>obtain ⟨t,rfl⟩:=r;rfl
 | str _=>obtain ⟨t,rfl⟩:=r;rfl
 | byt _=>obtain ⟨t,rfl⟩:=r;rfl
 | flt _=>obtain ⟨t,rfl⟩:=r;rfl
 | ref _=>cases r;rfl
 | ty _=>cases r;rfl
def RelV.inj {x y:V}{u:Value}(r:RelV x u) (q:RelV y u):x=y:=Option.some.inj (r.abs.symm.trans q.abs)
def Vals.inj:∀{xs ys:List V}{us:List Value},Vals xs us->Vals ys us->xs=ys
 | _,_,_,.nil,.nil=>rfl
 | _,_,_,.cons r t,.cons r' t'=>by rw [r.inj r',Vals.inj t t']
section
variable {X:Cx}{pins:List (Addr×Obj)}{U:St}{H:Hp}{s:Shared}{a:Addr}{xs ys:List V}
def SqL.of {K:PySem.W.Frag}(h:H a=some (.lst xs)):SqL K H a xs:=.inl (.inl h)
def SqT.of {K:PySem.W.Frag}(h:H a=some (.tup xs)):SqT K H a xs:=.inl (.inl h)
def Inv.list (I:Inv X pins U H s) (h:SqL X.K H a xs):∃its:List Value,Vals xs its/\PlainL s.heap a its.toArray/\xs.length<=sizeLine:=by
 rcases h with h|⟨o,its,n,hk,hc,hd,hs,hz,r⟩
 ·obtain ⟨z,its,n,r,e⟩:=h.ok I.hok
  exact ⟨its,r,⟨_,n,e,rfl,rfl,rfl⟩,z⟩
 ·refine ⟨its.toList,r,⟨o,n,I.kIn a o hk,hc,hd,by simpa using hs⟩,?_⟩
  have e:=r.length
  simp only [Array.length_toList] at e
  omega
def Inv.tuple (I:Inv X pins U H s) (h:SqT X.K H a xs):∃its:List Value,Vals xs its/\IsTup s.heap a its.toArray/\xs.length<=sizeLine:=by
 rcases h with h|⟨o,its,n,hk,hc,hs,hz,r⟩
 ·obtain ⟨z,its,r,p⟩:=h.ok I.hok
  exact ⟨its,r,p,z⟩
 ·refine ⟨its.toList,r,⟨o,I.kIn a o hk,hc,n,by simpa using hs⟩,?_⟩
  have e:=r.length
  simp only [Array.length_toList] at e
  omega
def Inv.list_inj (I:Inv X pins U H s) (h:SqL X.K H a xs) (h':SqL X.K H a ys):xs=ys:=by
 obtain ⟨its,r,⟨o,n,e,_,_,d⟩,_⟩:=I.list h
 obtain ⟨its',r',⟨o',n',e',_,_,d'⟩,_⟩:=I.list h'
 rw [e] at e';cases e'
 rw [d] at d'
 injection d' with d1 _
 have:its=its':=by simpa using congrArg Array.toList d1
 subst this
 exact r.inj r'
def Inv.tuple_inj (I:Inv X pins U H s) (h:SqT X.K H a xs) (h':SqT X.K H a ys):xs=ys:=by
 obtain ⟨its,r,⟨o,e,_,n,d⟩,_⟩:=I.tuple h
 obtain ⟨its',r',⟨o',e',_,n',d'⟩,_⟩:=I.tuple h'
 rw [e] at e';cases e'
 rw [d] at d'
 injection d' with d1 _
 have:its=its':=by simpa using congrArg Array.toList d1
 subst this
 exact r.inj r'
end
abbrev Cx.wish (X:Cx) (E:Value->Shared->Prop):Cx:={ X with xe:=E }
abbrev Cx.nox (X:Cx):Cx:=X.wish fun _ _=>False
def Cx.Ok.wish {X:Cx}(ok:X.Ok) (E:Value->Shared->Prop):(X.wish E).Ok :=
 ⟨ok.mod,ok.kind,ok.glob,ok.blt,ok.above,ok.inj,ok.has,ok.cab,ok.hd,ok.frames,ok.stk,ok.exf,ok.bs,ok.bsz,ok.noex,ok.exfs,ok.funs,ok.frf⟩
def Cx.Ok.unwish {X:Cx}{E:Value->Shared->Prop}(ok:(X.wish E).Ok):X.Ok :=
 ⟨ok.mod,ok.kind,ok.glob,ok.blt,ok.above,ok.inj,ok.has,ok.cab,ok.hd,ok.frames,ok.stk,ok.exf,ok.bs,ok.bsz,ok.noex,ok.exfs,ok.funs,ok.frf⟩
section
variable {X:Cx}{pins:List (Addr×Obj)}{U:St}{H:Hp}{s:Shared}{E:Value->Shared->Prop}
def Inv.wish (I:Inv X pins U H s) (E:Value->Shared->Prop):Inv (X.wish E) pins U H s:=⟨I.ok.wish E,I.os,I.bare,I.base,I.loc,I.cell,I.free,I.freeC,I.pin,I.hok,I.len⟩
def Inv.unwish (I:Inv (X.wish E) pins U H s):Inv X pins U H s:=⟨I.ok.unwish,I.os,I.bare,I.base,I.loc,I.cell,I.free,I.freeC,I.pin,I.hok,I.len⟩
def SP.unwish {D:Ends}{f:Flow}{s':Shared}(h:SP (X.wish E) pins D f s'):SP X pins D f s':=by
 cases f with
 | next=>obtain ⟨ai,H',I,q⟩:=h;exact ⟨ai,H',I.unwish,q⟩
 | brk=>obtain ⟨ai,H',I,q⟩:=h;exact ⟨ai,H',I.unwish,q⟩
 | cont=>obtain ⟨ai,H',I,q⟩:=h;exact ⟨ai,H',I.unwish,q⟩
 | ret u=>obtain ⟨v,ai,H',I,r,q⟩:=h;exact ⟨v,ai,H',I.unwish,r,q⟩
def PE.nox {e:Expr}{t:TE}(h:PE X.nox e t):PE X e t:=fun pins s U H Q I hw =>
 y9 (h pins s U H Q (I.wish _) hw) (fun _ _ ⟨v,H',I',r,q⟩=>⟨v,H',I'.unwish,r,q⟩) fun _ _ z=>z.elim
end
section
variable {X:Cx}{st:Stmt}{rest:List Stmt}{t u:TS}{e:Expr}{te:TE}{pos:Pos}
def zh4:TS:=fun D U H=>D.nx U H
def zh5 (t u:TS):TS:=fun D U H=>t { D with nx:=u D } U H
def zh6:PSs X [] zh4:=fun _ _ U H _ I h=>wpAny_execs_nil ⟨U,H,I,h⟩
def zh7 (h1:PS X st t) (h2:PSs X rest u):PSs X (st::rest) (zh5 t u):=by
 intro pins s U H D I h
 refine wpAny_execs_cons (thn (h1 pins s U H { D with nx:=u D } I h) fun f s1 q=>?_)
 cases f with
 | next =>
  obtain ⟨ai,H',I',q⟩:=q
  exact h2 pins s1 ai H' D I' q
 | ret v=>exact q
 | brk=>exact q
 | cont=>exact q
def zdY (h1:PS X st t):PSs X [st] t:=by
 intro pins s U H D I h
 refine wpAny_execs_cons (thn (h1 pins s U H D I h) fun f s1 q=>?_)
 cases f with
 | next=>exact wpAny_execs_nil q
 | ret v=>exact q
 | brk=>exact q
 | cont=>exact q
def Inv.quiet {pins:List (Addr×Obj)}{U:St}{H:Hp}{s:Shared}(I:Inv X pins U H s):interactive X.env=false:=by simp [interactive,I.ok.kind]
def zh8 (te:TE):TS:=fun D U H=>te U H fun _ H1=>D.nx U H1
def zh9 (he:PE X e te) (hs:swapsWith e none pos.line X.env=pure false:=by rfl):PS X (.Expr e pos) (zh8 te):=by
 intro pins s U H D I h
 exact wpAny_Expr_any (thn (he pins s U H _ I h) fun v s1 ⟨x,H1,I1,r1,q1⟩=>⟨U,H1,I1,q1⟩) I.quiet hs
def zia (te:TE):TS:=fun D U H=>te U H D.rt
def zib (he:PE X e te):PS X (.Return (some e) pos) (zia te):=by
 intro pins s U H D I h
 exact wpAny_Return_some (thn (he pins s U H _ I h) fun v s1 ⟨x,H1,I1,r1,q1⟩=>⟨x,U,H1,I1,r1,q1⟩)
def zic (c:TT) (t u:TS):TS:=fun D U H=>c U H fun b H1=>if b=true then t D U H1 else u D U H1
def zid {c:Expr}{a b:List Stmt}{tc:TT}(hc:PT X c tc) (ha:PSs X a t) (hb:PSs X b u):PS X (.If c a b pos) (zic tc t u):=by
 intro pins s U H D I h
 refine wpAny_If (thn (hc pins s U H _ I h) fun d s1 ⟨H1,I1,q1⟩=>?_)
 cases d with
 | true=>exact ha pins s1 U H1 D I1 q1
 | false=>exact hb pins s1 U H1 D I1 q1
def zie:TS:=fun _ _ _=>False
def zif {sts:List Stmt}:PSs X sts zie:=fun _ _ _ _ _ _ h=>h.elim
end
abbrev TG:=V->St->Hp->(St->Hp->Prop)->Prop
abbrev TGs:=List V->St->Hp->(St->Hp->Prop)->Prop
def PG (X:Cx) (target:Expr) (t:TG):Prop :=
 ∀(pins:List (Addr×Obj)) (s:Shared) (U:St) (H:Hp) (v:V) (u:Value) (Q:St->Hp->Prop),Inv X pins U H s->RelV v u->t v U H Q ->
  wpAny (model X.prog X.w) X.A (assign target X.env u) (fun _ s'=>∃ai H',Inv X pins ai H' s'/\Q ai H') X.xe s
def PGs (X:Cx) (ts:List Expr) (t:TGs):Prop :=
 ∀(pins:List (Addr×Obj)) (s:Shared) (U:St) (H:Hp) (vs:List V) (us:List Value) (Q:St->Hp->Prop),Inv X pins U H s->Vals vs us->t vs U H Q ->
  wpAny (model X.prog X.w) X.A (assignInOrder ((assignEach ts X.env).map (·.2)) us) (fun _ s'=>∃ai H',Inv X pins ai H' s'/\Q ai H') X.xe s
abbrev TSet:=V->V->V->Hp->(Hp->Prop)->Prop
def PSet (X:Cx) (t:TSet):Prop :=
 ∀(pins:List (Addr×Obj)) (s:Shared) (U:St) (H:Hp) (o i v:V) (ov iv u:Value) (Q:Hp->Prop),Inv X pins U H s->RelV o ov->RelV i iv->RelV v u->t o i v H Q ->
  wpAny (model X.prog X.w) X.A (setItem ov iv u) (fun _ s'=>∃H',Inv X pins U H' s'/\Q H') X.xe s
section
variable {X:Cx}{pos:Pos}
def wu (i:Nat):TG:=fun v U H Q=>Q (U.set i (some v)) H
def zae {i:Nat}{x:Str}(hN:X.N.Nodup) (hi:X.N[i]?=some x) (hx:Loc X.env.scope x) (hf:X.fn x=true\/X.env.scope.names.lookup x=some .local:=by first|exact .inl rfl|exact .inr rfl|assumption):PG X (.Name x pos) (wu i):=by
 intro pins s U H v u Q I r h
 exact wpAny_assign_Name (zbD I hN hi hx r (fun s' I'=>⟨_,H,I',h⟩) hf)
def zig:TGs:=fun vs U H Q=>vs=[]/\Q U H
def zih (t:TG) (u:TGs):TGs:=fun vs U H Q=>∃v r,vs=v::r/\t v U H fun ai H'=>u r ai H' Q
def zii:PGs X [] zig:=by
 intro pins s U H vs us Q I r h
 obtain ⟨e,h⟩:=h
 subst e
 cases r
 exact assignInOrder_nil ⟨U,H,I,h⟩
def zdZ {e:Expr}{es:List Expr}{t:TG}{u:TGs}(h1:PG X e t) (h2:PGs X es u)
  (hs:(assignEach (e::es) X.env).map (·.2)=assign e X.env::(assignEach es X.env).map (·.2):=by rfl):PGs X (e::es) (zih t u):=by
 intro pins s U H vs us Q I r h
 obtain ⟨v,vr,e1,h⟩:=h
 subst e1
 cases r with
 | cons r rr =>
  rw [hs]
  refine assignInOrder_cons (thn (h1 pins s U H _ _ _ I r h) fun _ s1 ⟨au,H1,I1,q1⟩=>?_)
  exact h2 pins s1 au H1 _ _ Q I1 rr q1
def zij (K:PySem.W.Frag) (n:Nat) (t:TGs):TG:=fun v U H Q=>∃a xs,v=.ref a/\SqT K H a xs/\xs.length=n/\t xs U H Q
def zik {es:List Expr}{k:Nat}{t:TGs}{n:Nat}(hc:X.calm=true) (h:PGs X es t)
  (hn:(assignEach es X.env).length=n:=by rfl) (hst:(assignEach es X.env).findIdx? (·.1)=none:=by rfl):PG X (.Tuple es k pos) (zij X.K n t):=by
 intro pins s U H v u Q I r hw
 obtain ⟨a,xs,e1,hq,hl,hw⟩:=hw
 subst e1
 cases r
 obtain ⟨its,rv,ht,hz⟩:=I.tuple hq
 refine assign_Tuple_tuple (I.ok.hd hc) ht (by simp [hn,<-hl,rv.length]) hst fun h' hx=>?_
 have I1:Inv X pins U H { s with heap:=h' }:=I.kept (t':=s.toks) fun b o e=>hx b o (yz (ym e)) e
 exact h pins _ U H xs _ Q I1 (by simpa using rv) hw
def zil (to ti:TE) (t:TSet):TG:=fun v U H Q=>to U H fun o H1=>ti U H1 fun i H2=>t o i v H2 fun H3=>Q U H3
def zim {o i:Expr}{to ti:TE}{t:TSet}(ho:PE X o to) (hi:PE X i ti) (hs:PSet X t)
  (ha:∀v,assign (.Subscript o i pos) X.env v=(do
   let ov <-holding [v] (eval o X.env)
   let iv <-holding [v,ov] (eval i X.env)
   standAt pos
   holding [v,ov,iv] (setItem ov iv v)
   release [v,ov,iv] []):=by intro _;rfl):PG X (.Subscript o i pos) (zil to ti t):=by
 intro pins s U H v u Q I r h
 rw [ha]
 refine zt (jp (thn (ho pins s U H _ I h) fun ov s1 ⟨x,H1,I1,r1,q1⟩=>?_))
 refine zt (jp (thn (hi pins s1 U H1 _ I1 q1) fun iv s2 ⟨y,H2,I2,r2,q2⟩=>?_))
 refine zt (wpAny_standAt (zt (jp (thn (hs pins s2 U H2 x y v ov iv u _ I2 r1 r2 r q2) fun _ s3 ⟨H3,I3,q3⟩=>?_))))
 exact wpAny_release ⟨U,H3,I3,q3⟩
def zd0 (te:TE) (g:TG):TS:=fun D U H=>te U H fun x H1=>g x U H1 D.nx
def zd1 {tg e:Expr}{te:TE}{g:TG}(he:PE X e te) (hg:PG X tg g) (hs:swapsWithSole [tg] e pos.line X.env=pure false:=by rfl) (hw:swappedStores [tg] e X.env=pure none:=by rfl)
  (h1:(assignEach [tg] X.env).map (·.2)=[assign tg X.env]:=by rfl):PS X (.Assign [tg] e pos) (zd0 te g):=by
 intro pins s U H D I h
 refine wpAny_Assign_stores (thn (he pins s U H _ I h) fun v s1 ⟨x,H1,I1,r1,q1⟩=>?_) hs hw
 rw [h1]
 exact thn (hg pins s1 U H1 x v _ I1 r1 q1) fun _ s2 q=>q
def zin {i:Nat}{x:Str}{e:Expr}{te:TE}{pos':Pos}(hN:X.N.Nodup) (hi:X.N[i]?=some x) (hx:Loc X.env.scope x) (he:PE X e te) (hs:swapsWith e (some (.Name x pos')) pos.line X.env=pure false:=by rfl) (hf:X.fn x=true\/X.env.scope.names.lookup x=some .local:=by first|exact .inl rfl|exact .inr rfl|assumption) :
  PS X (.Assign [.Name x pos'] e pos) (zd0 te (wu i)):=by
 intro pins s U H D I h
 refine wpAny_Assign_Name (thn (he pins s U H _ I h) fun v s1 ⟨y,H1,I1,r1,q1⟩=>?_) hs
 exact zbD I1 hN hi hx r1 (fun s2 I2=>⟨_,H1,I2,q1⟩) hf
def zio (c:TT) (tb:TS):TS:=fun D U H=>∃W:Nat->St->Hp->Prop,(∃m,W m U H)/\∀m U H,W m U H ->
 c U H fun b H1=>if b=true then ∃N:St->Hp->Prop,(∀ai H',N ai H'->∃m',m'<m/\W m' ai H')/\tb { D with nx:=N,ct:=N,bk:=D.nx } U H1 else D.nx U H1
def ziq {c:Expr}{body:List Stmt}{tc:TT}{tb:TS}(hp:PassesOwn (model X.prog X.w) X.A X.env X.xe) (hc:PT X c tc) (hb:PSs X body tb):PS X (.While c body [] pos) (zio tc tb):=by
 intro pins s U H D I h
 obtain ⟨W,⟨m0,w0⟩,turn⟩:=h
 refine wpAny_While (codeAny_whileLoop (fun n s'=>∃ai H',Inv X pins ai H' s'/\W n ai H') ?_ m0 ⟨U,H,I,w0⟩)
 rintro n s1 ⟨au,H1,I1,w1⟩
 refine wpAny_passesOwn hp (thn (hc pins s1 au H1 _ I1 (turn n au H1 w1)) fun b s2 ⟨H2,I2,q2⟩=>?_)
 cases b with
 | true =>
  obtain ⟨N,hN,q2⟩:=q2
  rw [zE rfl]
  refine wpAny_passesOwn hp (thn (hb pins s2 au H2 _ I2 q2) fun f s3 q3=>?_)
  cases f with
  | next =>
   obtain ⟨aw,H3,I3,n3⟩:=q3
   obtain ⟨m',hm,w3⟩:=hN aw H3 n3
   exact ⟨m',hm,aw,H3,I3,w3⟩
  | cont =>
   obtain ⟨aw,H3,I3,n3⟩:=q3
   obtain ⟨m',hm,w3⟩:=hN aw H3 n3
   exact ⟨m',hm,aw,H3,I3,w3⟩
  | brk=>exact q3
  | ret v=>exact q3
 | false =>
  rw [zN Bool.false_ne_true]
  exact wpAny_execs_nil ⟨au,H2,I2,q2⟩
end
structure It where
 go:Nat->Hp->Prop
 yld:Nat->Hp->V->Hp->Prop
 stop:Nat->Hp->Prop
def FpOk (X:Cx) (pins:List (Addr×Obj)) (H:Hp) (b:Addr):Prop :=
 H b=none/\b≠X.env.locals/\b∉X.fs/\(b∈X.ex\/X.s₀.heap.objs.size<=b)/\(∀x c,X.env.cells.lookup x=some c->c≠b)/\∀p∈X.pn++pins,p.1≠b
def Inv.fpOk {X:Cx}{pins:List (Addr×Obj)}{U:St}{H H':Hp}{s:Shared}{b:Addr}(I:Inv X pins U H s) (hb:s.heap.objs.size<=b) (hn:H' b=none):FpOk X pins H' b:=by
 refine ⟨hn,Nat.ne_of_gt (jb I.lt hb),I.nofs hb,.inr (yT I.sz hb),fun x c e z=>?_,fun p hp z=>?_⟩
 ·obtain ⟨v,q⟩:=I.cell x c e
  exact absurd (jb q.lt (by rw [z];exact hb)) (Nat.lt_irrefl _)
 ·exact absurd (jb (ym (I.pin p hp).1) (by rw [z];exact hb)) (Nat.lt_irrefl _)
structure Turn (P:Program) (w:World) (K:PySem.W.Frag) (tg:Expr) (J:It) (fp:List Addr) (it:Addr) (tn:Nat->Heap->Prop):Prop where
 mem:it∈fp
 obj:∀i h,tn i h->∀b∈fp,∃o,h.get? b=some o/\∀v,o.data ≠ .cell v
 keep:∀i h h',tn i h->(∀b∈fp,∀o,h.get? b=some o->h'.get? b=some o)->tn i h'
 item:∀(X:Cx),X.prog=P->X.w=w->X.K=K->X.calm=true->∀(i:Nat) (pins:List (Addr×Obj)) (s:Shared) (U:St) (H:Hp) (E:Value->Shared->Prop),Inv X pins U H s->(∀b∈fp,FpOk X pins H b)->tn i s.heap->J.go i H ->
  wpAny (model P w) X.A (pyNext (.ref it)) (fun r s1=>∃u,r=some u /\
   wpAny (model P w) X.A (letOwnedTupleGo tg (.ref it) u) (fun _ s2=>∃x H',Inv X pins U H' s2/\RelV x u/\J.yld i H x H'/\tn (i+1) s2.heap/\∀b∈fp,H' b=none) E s1) E s
 done:∀(X:Cx),X.prog=P->X.w=w->X.K=K->X.calm=true->∀(i:Nat) (pins:List (Addr×Obj)) (s:Shared) (U:St) (H:Hp) (E:Value->Shared->Prop),Inv X pins U H s->(∀b∈fp,FpOk X pins H b)->tn i s.heap->J.stop i H ->
  wpAny (model P w) X.A (pyNext (.ref it)) (fun r s1=>r=none/\Inv X pins U H s1) E s
 self:∀(A:Around) (i:Nat) (s:Shared) (Q:Value->Shared->Prop) (E:Value->Shared->Prop),tn i s.heap->Q (.ref it) s->wpAny (model P w) A (pyIter (.ref it)) Q E s
abbrev TI:=St->Hp->(It->Hp->Prop)->Prop
def PIE (X:Cx) (pins:List (Addr×Obj)) (U:St) (tg:Expr) (R:It->Hp->Prop) (itv:Value) (s2:Shared):Prop :=
 ∃(it:Addr) (fp:List Addr) (tn:Nat->Heap->Prop) (J:It) (H':Hp),itv=.ref it/\Inv X pins U H' s2/\Turn X.prog X.w X.K tg J fp it tn/\tn 0 s2.heap/\(∀b∈fp,FpOk X pins H' b)/\R J H'
def PI (X:Cx) (tg iter:Expr) (wi:TI):Prop :=
 ∀(pins:List (Addr×Obj)) (s:Shared) (U:St) (H:Hp) (R:It->Hp->Prop),Inv X pins U H s->wi U H R ->
  wpAny (model X.prog X.w) X.A (eval iter X.env) (fun v s1=>wpAny (model X.prog X.w) X.A (pyIter v) (PIE X pins U tg R) X.xe s1) X.xe s
def zbG {M:Model}{A:Around}{E:Value->Shared->Prop}{s:Shared}{tg:Expr}{it:Addr}{u:Value}{o:Obj}{n:String}{vs:Array Value}{Q:Unit->Shared->Prop}(ho:s.heap.get? it=some o) (hc:o.cls=.type n) (hd:o.data=.fields vs)
  (hn:["enumerate", "zip", "dict_itemiterator", "dict_reverseitemiterator", "odict_iterator", "itertools.zip_longest", "itertools.pairwise"].contains n=false) (hQ:Q () s):wpAny M A (letOwnedTupleGo tg (.ref it) u) Q E s:=by
 unfold letOwnedTupleGo
 cases tg<;>first
  | exact zM hQ
  | (cases u<;>first
    | exact zM hQ
    | (refine zt (wpAny_load ho ?_)
       rw [hc,hd]
       show wpAny M A (if (["enumerate", "zip", "dict_itemiterator", "dict_reverseitemiterator", "odict_iterator", "itertools.zip_longest", "itertools.pairwise"].contains n&&vs[0]?==some (rawInt _))=true then _ else _) Q E s
       rw [zN (by intro h;rw [hn,Bool.false_and] at h;cases h)]
       exact zM hQ))
def Itl (K:PySem.W.Frag) (a:Addr):It :=
 ⟨fun i H=>∃xs x,SqL K H a xs/\xs[i]?=some x,fun i H x H'=>H'=H/\∀xs,SqL K H a xs->xs[i]?=some x,fun i H=>∃xs,SqL K H a xs/\xs.length<=i⟩
def Itt (K:PySem.W.Frag) (a:Addr):It :=
 ⟨fun i H=>∃xs x,SqT K H a xs/\xs[i]?=some x,fun i H x H'=>H'=H/\∀xs,SqT K H a xs->xs[i]?=some x,fun i H=>∃xs,SqT K H a xs/\xs.length<=i⟩
def Itr (lo:Int) (n:Nat):It:=⟨fun i _=>i<n,fun i H x H'=>H'=H/\x=.int (lo+i),fun i _=>n<=i⟩
def zir {P:Program}{w:World}{K:PySem.W.Frag}{tg:Expr}(a it:Addr):Turn P w K tg (Itl K a) [it] it (fun i h=>h.IsListIter it a i) where
 mem:=by simp
 obj:=fun i h st b hb=>by
  have e:b=it:=by simpa using hb
  subst e
  obtain ⟨o,e,c,d⟩:=st
  exact ⟨o,e,fun v z=>by rw [d] at z;cases z⟩
 keep:=fun i h h' st k=>st.at fun o e=>k it (by simp) o e
 item:=by
  intro X hP hw hK hc i pins s U H E I hf st hg
  subst hP hw hK
  obtain ⟨xs,x,hq,hx⟩:=hg
  obtain ⟨its,rv,p,hz⟩:=I.list hq
  obtain ⟨u,hu,ru⟩:=rv.get hx
  obtain ⟨f0,f1,f2,f3,f4,f5⟩:=hf it (by simp)
  refine wpAny_pyNext_list_item st p.isList (x:=u) (by simpa using hu) fun h' st' sb=>?_
  have I1:Inv X pins U H { s with heap:=h' }:=I.turned (t':=s.toks) (fun b o hb e=>(sb.2 b hb).trans e) f0 f1 f3 f4 f5
  obtain ⟨o,e,c,d⟩:=id st'
  exact ⟨u,rfl,zbG (s:={ s with heap:=h' }) e c d (by decide) ⟨x,H,I1,ru,⟨rfl,fun ys hy=>by rw [I.list_inj hy hq];exact hx⟩,st',fun b hb=>(hf b hb).1⟩⟩
 done:=by
  intro X hP hw hK hc i pins s U H E I hf st hg
  subst hP hw hK
  obtain ⟨xs,hq,hx⟩:=hg
  obtain ⟨its,rv,p,hz⟩:=I.list hq
  obtain ⟨f0,f1,f2,f3,f4,f5⟩:=hf it (by simp)
  have hl:=rv.length
  exact wpAny_pyNext_list_end (I.ok.hd hc) st p.isList (by simp;omega) fun h' eb=>⟨rfl,I.turned (t':=s.toks) (fun b o hb e=>eb b o hb e) f0 f1 f3 f4 f5⟩
 self:=fun _ _ _ _ _ st h=>wpAny_pyIter_listiter st h
def zis {P:Program}{w:World}{K:PySem.W.Frag}{tg:Expr}(a it:Addr):Turn P w K tg (Itt K a) [it] it (fun i h=>h.IsTupleIter it a i) where
 mem:=by simp
 obj:=fun i h st b hb=>by
  have e:b=it:=by simpa using hb
  subst e
  obtain ⟨o,e,c,d⟩:=st
  exact ⟨o,e,fun v z=>by rw [d] at z;cases z⟩
 keep:=fun i h h' st k=>st.at fun o e=>k it (by simp) o e
 item:=by
  intro X hP hw hK hc i pins s U H E I hf st hg
  subst hP hw hK
  obtain ⟨xs,x,hq,hx⟩:=hg
  obtain ⟨its,rv,p,hz⟩:=I.tuple hq
  obtain ⟨u,hu,ru⟩:=rv.get hx
  obtain ⟨f0,f1,f2,f3,f4,f5⟩:=hf it (by simp)
  refine wpAny_pyNext_tuple_item st (show s.heap.IsTuple a its.toArray from p) (x:=u) (by simpa using hu) fun h' st' sb=>?_
  have I1:Inv X pins U H { s with heap:=h' }:=I.turned (t':=s.toks) (fun b o hb e=>(sb.2 b hb).trans e) f0 f1 f3 f4 f5
  obtain ⟨o,e,c,d⟩:=id st'
  exact ⟨u,rfl,zbG (s:={ s with heap:=h' }) e c d (by decide) ⟨x,H,I1,ru,⟨rfl,fun ys hy=>by rw [I.tuple_inj hy hq];exact hx⟩,st',fun b hb=>(hf b hb).1⟩⟩
 done:=by
  intro X hP hw hK hc i pins s U H E I hf st hg
  subst hP hw hK
  obtain ⟨xs,hq,hx⟩:=hg
  obtain ⟨its,rv,p,hz⟩:=I.tuple hq
  obtain ⟨f0,f1,f2,f3,f4,f5⟩:=hf it (by simp)
  have hl:=rv.length
  exact wpAny_pyNext_tuple_end (I.ok.hd hc) st (show s.heap.IsTuple a its.toArray from p) (by simp;omega) fun h' eb=>⟨rfl,I.turned (t':=s.toks) (fun b o hb e=>eb b o hb e) f0 f1 f3 f4 f5⟩
 self:=fun _ _ _ _ _ st h=>wpAny_pyIter_tupleiter st h
def zit {P:Program}{w:World}{K:PySem.W.Frag}{tg:Expr}(it:Addr) (lo:Int) (n:Nat):Turn P w K tg (Itr lo n) [it] it (fun i h=>IsRangeIter h it (lo+(i:Nat)*1) ((n:Int)-(i:Nat)) 1) where
 mem:=by simp
 obj:=fun i h st b hb=>by
  have e:b=it:=by simpa using hb
  subst e
  exact ⟨_,st,fun v z=>by
   have z':Data.fields _=Data.cell v:=z
   cases z'⟩
 keep:=fun i h h' st k=>k it (by simp) _ st
 item:=by
  intro X hP hw hK hc i pins s U H E I hf st hg
  subst hP hw hK
  obtain ⟨f0,f1,f2,f3,f4,f5⟩:=hf it (by simp)
  have W:=Walks.range (prog:=X.prog) (w:=X.w) (I.ok.hd hc) it lo 1 n
  refine W.item i s _ _ hg st fun v h' tk hv st' kk=>?_
  obtain ⟨t,rfl⟩:=hv
  have I1:Inv X pins U H { s with heap:=h',toks:=tk }:=I.turned (fun b o hb e=>kk b o (by simpa using hb) e) f0 f1 f3 f4 f5
  refine ⟨_,rfl,zbG (s:={ s with heap:=h',toks:=tk }) (n := "range_iterator") st' rfl rfl (by decide) ⟨.int (lo+i),H,I1,⟨t,?_⟩,⟨rfl,rfl⟩,st',fun b hb=>(hf b hb).1⟩⟩
  rw [Int.mul_one]
 done:=by
  intro X hP hw hK hc i pins s U H E I hf st hg
  subst hP hw hK
  obtain ⟨f0,f1,f2,f3,f4,f5⟩:=hf it (by simp)
  exact wpAny_pyNext_range_end (I.ok.hd hc) st (by have:n<=i:=hg;omega) fun h' eb=>⟨rfl,I.turned (t':=s.toks) (fun b o hb e=>eb b o hb e) f0 f1 f3 f4 f5⟩
 self:=fun _ _ _ _ _ st h=>wpAny_pyIter_rangeiter st h
section
variable {X:Cx}{tg:Expr}
def ziu {pins:List (Addr×Obj)}{U:St}{H:Hp}{s:Shared}{R:It->Hp->Prop}{E:Value->Shared->Prop}{lo hi:Int}{t u v:Tok}{tk:Nat}(I:Inv X pins U H s) (h1 : -(2 ^ 62)<=lo) (h2:lo<2 ^ 62) (h3 : -(2 ^ 62)<=hi) (h4:hi<2 ^ 62)
  (q:R (Itr lo (hi-lo).toNat) H):wpAny (model X.prog X.w) X.A (pyIter (.ref s.heap.objs.size)) (PIE X pins U tg R) E { s with heap:=s.heap.push { cls:=.type "range", data:=.fields #[.int lo t,.int hi u,.int 1 v] },toks:=tk }:=by
 refine wpAny_pyIter_range (IsRange.new ..) (small_one h1 h2 h3 h4) ?_
 have I1:Inv X pins U H { s with heap:=s.heap.push { cls:=.type "range", data:=.fields #[.int lo t,.int hi u,.int 1 v] },toks:=tk }:=I.kept fun b o e=>yo _ e
 refine ⟨(s.heap.push { cls:=.type "range", data:=.fields #[.int lo t,.int hi u,.int 1 v] }).objs.size,[(s.heap.push { cls:=.type "range", data:=.fields #[.int lo t,.int hi u,.int 1 v] }).objs.size],_,_,H,rfl,
  I1.kept (t':=tk) fun b o e=>yo _ e,zit _ lo (hi-lo).toNat,?_,fun b hb=>?_,q⟩
 ·have e1:lo+((0:Nat):Int)*1=lo:=by simp
  have e2:(((hi-lo).toNat:Nat):Int)-((0:Nat):Int)=Builtin.Range.rangeSize lo hi 1:=by rw [rangeSize_one];split<;>omega
  show IsRangeIter _ _ (lo+((0:Nat):Int)*1) ((((hi-lo).toNat:Nat):Int)-((0:Nat):Int)) 1
  rw [e1,e2]
  exact y8 _ rfl
 ·have e:b=(s.heap.push { cls:=.type "range", data:=.fields #[.int lo t,.int hi u,.int 1 v] }).objs.size:=by simpa using hb
  subst e
  exact I1.fpOk (yg _) (I1.hok.fresh (yg _))
def iRng1 (ta:TA):TI:=fun U H R=>ta U H fun vs H1=>∃j:Int,vs=[.int j] /\ -(2 ^ 62)<=j/\j<2 ^ 62/\R (Itr 0 j.toNat) H1
def iRng2 (ta:TA):TI:=fun U H R=>ta U H fun vs H1=>∃i j:Int,vs=[.int i,.int j]/\(-(2 ^ 62)<=i/\i<2 ^ 62 /\ -(2 ^ 62)<=j/\j<2 ^ 62)/\R (Itr i (j-i).toNat) H1
def ziv {a:Expr} {ta:TA} {p pos:Pos} (hg:Gl X "range") (hm:X.mg "range" = none) (ha:PA X [a] ta) (hs:starEach [a] X.env=[(false,eval a X.env)]:=by rfl):PI X tg (.Call (.Name "range" p) [a] [] pos) (iRng1 ta):=by
 intro pins s U H R I h
 refine Call_ (za3 I hg hm boot_range (PyProof.Rows.callWith_type1 (thn (ha pos pins s U H _ I h) fun us s1 ⟨vs,H1,I1,r1,q1⟩=>?_) hs rfl))
 obtain ⟨j,e,q1,q2,q⟩:=q1
 subst e
 cases r1 with
 | cons r rr =>
  cases rr
  obtain ⟨t,rfl⟩:=r
  exact call_range_1 (ziu I1 (by omega) (by omega) q1 q2 (by simpa using q))
def ziw (wi:TI) (g:TG) (tb:TS):TS:=fun D U H=>wi U H fun J H1=>∃W:Nat->Nat->St->Hp->Prop,(∃m,W 0 m U H1)/\∀i m U H,W i m U H ->
 (J.stop i H/\D.nx U H)\/(J.go i H/\∃N:St->Hp->Prop,(∀ai H',N ai H'->∃m',m'<m/\W (i+1) m' ai H')/\∀x H',J.yld i H x H'->g x U H' fun aB H2=>tb { D with nx:=N,ct:=N,bk:=D.nx } aB H2)
def pinsAt (fp:List Addr) (h:Heap):List (Addr×Obj):=fp.filterMap fun b=>(h.get? b).map fun o=>(b,o)
def zaf {fp:List Addr}{h:Heap}{b:Addr}{o:Obj}(hb:b∈fp) (e:h.get? b=some o):(b,o)∈pinsAt fp h:=List.mem_filterMap.mpr ⟨b,hb,by rw [e];rfl⟩
def zix {fp:List Addr}{h:Heap}{p:Addr×Obj}(hp:p∈pinsAt fp h):p.1∈fp/\h.get? p.1=some p.2:=by
 obtain ⟨b,hb,e⟩:=List.mem_filterMap.mp hp
 cases q:h.get? b with
 | none=>rw [q] at e;cases e
 | some o =>
  rw [q] at e
  have e':(b,o)=p:=Option.some.inj e
  subst e'
  exact ⟨hb,q⟩
def Inv.pinned {pins:List (Addr×Obj)}{U:St}{H:Hp}{s:Shared}{fp:List Addr}(I:Inv X pins U H s) (hf:∀b∈fp,FpOk X pins H b) (ho:∀b∈fp,∃o,s.heap.get? b=some o/\∀v,o.data ≠ .cell v):Inv X (pins++pinsAt fp s.heap) U H s :=
 I.pins_of fun p hp=>(jv.mp hp).elim (fun z=>I.pin p (yq _ z)) fun z=>by
  obtain ⟨hb,e⟩:=zix z
  obtain ⟨f0,f1,f2,_⟩:=hf p.1 hb
  obtain ⟨o,e',d⟩:=ho p.1 hb
  rw [e] at e';cases e'
  exact ⟨e,f0,f1,f2,d⟩
def Inv.unpinned {pins pl:List (Addr×Obj)}{U:St}{H:Hp}{s:Shared}(I:Inv X (pins++pl) U H s):Inv X pins U H s:=I.pins_of fun p hp=>I.pin p (yq _ (jW _ hp))
def zd2 {iter:Expr}{body:List Stmt}{wi:TI}{g:TG}{tb:TS}{pos:Pos}(hp:PassesOwn (model X.prog X.w) X.A X.env X.xe) (hc:X.calm=true) (hi:PI X tg iter wi) (hg:PG X tg g) (hb:PSs X body tb)
  (hs:∀x,foldedSetIterable iter X.env x=pure x:=by intro _;rfl):PS X (.For tg iter body [] pos) (ziw wi g tb):=by
 intro pins s U H D I h
 refine wpAny_For (thn (hi pins s U H _ I h) fun v s1 h1=>thn h1 fun itv s2 h2=>?_) hs
 obtain ⟨it,fp,tn,J,H2,e,I2,T,st2,f2,W,⟨m0,w0⟩,turn⟩:=h2
 subst e
 have stat:∀{H':Hp},(∀b∈fp,H' b=none)->∀b∈fp,FpOk X pins H' b:=fun hn b hb=>⟨hn b hb,(f2 b hb).2⟩
 refine codeAny_forLoop_any (fun n s'=>∃i ai H',Inv X pins ai H' s'/\tn i s'.heap/\(∀b∈fp,H' b=none)/\W i n ai H') ?_ m0 ⟨0,U,H2,I2,st2,fun b hb=>(f2 b hb).1,w0⟩
 rintro n s3 ⟨i,aw,H3,I3,st3,fr3,w3⟩
 rcases turn i n aw H3 w3 with ⟨stop,qn⟩|⟨go,N,hN,step⟩
 ·refine wpAny_passesOwn hp (thn (T.done X rfl rfl rfl hc i pins s3 aw H3 X.xe I3 (stat fr3) st3 stop) fun r s4 ⟨hr,I4⟩=>?_)
  subst hr
  exact wpAny_execs_nil ⟨aw,H3,I4,qn⟩
 ·refine wpAny_passesOwn hp (thn (T.item X rfl rfl rfl hc i pins s3 aw H3 X.xe I3 (stat fr3) st3 go) fun r s4 ⟨u,hr,h4⟩=>?_)
  subst hr
  refine wpAny_passesOwn hp (thn h4 fun _ s5 ⟨x,H5,I5,r5,y5,st5,fr5⟩=>?_)
  have I5':=I5.pinned (stat fr5) (T.obj _ _ st5)
  refine wpAny_passesOwn hp (thn (hg _ s5 aw H5 x u _ I5' r5 (step x H5 y5)) fun _ s6 ⟨aD,H6,I6,q6⟩=>?_)
  refine wpAny_passesOwn hp (thn (hb _ s6 aD H6 _ I6 q6) fun f s7 q7=>?_)
  have again:∀{ax:St} {H7:Hp},Inv X (pins++pinsAt fp s5.heap) ax H7 s7->N ax H7->∃m,m<n/\∃i ai H',Inv X pins ai H' s7/\tn i s7.heap/\(∀b∈fp,H' b=none)/\W i m ai H':=fun {ax H7} I7 n7=>by
   obtain ⟨m',hm,w7⟩:=hN ax H7 n7
   refine ⟨m',hm,i+1,ax,H7,I7.unpinned,T.keep _ _ _ st5 fun b hb o e=>(I7.pin (b,o) (yq _ (yq _ (zaf hb e)))).1,fun b hb=>?_,w7⟩
   obtain ⟨o,e,d⟩:=T.obj _ _ st5 b hb
   exact (I7.pin (b,o) (yq _ (yq _ (zaf hb e)))).2.1
  cases f with
  | next=>obtain ⟨ax,H7,I7,n7⟩:=q7;exact again I7 n7
  | cont=>obtain ⟨ax,H7,I7,n7⟩:=q7;exact again I7 n7
  | brk=>obtain ⟨ax,H7,I7,q7⟩:=q7;exact ⟨ax,H7,I7.unpinned,q7⟩
  | ret v=>obtain ⟨x7,ax,H7,I7,r7,q7⟩:=q7;exact ⟨x7,ax,H7,I7.unpinned,r7,q7⟩
end
def for_tup {K:PySem.W.Frag}{a:Addr}{xs:List V}{g:TG}{tb:TS}{D:Ends}{U:St}{H:Hp}(Pv:Nat->St->Hp->Prop) (h0:Pv 0 U H) (hl:∀i U H,i<=xs.length->Pv i U H->SqT K H a xs)
  (hs:∀i x U H,xs[i]?=some x->Pv i U H->g x U H fun aB H2=>tb { D with nx:=Pv (i+1),ct:=Pv (i+1),bk:=D.nx } aB H2) (hd:∀U H,Pv xs.length U H->D.nx U H) :
  ∃W:Nat->Nat->St->Hp->Prop,(∃m,W 0 m U H)/\∀i m U H,W i m U H ->
   ((Itt K a).stop i H/\D.nx U H)\/((Itt K a).go i H/\∃N:St->Hp->Prop,(∀ai H',N ai H'->∃m',m'<m/\W (i+1) m' ai H')/\∀x H',(Itt K a).yld i H x H'->g x U H' fun aB H2=>tb { D with nx:=N,ct:=N,bk:=D.nx } aB H2):=by
 refine ⟨fun i m U H=>m=xs.length-i/\i<=xs.length/\Pv i U H,⟨xs.length,by simp,ju _,h0⟩,?_⟩
 rintro i m U H ⟨rfl,hi,p⟩
 have q:=hl i U H hi p
 by_cases hlt:i<xs.length
 ·refine .inr ⟨⟨xs,xs[i],q,by simp [hlt]⟩,Pv (i+1),fun ai H' p'=>⟨xs.length-(i+1),by omega,rfl,hlt,p'⟩,fun x H' y=>?_⟩
  obtain ⟨e,y⟩:=y
  subst e
  exact hs i x U _ (y xs q) p
 ·have e:i=xs.length:=by omega
  subst e
  exact .inl ⟨⟨xs,q,yg _⟩,hd U H p⟩
abbrev R2:=V->V->Hp->VK->Prop
def OpR (X:Cx) (f:Value->Value->Sem Value) (r:R2):Prop :=
 ∀(pins:List (Addr×Obj)) (s:Shared) (U:St) (H:Hp) (x y:V) (v u:Value) (Q:VK),Inv X pins U H s->RelV x v->RelV y u->r x y H Q ->
  wpAny (model X.prog X.w) X.A (f v u) (EP X pins U Q) X.xe s
def UnR (X:Cx) (f:Value->Sem Value) (r:V->Hp->VK->Prop):Prop :=
 ∀(pins:List (Addr×Obj)) (s:Shared) (U:St) (H:Hp) (x:V) (v:Value) (Q:VK),Inv X pins U H s->RelV x v->r x H Q ->
  wpAny (model X.prog X.w) X.A (f v) (EP X pins U Q) X.xe s
def CallR (X:Cx) (f:Value) (r:List V->Hp->VK->Prop):Prop :=
 ∀(pins:List (Addr×Obj)) (s:Shared) (U:St) (H:Hp) (xs:List V) (us:List Value) (Q:VK),Inv X pins U H s->Vals xs us->r xs H Q ->
  wpAny (model X.prog X.w) X.A (call f us) (EP X pins U Q) X.xe s
def tOp (r:R2) (ta tb:TE):TE:=fun U H Q=>ta U H fun x H1=>tb U H1 fun y H2=>r x y H2 Q
def tUn (r:V->Hp->VK->Prop) (ta:TE):TE:=fun U H Q=>ta U H fun x H1=>r x H1 Q
def rI (C:Int->Int->Prop) (g:Int->Int->V):R2:=fun x y H Q=>∃i j,x=.int i/\y=.int j/\C i j/\Q (g i j) H
def wJ (g:Int->Int->V):R2:=fun x y H Q=>∃i j,x=.int i/\y=.int j/\Q (g i j) H
def rU (g:Int->V):V->Hp->VK->Prop:=fun x H Q=>∃i,x=.int i/\Q (g i) H
section
variable {X:Cx}{a b c:Expr}{ta tb tc:TE}{pos:Pos}
def binT (ha:PE X a ta) (hb:PE X b tb) {pins:List (Addr×Obj)}{s:Shared}{U:St}{H:Hp}{R:V->V->Hp->Prop}(I:Inv X pins U H s)
  (h:ta U H fun x H1=>tb U H1 fun y H2=>R x y H2) {Q:Value->Shared->Prop} {f:Value->Value->Sem Value}
  (hf:∀v u s2 x y H2,Inv X pins U H2 s2->RelV x v->RelV y u->R x y H2->wpAny (model X.prog X.w) X.A (f v u) Q X.xe s2) :
  wpAny (model X.prog X.w) X.A (eval a X.env) (fun v aj=>wpAny (model X.prog X.w) X.A (eval b X.env) (fun u aa=>wpAny (model X.prog X.w) X.A (f v u) Q X.xe aa) X.xe aj) X.xe s:=by
 refine thn (ha pins s U H _ I h) fun v s1 ⟨x,H1,I1,r1,q1⟩=>?_
 refine thn (hb pins s1 U H1 _ I1 q1) fun u s2 ⟨y,H2,I2,r2,q2⟩=>?_
 exact hf v u s2 x y H2 I2 r1 r2 q2
def ziz {op:Operator}{r:R2}(ho:OpR X (binaryOp op) r) (ha:PE X a ta) (hb:PE X b tb):PE X (.BinOp a op b pos) (tOp r ta tb):=by
 intro pins s U H Q I h
 exact wpAny_BinOp (binT ha hb I h fun v u s2 x y H2 I2 rx ry q=>ho pins s2 U H2 x y v u Q I2 rx ry q)
def ziA {op:UnaryOp}{r:V->Hp->VK->Prop}(ho:UnR X (unaryOp op) r) (ha:PE X a ta):PE X (.UnaryOp op a pos) (tUn r ta):=by
 intro pins s U H Q I h
 exact UnaryOp_ (thn (ha pins s U H _ I h) fun v s1 ⟨x,H1,I1,r1,q1⟩=>ho pins s1 U H1 x v Q I1 r1 q1)
def opI {f:Value->Value->Sem Value}{C:Int->Int->Prop}{g:Int->Int->Int}
  (rule:∀(i j:Int) (t u:Tok) (s:Shared) (Q:Value->Shared->Prop) (E:Value->Shared->Prop),C i j->Q (.int (g i j) s.toks) { s with toks:=s.toks+1 }->wpAny (model X.prog X.w) X.A (f (.int i t) (.int j u)) Q E s) :
  OpR X f (rI C fun i j=>.int (g i j)):=by
 intro pins s U H x y v u Q I rx ry h
 obtain ⟨i,j,rfl,rfl,hc,q⟩:=h
 obtain ⟨t,rfl⟩:=rx
 obtain ⟨t',rfl⟩:=ry
 exact rule i j t t' s _ _ hc ⟨.int (g i j),H,I.tok _,⟨_,rfl⟩,q⟩
def zd3 {f:Value->Value->Sem Value}{g:Int->Int->Int}
  (rule:∀(i j:Int) (t u:Tok) (s:Shared) (Q:Value->Shared->Prop) (E:Value->Shared->Prop),Q (.int (g i j) s.toks) { s with toks:=s.toks+1 }->wpAny (model X.prog X.w) X.A (f (.int i t) (.int j u)) Q E s) :
  OpR X f (wJ fun i j=>.int (g i j)):=by
 intro pins s U H x y v u Q I rx ry h
 obtain ⟨i,j,rfl,rfl,q⟩:=h
 obtain ⟨t,rfl⟩:=rx
 obtain ⟨t',rfl⟩:=ry
 exact rule i j t t' s _ _ ⟨.int (g i j),H,I.tok _,⟨_,rfl⟩,q⟩
def zd4 {f:Value->Value->Sem Value}{g:Int->Int->Bool}
  (rule:∀(i j:Int) (t u:Tok) (s:Shared) (Q:Value->Shared->Prop) (E:Value->Shared->Prop),Q (.bool (g i j)) s->wpAny (model X.prog X.w) X.A (f (.int i t) (.int j u)) Q E s) :
  OpR X f (wJ fun i j=>.bl (g i j)):=by
 intro pins s U H x y v u Q I rx ry h
 obtain ⟨i,j,rfl,rfl,q⟩:=h
 obtain ⟨t,rfl⟩:=rx
 obtain ⟨t',rfl⟩:=ry
 exact rule i j t t' s _ _ ⟨.bl (g i j),H,I,rfl,q⟩
def CPow (i j:Int):Prop:=0<=j/\j<=1000000/\i.natAbs<2 ^ 64
def CMul (i j:Int):Prop:=(-(2 ^ 64)<i/\i<2 ^ 64)\/(-(2 ^ 64)<j/\j<2 ^ 64)
def CMul.ok {i j:Int}(h:CMul i j):IntMulOk i j:=by
 rcases h with ⟨h1,h2⟩|⟨h1,h2⟩
 ·exact .of_left (intBits_le_64 h1 h2)
 ·exact .of_right (intBits_le_64 h1 h2)
def ziB:OpR X (binaryOp .Add) (wJ fun i j=>.int (i+j)):=zd3 fun _ _ _ _ _ _ _ q=>add_int q
def ziC:OpR X (binaryOp .Sub) (wJ fun i j=>.int (i-j)):=zd3 fun _ _ _ _ _ _ _ q=>sub_int q
def ziD:OpR X (binaryOp .Mult) (rI CMul fun i j=>.int (i*j)):=opI fun _ _ _ _ _ _ _ hc q=>mul_int q hc.ok
def ziE:OpR X (binaryOp .Mod) (rI (fun _ j=>j≠0) fun i j=>.int (i.fmod j)):=opI fun _ _ _ _ _ _ _ hc q=>mod_int' hc q
def ziF:OpR X (binaryOp .Pow) (rI CPow fun i j=>.int (i ^ j.toNat)):=opI fun _ _ _ _ _ _ _ hc q=>pow_int_small hc.1 hc.2.1 hc.2.2 q
def unI {f:Value->Sem Value}{g:Int->Int}
  (rule:∀(i:Int) (t:Tok) (s:Shared) (Q:Value->Shared->Prop) (E:Value->Shared->Prop),Q (.int (g i) s.toks) { s with toks:=s.toks+1 }->wpAny (model X.prog X.w) X.A (f (.int i t)) Q E s) :
  UnR X f (rU fun i=>.int (g i)):=by
 intro pins s U H x v Q I rx h
 obtain ⟨i,rfl,q⟩:=h
 obtain ⟨t,rfl⟩:=rx
 exact rule i t s _ _ ⟨.int (g i),H,I.tok _,⟨_,rfl⟩,q⟩
def ziG:UnR X (unaryOp .USub) (rU fun i=>.int (-i)):=unI fun _ _ _ _ _ q=>neg_int q
def ziH {pins:List (Addr×Obj)}{U:St}{H:Hp}{s:Shared}{Q:VK}{k k':Bool}(I:Inv X pins U H s) (q:Q (.bl k) H) (e:k=k'):EP X pins U Q (.bool k') s:=by
 subst e
 exact ⟨.bl k,H,I,rfl,q⟩
def ziI:OpR X (compareOp .Lt) (wJ fun i j=>.bl (decide (i<j))):=zd4 fun _ _ _ _ _ _ _ q=>lt_int q
def ziJ:OpR X (compareOp .Gt) (wJ fun i j=>.bl (decide (j<i))):=zd4 fun _ _ _ _ _ _ _ q=>gt_int q
def ziK:OpR X (compareOp .In) (fun x y H Q=>∃i j,x=.str i/\y=.str j/\Q (.bl (!(Builtin.Str.occurrences j i 0 j.length 1).isEmpty)) H):=by
 intro pins s U H x y v u Q I rx ry h
 obtain ⟨i,j,rfl,rfl,q⟩:=h
 obtain ⟨t,rfl⟩:=rx
 obtain ⟨t',rfl⟩:=ry
 exact in_str (ziH I q rfl)
def OpR.or {f:Value->Value->Sem Value}{r r':R2}(h:OpR X f r) (h':OpR X f r'):OpR X f (fun x y H Q=>r x y H Q\/r' x y H Q):=by
 intro pins s U H x y v u Q I rx ry q
 rcases q with q|q
 ·exact h pins s U H x y v u Q I rx ry q
 ·exact h' pins s U H x y v u Q I rx ry q
def nomark (b:Expr) {op:CmpOp}(h:op ≠ .In:=by decide) (h2:op ≠ .NotIn:=by decide):behindInMarks op b=false:=by
 have e1:(op==CmpOp.In)=false:=by cases op<;>first|rfl|exact absurd rfl h
 have e2:(op==CmpOp.NotIn)=false:=by cases op<;>first|rfl|exact absurd rfl h2
 cases b<;>simp [behindInMarks,e1,e2]
def ziL {op:CmpOp}{r:R2}(ho:OpR X (compareOp op) r) (ha:PE X a ta) (hb:PE X b tb) (hm:behindInMarks op b=false):PE X (.Compare a [op] [b] pos) (tOp r ta tb):=by
 intro pins s U H Q I h
 exact wpAny_Compare1 (binT ha hb I h fun v u s2 x y H2 I2 rx ry q=>ho pins s2 U H2 x y v u Q I2 rx ry q) hm
def ziM (t:TE):TT:=fun U H Q=>t U H fun x H'=>∃k,x=.bl k/\Q k H'
def zd5 {op:CmpOp}{r:R2}(ho:OpR X (compareOp op) r) (ha:PE X a ta) (hb:PE X b tb) (hm:behindInMarks op b=false):PT X (.Compare a [op] [b] pos) (ziM (tOp r ta tb)):=by
 intro pins s U H Q I h
 refine wpAny_isTrue_Compare1 (thn (ha pins s U H _ I h) fun v s1 ⟨x,H1,I1,r1,q1⟩=>thn (hb pins s1 U H1 _ I1 q1) fun u s2 ⟨y,H2,I2,r2,q2⟩ =>
  thn (ho pins s2 U H2 x y v u _ I2 r1 r2 q2) fun c s3 ⟨z,H3,I3,r3,k,e,q3⟩=>?_) hm
 subst e
 cases r3
 exact zaa ⟨H3,I3,q3⟩
def za5:(sizeLine:Nat)<2 ^ 63:=by rw [sizeLine_eq];decide
def ziN:OpR X (binaryOp .Add) (fun x y H Q=>∃i j,x=.str i/\y=.str j/\i.length+j.length<=sizeLine/\Q (.str (i++j)) H):=by
 intro pins s U H x y v u Q I rx ry h
 obtain ⟨i,j,rfl,rfl,hz,q⟩:=h
 obtain ⟨t,rfl⟩:=rx
 obtain ⟨t',rfl⟩:=ry
 exact add_str (fun t' tk=>⟨.str (i++j),H,I.tok _,⟨_,rfl⟩,q⟩) hz
def zay {x:V}{us:List Value}(r:Vals [x] us):∃u,us=[u]/\RelV x u:=by
 cases r with
 | cons r1 r2=>cases r2;exact ⟨_,rfl,r1⟩
def ziO {x y:V}{us:List Value}(r:Vals [x,y] us):∃u w',us=[u,w']/\RelV x u/\RelV y w':=by
 cases r with
 | cons r1 r2 =>
  cases r2 with
  | cons r3 r4=>cases r4;exact ⟨_,_,rfl,r1,r3⟩
def ziP:CallR X (.type "str") (fun xs H Q=>∃i,xs=[.int i]/\i.natAbs.log2<1920/\Q (.str (toString i)) H):=by
 intro pins s U H xs us Q I r h
 obtain ⟨i,rfl,hz,q⟩:=h
 obtain ⟨u,rfl,t,rfl⟩:=zay r
 exact PySem.P.str_of_int hz ⟨.str _,H,I.tok _,⟨_,rfl⟩,q⟩
def LenV (K:PySem.W.Frag) (x:V) (H:Hp) (n:Nat):Prop :=
 match x with
 | .str y=>y.length<=sizeLine/\n=y.length
 | .byt y=>y.size<=sizeLine/\n=y.size
 | .ref p=>(∃xs,SqL K H p xs/\n=xs.length)\/∃xs,SqT K H p xs/\n=xs.length
 | _=>False
def ziQ:CallR X (.builtin "len") (fun xs H Q=>∃x n,xs=[x]/\LenV X.K x H n/\Q (.int n) H):=by
 intro pins s U H xs us Q I r h
 obtain ⟨x,n,rfl,e,q⟩:=h
 obtain ⟨u,rfl,rx⟩:=zay r
 have hl:=za5
 have hs:sizeLine=16777216:=sizeLine_eq
 cases x with
 | str y =>
  obtain ⟨t,rfl⟩:=rx
  obtain ⟨hy,e'⟩:y.length<=sizeLine/\n=y.length:=e
  subst e'
  exact len_str (by omega) ⟨.int _,H,I.tok _,⟨_,rfl⟩,q⟩
 | byt y =>
  obtain ⟨t,rfl⟩:=rx
  obtain ⟨hy,e'⟩:y.size<=sizeLine/\n=y.size:=e
  subst e'
  exact PySem.W.len_bytes (by omega) ⟨.int _,H,I.tok _,⟨_,rfl⟩,q⟩
 | ref p =>
  cases rx
  have e':(∃xs,SqL X.K H p xs/\n=xs.length)\/∃xs,SqT X.K H p xs/\n=xs.length:=e
  rcases e' with ⟨xs,hx,e'⟩|⟨xs,hx,e'⟩
  ·subst e'
   obtain ⟨its,r',pl,hz⟩:=I.list hx
   have hlen:=r'.length
   exact Calls.call_len_list pl.isList (by simp only [yx];omega) ⟨.int xs.length,H,I.tok _,⟨_,by simp only [yx];rw [hlen]⟩,q⟩
  ·subst e'
   obtain ⟨its,r',pl,hz⟩:=I.tuple hx
   have hlen:=r'.length
   exact len_tuple pl (by simp only [yx];omega) ⟨.int xs.length,H,I.tok _,⟨_,by simp only [yx];rw [hlen]⟩,q⟩
 | _=>exact (show False from e).elim
end
structure ObjM (h:Heap) (x dx C:Addr) (mA:Str->Option Value):Prop where
 obj:h.get? x=some (PySem.W.instObj C dx)
 ns:h.Ns1 dx mA
 ne:dx≠x
def zd6 {h:Heap}{dx:Addr}{mA:Str->Option Value}(n:h.Ns1 dx mA):∃od,h.get? dx=some od/\∀name,PySem.W.lookIn name od=some (mA name):=by
 obtain ⟨o,es,ep,ho,hd,hk,_,hm⟩:=n
 refine ⟨o,ho,fun name=>?_⟩
 have e:=hm name
 unfold nsFind findBy at e
 rw [<-Array.find?_toList] at e
 unfold PySem.W.lookIn
 rw [hd]
 dsimp only
 split
 ·rename_i y q
  rw [q] at e
  exact congrArg some e
 ·rename_i q
  rw [q] at e
  have a:es.toList.any (·.refKey)=false:=by
   rw [List.any_eq_false]
   intro y hy
   obtain ⟨z,t,hkey⟩:=hk y (Array.mem_toList_iff.mp hy)
   simp [DictEntry.refKey,hkey]
  have a':¬es.toList.any (·.refKey)=true:=by rw [a];exact Bool.false_ne_true
  rw [zN a']
  exact congrArg some e
def ObjM.look {h:Heap}{x dx C:Addr}{mA:Str->Option Value}(I:ObjM h x dx C mA):∃od,PySem.W.InstAt h x (PySem.W.instObj C dx) C (some od)/\∀name,PySem.W.lookIn name od=some (mA name) :=
 let ⟨od,ho,hl⟩:=zd6 I.ns
 ⟨od,⟨I.obj,rfl,rfl,ho⟩,hl⟩
section
variable {prog:Program}{w:World}{A:Around}{E:Value->Shared->Prop}{s:Shared}{K:PySem.W.Frag}{x dx C f:Addr}{mA:Str->Option Value}{name:Str}{v:Value}
def ziR {expr:Bool}{Q:Value->Shared->Prop}(X:K.In s.heap) (I:ObjM s.heap x dx C mA) (hg:PySem.W.plainGet K C name=true) (hh:PySem.W.hasDictIn K C=true)
  (ha:PySem.W.findIn K (.ref C) name=some none) (hv:mA name=some v) (hv':PySem.W.handedIn v=true) (h:Q v { s with toks:=s.toks+1 }) :
  wpAny (model prog w) A (getAttr (.ref x) name expr) Q E s:=by
 obtain ⟨od,J,hl⟩:=I.look
 exact PySem.W.get_value X J (PySem.W.plainGet_of hg).1 (PySem.W.findObj_own hh ha rfl (by rw [hl,hv])) hv' h
def ziS {pl:Sem Bool}{Q:Value×List Value->Shared->Prop}(X:K.In s.heap) (I:ObjM s.heap x dx C mA) (hg:PySem.W.plainGet K C name=true)
  (hf:PySem.W.findIn K (.ref C) name=some (some (.ref f))) (ht:PySem.W.isFn K (.ref f)=true) (hv:mA name=none) (h:Q (.ref f,[.ref x]) s) :
  wpAny (model prog w) A (getMethod (.ref x) name pl) Q E s:=by
 obtain ⟨od,J,hl⟩:=I.look
 exact PySem.W.method_fn X J (PySem.W.plainGet_of hg).1 (PySem.W.plainGet_of hg).2 hf (beq_iff_eq.mp ht) (by show (PySem.W.lookIn name od).map (·.isSome)=some false;rw [hl,hv];rfl) h
def ziT {ns:List Str}{Q:Unit->Shared->Prop}(X:K.In s.heap) (I:ObjM s.heap x dx C mA)
  (hs:PySem.W.findIn K (.ref C) "__setattr__" = some (some (.builtin "object.__setattr__"))) (hp:PySem.W.plainOver K C=true) (ht:PySem.W.takerIn K C name=some none) (hh:PySem.W.hasDictIn K C=true)
  (hw:PySem.Within mA ns) (hsz:ns.length<=sizeLine)
  (h:∀h',ObjM h' x dx C (fun y=>if y=name then some v else mA y)->Heap.SameBut dx s.heap h'->Q () { s with heap:=h',toks:=s.toks+2 }) :
  wpAny (model prog w) A (setAttr (.ref x) name v) Q E s:=by
 obtain ⟨od,J,hl⟩:=I.look
 refine PySem.W.set_plain X J hs (PySem.W.osa_open (s:={ s with toks:=s.toks+1 }) (r:=none) X J hp ht fun b=>?_)
 obtain ⟨cd,hc,hd'⟩:=PySem.W.any_some hh
 have hx:s.heap.get? x=some ⟨.ref C,some dx,.plain,#[]⟩:=I.obj
 refine zt (zM (zt (zt (wpAny_loadPart hx (zt (PySem.W.Looks.here (s:={ s with toks:=s.toks+1 }) (PySem.W.looks_clsIn X hc) ?_))))))
 rw [hd']
 refine zM (a:=some dx) (zt (zM (zt ?_)))
 refine wpAny_nsSet1 (s:={ s with toks:=s.toks+1 }) I.ns fun h' hn2 hs2=>?_
 obtain ⟨oD,esD,epD,hoD,hdD,hcD⟩:=hn2.count (PySem.Within.cons name v hw)
 refine zt (wpAny_lookBehind hoD (by rw [hdD];exact pastItsLine_dict (yT hcD (by rw [jY];omega))) ?_)
 exact zM (h _ ⟨(hs2.2 _ (yA I.ne)).trans I.obj,hn2,I.ne⟩ hs2)
def ziU {R:Result->Shared->Prop}{vs:List Value}{kw:List (Str×Value)}(X:K.In s.heap) (hm:PySem.W.makesIn K C=true)
  (hi:PySem.W.findIn K (.ref C) "__init__" = some (some (.ref f))) (hf:PySem.W.typeIn K (.ref f)=some (.type "function"))
  (h:codeAny (model prog w) (A.under (.builtin "type.__call__" ⟨.ref C::vs,kw⟩)) (.call (.ref f) ⟨.ref (s.heap.objs.size+1)::vs,kw⟩) (PySem.W.InitBack (s.heap.objs.size+1) R)
   { s with heap:=(s.heap.push PySem.W.emptyDict).push (PySem.W.instObj C s.heap.objs.size) }) :
  codeAny (model prog w) A (.call (.ref C) ⟨vs,kw⟩) R s:=by
 obtain ⟨hh,g,d,t,os⟩:=s
 exact PySem.W.make_core (PySem.W.makes_of X hm) (PySem.W.looks_findIn X hi) (fun self=>PySem.W.bind_fn X self hf) (.inl rfl) h
end
def putF (f:Str) (v:V):List (Str×V)->List (Str×V)
 | []=>[(f,v)]
 | (g,x)::r=>if g=f then (g,v)::r else (g,x)::putF f v r
def zd7 (f g:Str) (v:V):∀fs:List (Str×V),(putF f v fs).lookup g=if g=f then some v else fs.lookup g
 | []=>by
  show List.lookup g [(f,v)]=_
  by_cases h:g=f
  ·have hb:(g==f)=true:=beq_iff_eq.mpr h
   simp only [List.lookup,hb,zE h]
  ·have hb:(g==f)=false:=beq_eq_false_iff_ne.mpr h
   simp only [List.lookup,hb,zN h]
 | (k,x)::r=>by
  have ih:=zd7 f g v r
  rw [show putF f v ((k,x)::r)=(if k=f then (k,v)::r else (k,x)::putF f v r) from rfl]
  by_cases hk:k=f
  ·rw [zE hk]
   by_cases h:g=k
   ·have hb:(g==k)=true:=beq_iff_eq.mpr h
    simp only [List.lookup,hb,zE (h.trans hk)]
   ·have hb:(g==k)=false:=beq_eq_false_iff_ne.mpr h
    simp only [List.lookup,hb,zN (fun e:g=f=>h (e.trans hk.symm))]
  ·rw [zN hk]
   by_cases h:g=k
   ·have hb:(g==k)=true:=beq_iff_eq.mpr h
    simp only [List.lookup,hb,zN (fun e:g=f=>hk (h.symm.trans e))]
   ·have hb:(g==k)=false:=beq_eq_false_iff_ne.mpr h
    simp only [List.lookup,hb]
    exact ih
def zcD (f:Str) (v:V):∀fs:List (Str×V),f∈(putF f v fs).map (·.1)/\∀g,g∈fs.map (·.1)->g∈(putF f v fs).map (·.1)
 | []=>⟨by simp [putF],fun g h=>by simp at h⟩
 | (k,x)::r=>by
  obtain ⟨i1,i2⟩:=zcD f v r
  rw [show putF f v ((k,x)::r)=(if k=f then (k,v)::r else (k,x)::putF f v r) from rfl]
  by_cases hk:k=f
  ·rw [zE hk]
   subst hk
   exact ⟨by simp,fun g h=>by simpa using h⟩
  ·rw [zN hk]
   refine ⟨?_,fun g h=>?_⟩
   ·rw [ji]
    exact jh _ i1
   ·rw [ji] at h ⊢
    rcases yD.mp h with e|e
    ·exact yD.mpr (.inl e)
    ·exact jh _ (i2 g e)
def zd8 (f:Str) (v:V):∀fs:List (Str×V),(putF f v fs).length<=fs.length+1
 | []=>by simp [putF]
 | (k,x)::r=>by
  have ih:=zd8 f v r
  rw [show putF f v ((k,x)::r)=(if k=f then (k,v)::r else (k,x)::putF f v r) from rfl]
  by_cases hk:k=f
  ·rw [zE hk,jY,jY];omega
  ·rw [zN hk,jY,jY];omega
def RelO.some_of {v:V}{o:Option Value}(r:RelO (some v) o):∃u,o=some u/\RelV v u:=by
 cases o with
 | none=>exact (show False from r).elim
 | some u=>exact ⟨u,rfl,r⟩
def RelO.none_of {o:Option Value}(r:RelO none o):o=none:=by
 cases o with
 | none=>rfl
 | some u=>exact (show False from r).elim
def zd9 {v:V}{u:Value}(r:RelV v u):PySem.W.handedIn u=true:=by
 cases v with
 | non=>cases (show u=Value.none from r);rfl
 | bl b=>cases (show u=Value.bool b from r);rfl
 | int i=>obtain ⟨t,e⟩:=(show ∃t,u=Value.int i t from r);cases e;rfl
 | str x=>obtain ⟨t,e⟩:=(show ∃t,u=Value.str x t from r);cases e;rfl
 | byt b=>obtain ⟨t,e⟩:=(show ∃t,u=Value.bytes b t from r);cases e;rfl
 | flt b=>obtain ⟨t,e⟩:=(show ∃t,u=Value.float b t from r);cases e;rfl
 | ref a=>cases (show u=Value.ref a from r);rfl
 | ty n=>cases (show u=Value.type n from r);rfl
section
variable {P:Program}{w:World}{H H':Hp}{h h':Heap}{a C dx:Addr}{fs fs':List (Str×V)}
def zbH (hok:HOk P w H h) (e:H a=some (.ins C dx fs)):∃mA,ObjM h a dx C mA/\(∀f,RelO (fs.lookup f) (mA f))/\PySem.Within mA (fs.map (·.1))/\fs.length<=1000/\H dx=some (.own a):=by
 obtain ⟨d,z,ne,ob,mA,n,r,q⟩:=(show ObjOk P w H h a (.ins C dx fs) from hok a _ e)
 exact ⟨mA,⟨ob,n,ne⟩,r,q,z,d⟩
end
structure Cls (K:PySem.W.Frag) (C:Addr):Prop where
 pg:PySem.W.plainGet K C Str.empty=true
 hd:PySem.W.hasDictIn K C=true
 po:PySem.W.plainOver K C=true
 sa:PySem.W.findIn K (.ref C) "__setattr__" = some (some (.builtin "object.__setattr__"))
def Cls.get {K:PySem.W.Frag}{C:Addr}(c:Cls K C) (f:Str):PySem.W.plainGet K C f=true:=c.pg
def NoAttr (K:PySem.W.Frag) (C:Addr) (f:Str):Prop:=PySem.W.findIn K (.ref C) f=some none
def NoAttr.taker {K:PySem.W.Frag}{C:Addr}{f:Str}(n:NoAttr K C f):PySem.W.takerIn K C f=some none:=by
 unfold PySem.W.takerIn
 rw [show PySem.W.findIn K (.ref C) f=some none from n]
 rfl
structure Con (K:PySem.W.Frag) (C:Addr) (f:Str) (v:V) (u:Value):Prop where
 at_:PySem.W.findIn K (.ref C) f=some (some u)
 rel:RelV v u
 get:PySem.W.specialIn K u "__get__" = some none
 cp:PySem.W.copiedNames.contains f=false
structure Meth (K:PySem.W.Frag) (C:Addr) (m:Str) (f:Addr):Prop where
 at_:PySem.W.findIn K (.ref C) m=some (some (.ref f))
 fn:PySem.W.isFn K (.ref f)=true
 kp:PySem.W.keepIn K (.ref f)=true
section
variable {X:Cx}{pins:List (Addr×Obj)}{U:St}{H:Hp}{s:Shared}{a C dx:Addr}{fs:List (Str×V)}{f:Str}{v:V}{A:Around}{E:Value->Shared->Prop}
def ziV {b:Bool}{Q:Value->Shared->Prop}(I:Inv X pins U H s) (e:H a=some (.ins C dx fs)) (c:Cls X.K C) (n:NoAttr X.K C f) (l:fs.lookup f=some v)
  (h:∀u s',Inv X pins U H s'->RelV v u->Q u s'):wpAny (model X.prog X.w) A (getAttr (.ref a) f b) Q E s:=by
 obtain ⟨mA,O,r,_,_,_⟩:=zbH I.hok e
 obtain ⟨u,hu,ru⟩:=RelO.some_of (v:=v) (o:=mA f) (by rw [<-l];exact r f)
 exact ziR I.kIn O (c.get f) c.hd n hu (zd9 ru) (h u _ (I.tok _) ru)
def ziW {m:Str}{g:Addr}{pl:Sem Bool}{Q:Value×List Value->Shared->Prop}(I:Inv X pins U H s) (e:H a=some (.ins C dx fs)) (c:Cls X.K C) (k:Meth X.K C m g) (l:fs.lookup m=none)
  (h:Q (.ref g,[.ref a]) s):wpAny (model X.prog X.w) A (getMethod (.ref a) m pl) Q E s:=by
 obtain ⟨mA,O,r,_,_,_⟩:=zbH I.hok e
 have hn:mA m=none:=RelO.none_of (by rw [<-l];exact r m)
 exact ziS I.kIn O (c.get m) k.at_ k.fn hn h
def ziX {y:V}{u:Value}{Q:Unit->Shared->Prop}(I:Inv X pins U H s) (e:H a=some (.ins C dx fs)) (c:Cls X.K C) (n:NoAttr X.K C f) (hl:fs.length<1000) (ry:RelV y u)
  (h:∀s',Inv X pins U (upd H a (.ins C dx (putF f y fs))) s'->Q () s'):wpAny (model X.prog X.w) A (setAttr (.ref a) f u) Q E s:=by
 obtain ⟨mA,O,r,wi,_,ho⟩:=zbH I.hok e
 have hz:(fs.map (·.1)).length<=sizeLine:=by rw [jX,sizeLine_eq];omega
 refine ziT I.kIn O c.sa c.po n.taker c.hd wi hz fun h' O' sb=>h _ ?_
 have hd:∃o,h'.get? dx=some o:=let ⟨o,_,_,e',_⟩:=O'.ns;⟨o,e'⟩
 refine I.write (x:=a) (e:=dx) (by rw [e];exact True.intro) (.inr ho) (fun b q hb z=>(sb.2 b hb).trans z) hd ?_
 refine ⟨by rw [zX O.ne];exact ho,?_,O.ne,O'.obj,_,O'.ns,fun g=>?_,fun g hg=>?_⟩
 ·have:=zd8 f y fs;omega
 ·show RelO ((putF f y fs).lookup g) (if g=f then some u else mA g)
  rw [zd7]
  by_cases q:g=f
  ·rw [zE q,zE q];exact ry
  ·rw [zN q,zN q];exact r g
 ·by_cases q:g=f
  ·rw [q];exact (zcD f y fs).1
  ·refine (zcD f y fs).2 g (wi g fun z=>hg ?_)
   show (if g=f then some u else mA g)=none
   rw [zN q];exact z
def Inv.made (I:Inv X pins U H s):Inv X pins U (upd (upd H s.heap.objs.size (.own (s.heap.objs.size+1))) (s.heap.objs.size+1) (.ins C s.heap.objs.size []))
  { s with heap:=(s.heap.push PySem.W.emptyDict).push (PySem.W.instObj C s.heap.objs.size) }:=by
 have e1:(s.heap.push PySem.W.emptyDict).get? s.heap.objs.size=some PySem.W.emptyDict:=y8 s.heap rfl
 have e2:((s.heap.push PySem.W.emptyDict).push (PySem.W.instObj C s.heap.objs.size)).get? (s.heap.objs.size+1)=some (PySem.W.instObj C s.heap.objs.size):=by
  have:=y8 (s.heap.push PySem.W.emptyDict) (o:=PySem.W.instObj C s.heap.objs.size) rfl
  rwa [Heap.size_push] at this
 have e3:(s.heap.push PySem.W.emptyDict).Ns s.heap.objs.size (fun _=>none):=⟨PySem.W.emptyDict,#[],_,e1,rfl,(fun e he=>absurd he (by simp)),fun _=>rfl⟩
 have I1:=I.laid (a:=s.heap.objs.size) (o:=.own (s.heap.objs.size+1)) (h':=s.heap.push PySem.W.emptyDict) (t':=s.toks) (fun b u q=>yo _ q) (yg _) ⟨_,e1⟩
 refine I1.laid (a:=s.heap.objs.size+1) (o:=.ins C s.heap.objs.size []) (t':=s.toks) (fun b u q=>yo _ q) (Nat.le_of_eq (Heap.size_push _ _)) ?_
 have ne:s.heap.objs.size≠s.heap.objs.size+1:=yz (jL _)
 refine ⟨by rw [zX ne,yC],ju _,ne,e2,fun _=>none,(Heap.Ns1.of_empty e3).at fun o q=>yo _ q,fun _=>True.intro,fun y hy=>absurd rfl hy⟩
def ziY {prog:Program}{w:World}{env:Env}{e:Expr}{f:Str}{pos:Pos}{s:Shared}{Q:Value->Shared->Prop}(hb:attributeBase e f env (eval e env)=eval e env)
  (h:wpAny (model prog w) A (eval e env) (fun o aj=>wpAny (model prog w) A (getAttr o f true) Q E aj) E s):wpAny (model prog w) A (eval (.Attribute e f pos) env) Q E s :=
 Attribute_any_ h (by rw [arm_eval_Attribute,hb])
end
def sFld (K:PySem.W.Frag) (ta tv:TE) (f:Str):TS:=fun D U H=>tv U H fun y H1=>ta U H1 fun x H2=>∃a C dx fs,x=.ref a/\H2 a=some (.ins C dx fs)/\Cls K C/\NoAttr K C f/\fs.length<1000 /\
 D.nx U (upd H2 a (.ins C dx (putF f y fs)))
section
variable {X:Cx}{o e value:Expr}{f:Str}{pos pos' tpos:Pos}{ta tv:TE}
def ziZ (ha:PE X o ta) (hv:PE X value tv) (hs:swapsWith value (some (.Attribute o f pos')) pos.line X.env=pure false):PS X (.Assign [.Attribute o f pos'] value pos) (sFld X.K ta tv f):=by
 intro pins s U H D I h
 refine plainObj_wpAny_Assign_Attribute (thn (hv pins s U H _ I h) fun u s1 ⟨y,H1,I1,ry,q⟩=>thn (ha pins s1 U H1 _ I1 q) fun ov s2 ⟨x,H2,I2,rx,a,C,dx,fs,ex,ea,c,n,l,q2⟩=>?_) hs
 subst ex
 obtain rfl:ov=Value.ref a:=rx
 exact ziX I2 ea c n l ry fun s3 I3=>⟨U,_,I3,q2⟩
end
section
variable {X:Cx}{pins:List (Addr×Obj)}{U:St}{H:Hp}{s:Shared}{A:Around}{E:Value->Shared->Prop}{Q:Value->Shared->Prop}{c:Value}{b:Bool}
inductive TyOf (K:PySem.W.Frag) (H:Hp):V->Value->Prop where
 | non:TyOf K H .non (.type "NoneType")
 | bl (x:Bool):TyOf K H (.bl x) (.type "bool")
 | int (i:Int):TyOf K H (.int i) (.type "int")
 | str (x:Str):TyOf K H (.str x) (.type "str")
 | flt (x:UInt64):TyOf K H (.flt x) (.type "float")
 | lst {a:Addr} {xs:List V} (e:H a=some (.lst xs)):TyOf K H (.ref a) (.type "list")
 | frz {a:Addr} {o:Obj} {xs:List V} (e:H a=some (.frz o (.lst xs))):TyOf K H (.ref a) (.type "list")
 | tup {a:Addr} {xs:List V} (e:H a=some (.tup xs)):TyOf K H (.ref a) (.type "tuple")
 | dK {a:Addr} {kvs:List (Key×V)} (e:H a=some (.dK kvs)):TyOf K H (.ref a) (.type "dict")
 | dT {a:Addr} {kvs:List (List Key×V)} (e:H a=some (.dT kvs)):TyOf K H (.ref a) (.type "dict")
 | ins {a C dx:Addr} {fs:List (Str×V)} (e:H a=some (.ins C dx fs)) (cl:Cls K C) (ha:PySem.W.findIn K (.ref C) "__class__" = some (some (.builtin "object.__class__")))
   (hn:PySem.W.specialIn K (.builtin "object.__class__") "__get__" = some (some (.builtin "getset_descriptor.__get__"))) (htk:PySem.W.takesIn K (.builtin "object.__class__")=some true)
   (hm:PySem.W.mroIn K C (.type "object")=some true):TyOf K H (.ref a) (.ref C)
def zi0 {x:V}{u t:Value}(I:Inv X pins U H s) (rx:RelV x u) (ty:TyOf X.K H x t) (e:PySem.W.kitOne X.K t c=some b) (h:∀tk,Q (.bool b) { s with toks:=tk }) :
  wpAny (model X.prog X.w) A (call (.builtin "isinstance") [u,c]) Q E s:=by
 cases ty with
 | non=>cases (show u=Value.none from rx);exact PySem.W.kia_one PySem.W.kitx_none I.kIn True.intro e (fun z=>nomatch z) h
 | bl y=>cases (show u=Value.bool y from rx);exact PySem.W.kia_one PySem.W.kitx_bool I.kIn True.intro e (fun z=>nomatch z) h
 | int i=>obtain ⟨t,q⟩:=(show ∃t,u=Value.int i t from rx);cases q;exact PySem.W.kia_one PySem.W.kitx_int I.kIn True.intro e (fun z=>nomatch z) h
 | str y=>obtain ⟨t,q⟩:=(show ∃t,u=Value.str y t from rx);cases q;exact PySem.W.kia_one PySem.W.kitx_str I.kIn True.intro e (fun z=>nomatch z) h
 | flt y=>obtain ⟨t,q⟩:=(show ∃t,u=Value.float y t from rx);cases q;exact PySem.W.kia_one PySem.W.kitx_float I.kIn True.intro e (fun z=>nomatch z) h
 | @lst a xs ea =>
  cases (show u=Value.ref a from rx)
  obtain ⟨_,_,n,_,h1⟩:=(show ObjOk X.prog X.w H s.heap a (.lst xs) from I.hok a _ ea)
  exact PySem.W.kia_one PySem.W.kitx_list I.kIn ⟨_,h1,rfl⟩ e (fun z=>nomatch z) h
 | @frz a ob xs ea =>
  cases (show u=Value.ref a from rx)
  obtain ⟨_,_,_,n,_,h1⟩:=(show ObjOk X.prog X.w H s.heap a (.frz ob (.lst xs)) from I.hok a _ ea)
  exact PySem.W.kia_one PySem.W.kitx_list I.kIn ⟨_,h1,rfl⟩ e (fun z=>nomatch z) h
 | @tup a xs ea =>
  cases (show u=Value.ref a from rx)
  obtain ⟨_,_,_,p⟩:=(show ObjOk X.prog X.w H s.heap a (.tup xs) from I.hok a _ ea)
  obtain ⟨o,h1,h2,_⟩:=p
  exact PySem.W.kia_one PySem.W.kitx_tuple I.kIn ⟨o,h1,h2⟩ e (fun z=>nomatch z) h
 | @dK a kvs ea =>
  cases (show u=Value.ref a from rx)
  obtain ⟨_,_,vs,_,p⟩:=(show ObjOk X.prog X.w H s.heap a (.dK kvs) from I.hok a _ ea)
  obtain ⟨o,es,ep,h1,h2,_⟩:=p
  exact PySem.W.kia_one PySem.W.kitx_dict I.kIn ⟨o,h1,h2.1⟩ e (fun z=>nomatch z) h
 | @dT a kvs ea =>
  cases (show u=Value.ref a from rx)
  obtain ⟨_,_,xs,_,o,es,ep,h1,h2,_⟩:=(show ObjOk X.prog X.w H s.heap a (.dT kvs) from I.hok a _ ea)
  exact PySem.W.kia_one PySem.W.kitx_dict I.kIn ⟨o,h1,h2.1⟩ e (fun z=>nomatch z) h
 | @ins a C dx fs ea cl ha hn htk hm =>
  cases (show u=Value.ref a from rx)
  obtain ⟨mA,O,_⟩:=zbH I.hok ea
  obtain ⟨od,J,_⟩:=O.look
  exact PySem.W.kia_one (PySem.W.kitx_own (cl.get _) cl.hd ha hn htk hm) I.kIn J e (fun z=>nomatch z) h
end
structure Room (k:Nat) (A:Around):Prop where
 hd:A.handled=none
 dp:A.depth+3*k+5<recursionLimit
 un:A.units+16*k+200<cLine
def Room.mono {j k:Nat}{A:Around}(r:Room k A) (h:j<=k):Room j A:=⟨r.hd,by have:=r.dp;omega,by have:=r.un;omega⟩
def Room.deeper {k:Nat}{A:Around}(r:Room (k+1) A) (env:Env):Room k (A.deeper env) :=
 ⟨r.hd,by have:=r.dp;show A.depth+1+3*k+5<_;omega,by have:=r.un;show A.units+3+16*k+200<_;omega⟩
def zi1 {A:Around} {C:Addr} {us:List Value} {kw:List (Str×Value)}:(A.under (.builtin "type.__call__" ⟨.ref C::us,kw⟩)).depth=A.depth+1:=by
 first|rfl|simp [Around.under,Code.weight,Code.isCreation,Code.isGuard,Code.isCaller,Code.frames,Code.isFrame,guardIds]
def zi2 {A:Around} {C:Addr} {us:List Value} {kw:List (Str×Value)}:(A.under (.builtin "type.__call__" ⟨.ref C::us,kw⟩)).units=A.units+1:=by
 first|rfl|simp [Around.under,Code.cUnits,Code.frames,Code.isFrame]
def Room.make {k:Nat} {A:Around} (r:Room (k+1) A) (C:Addr) (us:List Value) (kw:List (Str×Value)):Room k (A.under (.builtin "type.__call__" ⟨.ref C::us,kw⟩)) :=
 ⟨r.hd,by have:=r.dp;rw [zi1];omega,by have:=r.un;rw [zi2];omega⟩
def Room.depth {k:Nat}{A:Around}(r:Room k A):A.depth<recursionLimit:=by have:=r.dp;omega
def zea:TA:=fun _ H Q=>Q [] H
def zi3 (ta:TE) (tr:TA):TA:=fun U H Q=>ta U H fun x H1=>tr U H1 fun xs H2=>Q (x::xs) H2
section
variable {X:Cx}{e:Expr}{es:List Expr}{te:TE}{t:TA}{pos:Pos}
def zbI:PA X [] zea:=fun _ _ _ _ H Q I h=>Calls.spliced_nil ⟨[],H,I,.nil,h⟩
def zbJ (ha:PE X e te) (hr:PA X es t) (hs:starEach (e::es) X.env=(false,eval e X.env)::starEach es X.env:=by rfl):PA X (e::es) (zi3 te t):=by
 intro pos pins s U H Q I h
 rw [hs]
 show wpAny _ _ (spliced ((false,eval e X.env)::backTo pos (starEach es X.env))) _ _ s
 refine Calls.spliced_cons (thn (ha pins s U H _ I h) fun u s1 ⟨x,H1,I1,r1,q1⟩=>?_)
 exact thn (hr pos pins s1 U H1 _ I1 q1) fun us s2 ⟨xs,H2,I2,r2,q2⟩=>⟨x::xs,H2,I2,.cons r1 r2,q2⟩
def zi4 (t:TA):TE:=fun U H Q=>t U H fun xs H1=>xs.length<=sizeLine/\∀p,H1 p=none->Q (.ref p) (upd H1 p (.tup xs))
def zi5 (t:TA):TE:=fun U H Q=>t U H fun xs H1=>xs.length<=sizeLine/\∀p,H1 p=none->Q (.ref p) (upd H1 p (.lst xs))
def zi6 {x1}(h:PA X es t):PE X (.Tuple es x1 pos) (zi4 t):=by
 intro pins s U H Q I hq
 refine wpAny_Tuple_spliced (thn (h pos pins s U H _ I hq) fun us s1 ⟨xs,H1,I1,r,z,q⟩=>⟨by rw [<-r.length];exact z,?_⟩)
 have hf:H1 s1.heap.objs.size=none:=I1.hok.fresh (yg _)
 refine ⟨.ref s1.heap.objs.size,upd H1 s1.heap.objs.size (.tup xs),I1.laid (t':=s1.toks) (fun b u e=>yo _ e) (yg _) ?_,rfl,q _ hf⟩
 exact ⟨z,us,r,⟨_,y8 _ rfl,rfl,_,rfl⟩⟩
def zi7 (h:PA X es t):PE X (.List es pos) (zi5 t):=by
 intro pins s U H Q I hq
 refine wpAny_List_spliced (thn (h pos pins s U H _ I hq) fun us s1 ⟨xs,H1,I1,r,z,q⟩=>⟨by rw [<-r.length];exact z,?_⟩)
 have hf:H1 s1.heap.objs.size=none:=I1.hok.fresh (yg _)
 refine ⟨.ref s1.heap.objs.size,upd H1 s1.heap.objs.size (.lst xs),I1.laid (t':=s1.toks) (fun b u e=>yo _ e) (yg _) ?_,rfl,q _ hf⟩
 exact ⟨z,us,0,r,y8 _ rfl⟩
end
abbrev Sp:=List V->Hp->VK->XK->Prop
abbrev CXT:=List Env->Hp->Shared->XK->Value->Shared->Prop
structure Env0 (P:Program) (w:World) (K:PySem.W.Frag) (mg:Str->Option Value) (base:Heap) (A:Around) (outer:List Env) (s:Shared) (H:Hp):Prop where
 frames:A.frames=some outer
 mod:Mod K mg base
 bs:∀b o,base.get? b=some o->s.heap.get? b=some o/\H b=none
 bsz:base.objs.size<=s.heap.objs.size
 funs:s.heap.FunFrames base outer
 frf:∀b∈frs outer,H b=none
 hok:HOk P w H s.heap
 bare:AllBare s.gens
def CE (outer:List Env) (P:Program) (w:World) (H:Hp) (s:Shared) (Q:VK) (u:Value) (s':Shared):Prop :=
 ∃v H',s'.os=s.os/\AllBare s'.gens/\Un (frs outer) [] H H' s.heap s'.heap/\HOk P w H' s'.heap/\RelV v u/\Q v H'
def CR (CX:CXT) (outer:List Env) (P:Program) (w:World) (H:Hp) (s:Shared) (Q:VK) (E:XK) (r:Result) (s':Shared):Prop :=
 match r with
 | .ok (.ret u)=>CE outer P w H s Q u s'
 | .ok _=>False
 | .error e=>CX outer H s E e s'
structure FnOk (P:Program) (w:World) (K:PySem.W.Frag) (mg:Str->Option Value) (base:Heap) (CX:CXT) (k:Nat) (f:Addr) (fd:FuncData) (ps:List Str) (sp:Sp):Prop where
 len:∀vs H Q E,sp vs H Q E->vs.length=ps.length
 run:∀(A:Around) (outer:List Env) (s:Shared) (H:Hp) (args:Args) (us:List Value) (vs:List V) (Q:VK) (E:XK),Room k A->Env0 P w K mg base A outer s H->BindsTo s fd args (ps.zip us)->Vals vs us->sp vs H Q E ->
  codeAny (model P w) A (.call (.ref f) args) (CR CX outer P w H s Q E) s
def FnOk.mono {P:Program}{w:World}{K:PySem.W.Frag}{mg:Str->Option Value}{base:Heap}{CX:CXT}{j k:Nat}{f:Addr}{fd:FuncData}{ps:List Str}{sp:Sp}(F:FnOk P w K mg base CX j f fd ps sp) (h:j<=k) :
  FnOk P w K mg base CX k f fd ps sp:=⟨F.len,fun A outer s H args us vs Q E hr=>F.run A outer s H args us vs Q E (hr.mono h)⟩
def FnOk.imp {P:Program}{w:World}{K:PySem.W.Frag}{mg:Str->Option Value}{base:Heap}{CX:CXT}{k:Nat}{f:Addr}{fd:FuncData}{ps:List Str}{sp sp':Sp}(F:FnOk P w K mg base CX k f fd ps sp)
  (h:∀vs H Q E,sp' vs H Q E->sp vs H Q E):FnOk P w K mg base CX k f fd ps sp' :=
 ⟨fun vs H Q E q=>F.len vs H Q E (h _ _ _ _ q),fun A outer s H args us vs Q E hr he hb hv hs=>F.run A outer s H args us vs Q E hr he hb hv (h _ _ _ _ hs)⟩
def Env0.make {P:Program}{w:World}{K:PySem.W.Frag}{mg:Str->Option Value}{base:Heap}{A:Around}{outer:List Env}{s:Shared}{H:Hp}(e:Env0 P w K mg base A outer s H) (C:Addr) (us:List Value) (kw:List (Str×Value)) :
  Env0 P w K mg base (A.under (.builtin "type.__call__" ⟨.ref C::us,kw⟩)) outer s H:=⟨by first|exact e.frames|(simpa [Around.under,Code.envs,Code.isFrame,pushEnvs] using e.frames),e.mod,e.bs,e.bsz,e.funs,e.frf,e.hok,e.bare⟩
section
variable {X:Cx}{pins:List (Addr×Obj)}{U:St}{H:Hp}{s s':Shared}
def Inv.env0 (I:Inv X pins U H s):Env0 X.prog X.w X.K X.mg X.base X.A X.stack s H :=
 ⟨I.ok.frames,I.ok.mod,I.bs,yT I.ok.bsz I.sz,I.stack,I.stkFree,I.hok,I.bare⟩
def Inv.after {Q:VK}{u:Value}(I:Inv X pins U H s) (h:CE X.stack X.prog X.w H s Q u s'):EP X pins U Q u s':=by
 obtain ⟨v,H',os,bare,un,hok,r,q⟩:=h
 obtain ⟨hh,g,d,t,os'⟩:=s'
 obtain rfl:os'=s.os:=os
 exact ⟨v,H',I.call (h':=hh) (g':=g) (d':=d) (t':=t) (ch:=[]) un hok bare (fun b z=>absurd z (by simp)),r,q⟩
end
def zi8 (sp:Sp) (dvs:List V) (E:XK) (t:TA):TE:=fun U H Q=>t U H fun vs H1=>sp (vs++dvs) H1 Q E
def zi9 (C:Addr) (sp:Sp) (dvs:List V) (E:XK) (t:TA):TE:=fun U H Q=>t U H fun vs H1=>∀x dx,H1 x=none->H1 dx=none->dx≠x ->
 sp (.ref x::(vs++dvs)) (upd (upd H1 dx (.own x)) x (.ins C dx [])) (fun v H2=>v=.non/\Q (.ref x) H2) E
def Binds (K:PySem.W.Frag) (fd:FuncData) (ps:List Str) (ds:List Value):Prop :=
 ∀(s:Shared) (us:List Value),K.In s.heap->(us++ds).length=ps.length->BindsTo s fd ⟨us,[]⟩ (ps.zip (us++ds))
def Binds.all {K:PySem.W.Frag}{fd:FuncData}{ps:List Str}(h:∀us:List Value,us.length=ps.length->bindArgs fd ⟨us,[]⟩=pure (ps.zip us)):Binds K fd ps []:=fun s us _ hl=>by
 rw [List.append_nil] at hl ⊢
 exact .of_eq (h us hl)
def Passes (CX:CXT) (X:Cx) (E:XK):Prop:=∀(pins:List (Addr×Obj)) (U:St) (H:Hp) (s:Shared) (e:Value) (s':Shared),Inv X pins U H s->CX X.stack H s E e s'->X.xe e s'
section
variable {X:Cx}{CX:CXT}{k:Nat}{f C:Addr}{fd:FuncData}{ps:List Str}{sp:Sp}{dvs:List V}{ds:List Value}{E:XK}{x m:Str}{p pos apos:Pos}{e o:Expr}{es:List Expr}{ta:TE}{t:TA}
def zeb {pins:List (Addr×Obj)}{U:St}{H:Hp}{s:Shared}{Q:VK}{us:List Value}{vs:List V}(F:FnOk X.prog X.w X.K X.mg X.base CX k f fd ps sp) (hr:Room k X.A) (hb:Binds X.K fd ps ds) (hd:Vals dvs ds) (hx:Passes CX X E)
  (I:Inv X pins U H s) (r:Vals vs us) (h:sp (vs++dvs) H Q E):wpAny (model X.prog X.w) X.A (call (.ref f) us) (EP X pins U Q) X.xe s:=by
 have r2:Vals (vs++dvs) (us++ds):=r.append hd
 have hl:(us++ds).length=ps.length:=by rw [<-r2.length];exact F.len _ _ _ _ h
 refine wpAny_call (codeAny_mono (F.run X.A X.stack s H ⟨us,[]⟩ (us++ds) (vs++dvs) Q E hr I.env0 (hb s us I.kIn hl) r2 h) fun r s' hq=>?_)
 cases r with
 | error e=>exact hx pins U H s e s' I hq
 | ok fl =>
  cases fl with
  | ret u=>exact I.after hq
  | next=>exact hq.elim
  | brk=>exact hq.elim
  | cont=>exact hq.elim
def zja (F:FnOk X.prog X.w X.K X.mg X.base CX k f fd ps sp) (hr:Room k X.A) (hg:Gl X x) (hm:X.mg x=some (.ref f)) (hk:PySem.W.keepIn X.K (.ref f)=true) (hb:Binds X.K fd ps ds) (hd:Vals dvs ds) (hx:Passes CX X E)
  (ha:PA X (e::es) t) (hdb:(x==("__debug__" : Str))=false:=by decide) (he:starEach (e::es) X.env=(false,eval e X.env)::starEach es X.env:=by rfl) (hpl:(backTo pos (starEach es X.env)).any (·.1)=false:=by rfl) :
  PE X (.Call (.Name x p) (e::es) [] pos) (zi8 sp dvs E t):=by
 intro pins s U H Q I h
 refine wpAny_Call_Name_kw (zbF I hg hm ?_ hdb)
 refine PySem.W.callWith_K (h₀:=X.base) I.ok.mod.kin hk (thn (ha pos pins s U H _ I h) fun us s1 ⟨vs,H1,I1,r,q⟩=>⟨I1.kIn,?_⟩) he hpl
 exact zeb F hr hb hd hx I1 r q
structure Mk (K:PySem.W.Frag) (C f:Addr):Prop where
 makes:PySem.W.makesIn K C=true
 init:PySem.W.findIn K (.ref C) "__init__" = some (some (.ref f))
 fn:PySem.W.isFn K (.ref f)=true
 kp:PySem.W.keepIn K (.ref C)=true
def zjb {pins:List (Addr×Obj)}{U:St}{H:Hp}{s:Shared}{Q:VK}{us:List Value}{vs:List V}(M:Mk X.K C f) (F:FnOk X.prog X.w X.K X.mg X.base CX k f fd ps sp) (hr:Room (k+1) X.A) (hb:Binds X.K fd ps ds) (hd:Vals dvs ds)
  (hx:Passes CX X E) (I:Inv X pins U H s) (r:Vals vs us)
  (h:∀x dx,H x=none->H dx=none->dx≠x->sp (.ref x::(vs++dvs)) (upd (upd H dx (.own x)) x (.ins C dx [])) (fun v H2=>v=.non/\Q (.ref x) H2) E) :
  wpAny (model X.prog X.w) X.A (call (.ref C) us) (EP X pins U Q) X.xe s:=by
 have hq:=h (s.heap.objs.size+1) s.heap.objs.size (I.hok.fresh (Nat.le_succ _)) (I.hok.fresh (yg _)) (yz (jL _))
 have I2:=Inv.made (C:=C) I
 have r2:Vals (V.ref (s.heap.objs.size+1)::(vs++dvs)) (Value.ref (s.heap.objs.size+1)::(us++ds)):=.cons rfl (r.append hd)
 have hl:(Value.ref (s.heap.objs.size+1)::us++ds).length=ps.length:=by
  have e:=r2.length
  rw [F.len _ _ _ _ hq] at e
  exact e.symm
 refine wpAny_call (ziU (f:=f) I.kIn M.makes M.init (beq_iff_eq.mp M.fn) (codeAny_mono (F.run _ X.stack _ _ ⟨Value.ref (s.heap.objs.size+1)::us,[]⟩ (Value.ref (s.heap.objs.size+1)::(us++ds)) _ _ E (hr.make C us [])
  (I2.env0.make C us []) (hb _ (Value.ref (s.heap.objs.size+1)::us) I2.kIn hl) r2 hq) fun r s' hq'=>?_))
 cases r with
 | error e=>exact hx pins U _ _ e s' I2 hq'
 | ok fl =>
  cases fl with
  | ret u =>
   obtain ⟨v,H',I3,rv,ev,q3⟩:=I2.after hq'
   subst ev
   exact ⟨rv,⟨V.ref (s.heap.objs.size+1),H',I3,rfl,q3⟩⟩
  | next=>exact hq'.elim
  | brk=>exact hq'.elim
  | cont=>exact hq'.elim
def zjc (M:Mk X.K C f) (F:FnOk X.prog X.w X.K X.mg X.base CX k f fd ps sp) (hr:Room (k+1) X.A) (hg:Gl X x) (hm:X.mg x=some (.ref C)) (hb:Binds X.K fd ps ds) (hd:Vals dvs ds) (hx:Passes CX X E)
  (ha:PA X (e::es) t) (hdb:(x==("__debug__" : Str))=false:=by decide) (he:starEach (e::es) X.env=(false,eval e X.env)::starEach es X.env:=by rfl) (hpl:(backTo pos (starEach es X.env)).any (·.1)=false:=by rfl) :
  PE X (.Call (.Name x p) (e::es) [] pos) (zi9 C sp dvs E t):=by
 intro pins s U H Q I h
 refine wpAny_Call_Name_kw (zbF I hg hm ?_ hdb)
 refine PySem.W.callWith_K (h₀:=X.base) I.ok.mod.kin M.kp (thn (ha pos pins s U H _ I h) fun us s1 ⟨vs,H1,I1,r,q⟩=>⟨I1.kIn,?_⟩) he hpl
 exact zjb M F hr hb hd hx I1 r q
end
section
variable {X:Cx}{CX:CXT}{k:Nat}{f C:Addr}{fd:FuncData}{ps ks:List Str}{sp:Sp}{E:XK}{x m:Str}{p pos apos kpos:Pos}{e o:Expr}{es:List Expr}{kws:List Keyword}{te ta:TE}{t tk:TA}{nm:Option Str}
structure KBinds (K:PySem.W.Frag) (fd:FuncData) (ps ks:List Str) (g:List Value->List Value->List Value) (gV:List V->List V->List V):Prop where
 to:∀(s:Shared) (us ws:List Value),K.In s.heap->(g us ws).length=ps.length->BindsTo s fd ⟨us,ks.zip ws⟩ (ps.zip (g us ws))
 rel:∀{vs:List V} {us:List Value} {zs:List V} {ws:List Value},Vals vs us->Vals zs ws->Vals (gV vs zs) (g us ws)
variable {g:List Value->List Value->List Value}{gV:List V->List V->List V}
end
structure FnScope (N P:List Str) (sc:Scope):Prop where
 kind:sc.kind=.function
 co:sc.isCoroutine=false
 gen:sc.isGenerator=false
 nd:N.Nodup
 pre:N.take P.length=P
 par:∀x∈P,sc.names.lookup x=some .local\/sc.names.lookup x=some .cell
 nofree:∀y∈sc.names,y.2 ≠ .free
def zec {kindOf:Str->Option NameKind}{x:Str}:∀{binds:List (Str×Value)}{m:Str->Option Value},(∀v,(x,v)∉binds)->bindL kindOf binds m x=m x
 | [],_,_=>rfl
 | (n,v)::r,m,h=>by
  unfold bindL
  rw [zec fun w hw=>h w (jh _ hw)]
  split
  ·have:x≠n:=by rintro rfl;exact h v yO
   simp [this]
  ·rfl
def zed {kindOf:Str->Option NameKind}{x:Str}:∀{binds:List (Str×Value)}{m:Str->Option Value},(∀v,(x,v)∉binds)->bindC kindOf binds m x=m x
 | [],_,_=>rfl
 | (n,v)::r,m,h=>by
  unfold bindC
  rw [zed fun w hw=>h w (jh _ hw)]
  split
  ·rfl
  ·have:x≠n:=by rintro rfl;exact h v yO
   simp [this]
def zee {kindOf:Str->Option NameKind}{x:Str}{v:Value}:∀{P:List Str}{vs:List Value}{i:Nat}{m:Str->Option Value},P.Nodup->P[i]?=some x->vs[i]?=some v->kindOf x=some .local ->
  bindL kindOf (P.zip vs) m x=some v
 | [],_,_,_,_,h,_,_=>by simp at h
 | _::_,[],_,_,_,_,h,_=>by simp at h
 | p::P,w::vs,0,m,nd,h1,h2,hk=>by
  simp at h1 h2;subst h1;subst h2
  show bindL kindOf ((p,w)::P.zip vs) m p=_
  unfold bindL
  rw [zec fun v hv=>(jc.mp nd).1 (List.of_mem_zip hv).1,zE hk]
  simp
 | p::P,w::vs,i+1,m,nd,h1,h2,hk=>by
  show bindL kindOf ((p,w)::P.zip vs) m x=_
  unfold bindL
  exact zee (i:=i) (jc.mp nd).2 (by simpa using h1) (by simpa using h2) hk
def zef {kindOf:Str->Option NameKind}{x:Str}{v:Value}:∀{P:List Str}{vs:List Value}{i:Nat}{m:Str->Option Value},P.Nodup->P[i]?=some x->vs[i]?=some v->kindOf x≠some .local ->
  bindC kindOf (P.zip vs) m x=some v
 | [],_,_,_,_,h,_,_=>by simp at h
 | _::_,[],_,_,_,_,h,_=>by simp at h
 | p::P,w::vs,0,m,nd,h1,h2,hk=>by
  simp at h1 h2;subst h1;subst h2
  show bindC kindOf ((p,w)::P.zip vs) m p=_
  unfold bindC
  rw [zed fun v hv=>(jc.mp nd).1 (List.of_mem_zip hv).1,zN hk]
  simp
 | p::P,w::vs,i+1,m,nd,h1,h2,hk=>by
  show bindC kindOf ((p,w)::P.zip vs) m x=_
  unfold bindC
  exact zef (i:=i) (jc.mp nd).2 (by simpa using h1) (by simpa using h2) hk
def start (N:List Str) (vs:List V):St:=vs.map some++List.replicate (N.length-vs.length) none
def cxOf (CX:CXT) (P:Program) (w:World) (K:PySem.W.Frag) (mg:Str->Option Value) (base:Heap) (N:List Str) (qual:Str) (scope:Scope) (f:Addr) (cd:Value) (A:Around) (outer:List Env) (s:Shared) (H:Hp) (E:XK):Cx where
 prog:=P
 w:=w
 K:=K
 mg:=mg
 base:=base
 A:=A.deeper (envOfC qual scope s.heap.objs.size f cd)
 N:=N
 s₀:=s
 H₀:=H
 env:=envOfC qual scope s.heap.objs.size f cd
 outer:=outer
 stack:=envOfC qual scope s.heap.objs.size f cd::outer
 ex:=[]
 calm:=true
 fn:=fun _=>true
 pn:=[]
 xe:=fun e s'=>wpAny (model P w) (A.deeper (envOfC qual scope s.heap.objs.size f cd)) (leaving (envOfC qual scope s.heap.objs.size f cd) e) (fun _ s''=>CX outer H s E e s'') (fun e' s''=>CX outer H s E e' s'') s'
def zeg {sc:Scope}{n:Nat}{x:Str}(h:sc.names.lookup x=some .cell):∃c,(cellsFrom n sc.names []).lookup x=some c:=by
 have q:=PySem.W.cellsFrom_some sc.names n [] (.inl h)
 exact Option.isSome_iff_exists.mp q
def zjd {CX:CXT}{P:Program}{w:World}{K:PySem.W.Frag}{mg:Str->Option Value}{base:Heap}{N ps:List Str}{qual:Str}{scope:Scope}{f:Addr}{cd:Value}{A:Around}{outer:List Env}{s s1:Shared}{H:Hp}{E:XK}{us:List Value}{vs:List V}
  (S:FnScope N ps scope) (hd:A.handled=none) (e0:Env0 P w K mg base A outer s H) (hl:vs.length=ps.length) (r:Vals vs us)
  (x:InCallC s s.heap.objs.size (bindL (envOfC qual scope s.heap.objs.size f cd).kindOf (ps.zip us) fun _=>none) (cellsFrom (s.heap.objs.size+1) scope.names []) (bindC (envOfC qual scope s.heap.objs.size f cd).kindOf (ps.zip us) fun _=>none) s1) :
  Inv (cxOf CX P w K mg base N qual scope f cd A outer s H E) [] (start N vs) H s1:=by
 have hpl:ps.length<=N.length:=by have:=congrArg List.length S.pre;rw [List.length_take] at this;omega
 obtain ⟨h1,tk,rfl,hk⟩:=x.done
 have noA:∀b:Addr,b∉(cxOf CX P w K mg base N qual scope f cd A outer s H E).ex:=fun b z=>absurd (show b∈([]:List Addr) from z) (by simp)
 refine ⟨⟨e0.mod,S.kind,rfl,rfl,yg _,fun y z c h1 h2=>?_,fun y hy=>?_,fun y c _ h=>?_,fun _=>hd,Around.frames_deeper e0.frames,.inr ⟨rfl,rfl⟩,fun b z=>absurd z (noA b),e0.bs,e0.bsz,fun b _ _=>noA b,fun b z=>absurd z (noA b),e0.funs,e0.frf⟩,
  rfl,e0.bare,Un.kept hk,⟨_,x.toInCall.ns,fun i y v h1 h2 h3=>?_⟩,fun y c h=>⟨_,x.cell y c h⟩,e0.hok.fresh (yg _),fun y c h=>?_,fun p hp=>absurd (show p∈([]:List (Addr×Obj)) from hp) (by simp),e0.hok.kept hk,?_⟩
 ·exact name_of_addr x.apart (PySem.mem_of_lookup h1) (PySem.mem_of_lookup h2)
 ·have hy:scope.names.lookup y=some .cell\/scope.names.lookup y=some .free:=hy
  rcases hy with hy|hy
  ·exact zeg hy
  ·exact absurd rfl (S.nofree _ (PySem.mem_of_lookup hy))
 ·exact Nat.le_of_lt (x.above y c (PySem.mem_of_lookup h))
 ·have hi:i<vs.length:=by
   unfold start at h2
   by_cases hi:i<vs.length
   ·exact hi
   ·rw [jZ (by simpa using hi)] at h2
    rw [List.getElem?_replicate] at h2
    split at h2<;>cases h2
  have ha:vs[i]?=some v:=by
   unfold start at h2
   rw [we (by simpa using hi),jt] at h2
   cases e:vs[i]? with
   | none=>rw [e] at h2;cases h2
   | some a=>rw [e] at h2;cases h2;rfl
  obtain ⟨u,hu,rv⟩:=r.get ha
  have hp:ps[i]?=some y:=by
   rw [<-S.pre,List.getElem?_take_of_lt (by omega)];exact h1
  have ndP:ps.Nodup:=by rw [<-S.pre];exact S.nd.sublist (List.take_sublist _ _)
  refine ⟨u,rv,?_⟩
  rcases S.par y (wc hp) with k|k
  ·exact .inl ⟨k,zee ndP hp hu k⟩
  ·obtain ⟨c,e⟩:=zeg (n:=s.heap.objs.size+1) k
   refine .inr ⟨.inl k,c,e,?_⟩
   have q:=x.cell y c e
   rw [zef ndP hp hu (by show scope.names.lookup y≠_;rw [k];decide)] at q
   exact q
 ·exact e0.hok.fresh (Nat.le_of_lt (x.above y c (PySem.mem_of_lookup h)))
 ·unfold start
  show _=N.length
  rw [zac,jX,List.length_replicate]
  omega
def zje {CX:CXT}{P:Program}{w:World}{K:PySem.W.Frag}{mg:Str->Option Value}{base:Heap}{k:Nat}{f:Addr}{name qual:Str}{params:Arguments}{body:List Stmt}{scope:Scope}{dV kV doc pm cdv ct oc:Value}{an od:Option Addr}
  {osl:Array (Option Value)} {N ps:List Str} {sp:Sp} (lk:K.lookup f=some ⟨oc,od,.func (PySem.W.fnOf name qual params body scope dV kV doc pm an cdv ct),osl⟩) (hcd:PySem.W.codeIn K cdv qual=true) (S:FnScope N ps scope)
  (len:∀vs H Q E,sp vs H Q E->vs.length=ps.length)
  (hbody:∀(A:Around) (outer:List Env) (s:Shared) (H:Hp) (vs:List V) (Q:VK) (E:XK),Room k (A.deeper (envOfC qual scope s.heap.objs.size f cdv))->sp vs H Q E ->
   ∃t,PSs (cxOf CX P w K mg base N qual scope f cdv A outer s H E) body t/\t { nx:=fun _ H'=>Q .non H',rt:=Q } (start N vs) H) :
  FnOk P w K mg base CX (k+1) f (PySem.W.fnOf name qual params body scope dV kV doc pm an cdv ct) ps sp:=by
 refine ⟨len,fun A outer s H args us vs Q E hr e0 hb r hsp=>?_⟩
 have hl:=len _ _ _ _ hsp
 have KX:K.In s.heap:=e0.mod.kin.keeps fun b o e=>(e0.bs b o e).1
 have lim:s.heap.NoLimit:=e0.mod.nolimit.keeps fun b o e=>(e0.bs b o e).1
 have hkind:∀y∈ps.zip us,scope.names.lookup y.1=some .local\/(scope.names.lookup y.1=some .cell/\((cellsFrom (s.heap.objs.size+1) scope.names []).lookup y.1).isSome=true):=fun ⟨n,v⟩ hy=>by
  rcases S.par n (List.of_mem_zip hy).1 with q|q
  ·exact .inl q
  ·exact .inr ⟨q,PySem.W.cellsFrom_some _ _ _ (.inl q)⟩
 refine codeAny_call_function hr.depth (KX _ _ lk) rfl S.co S.gen rfl (PySem.W.codeRec_of KX hcd) (hb _ _ _ _ ?_)
 refine wpAny_newFunctionEnv_cells S.kind hkind fun env he s1 x=>?_
 subst he
 refine ⟨lim.keeps x.toInCall.keep,codeAny_func ?_⟩
 obtain ⟨t,ht,hq⟩:=hbody A outer s H vs Q E (hr.deeper _) hsp
 have I:Inv (cxOf CX P w K mg base N qual scope f cdv A outer s H E) [] (start N vs) H s1:=zjd S hr.hd e0 hl r x
 refine y9 (ht [] s1 (start N vs) H _ I hq) (fun fl s' hs=>?_) fun e s' hs=>hs
 have fin:∀{ai:St} {H':Hp} {v:V} {u:Value},Inv (cxOf CX P w K mg base N qual scope f cdv A outer s H E) [] ai H' s'->RelV v u->Q v H'->CE outer P w H s Q u s' :=
  fun {ai H' v u} J rv q=>⟨v,H',J.os,J.bare,J.base,J.hok,rv,q⟩
 cases fl with
 | ret u =>
  obtain ⟨v,ai,H',J,rv,q⟩:=hs
  exact fin J rv q
 | next =>
  obtain ⟨ai,H',J,q⟩:=hs
  exact fin (v:=V.non) (u:=Value.none) J rfl q
 | brk =>
  obtain ⟨_,_,_,q⟩:=hs
  exact q.elim
 | cont =>
  obtain ⟨_,_,_,q⟩:=hs
  exact q.elim
section
variable {X:Cx}{x:Str}{p pos:Pos}{e:Expr}{es:List Expr}{t:TA}{id T:String}{r:List V->Hp->VK->Prop}
def tCB (r:List V->Hp->VK->Prop) (t:TA):TE:=fun U H Q=>t U H fun vs H1=>r vs H1 Q
def zjf (hc:CallR X (.builtin id) r) (hg:Gl X x) (hm:X.mg x=none) (hv:bootBuiltins x=some (.builtin id)) (ha:PA X (e::es) t) (hn:x ≠ "__name__" := by decide) (hdb:(x==("__debug__" : Str))=false:=by decide)
  (he:starEach (e::es) X.env=(false,eval e X.env)::starEach es X.env:=by rfl) (hpl:(backTo pos (starEach es X.env)).any (·.1)=false:=by rfl):PE X (.Call (.Name x p) (e::es) [] pos) (tCB r t):=by
 intro pins s U H Q I h
 refine wpAny_Call_Name_kw (za3 I hg hm hv ?_ hn hdb)
 exact PyProof.Rows.callWith_builtin1 (thn (ha pos pins s U H _ I h) fun us s1 ⟨vs,H1,I1,r1,q1⟩=>hc pins s1 U H1 vs us Q I1 r1 q1) he hpl
def zjg (hc:CallR X (.type T) r) (hg:Gl X x) (hm:X.mg x=none) (hv:bootBuiltins x=some (.type T)) (ha:PA X (e::es) t) (hn:x ≠ "__name__" := by decide) (hdb:(x==("__debug__" : Str))=false:=by decide)
  (he:starEach (e::es) X.env=(false,eval e X.env)::starEach es X.env:=by rfl) (hpl:(backTo pos (starEach es X.env)).any (·.1)=false:=by rfl):PE X (.Call (.Name x p) (e::es) [] pos) (tCB r t):=by
 intro pins s U H Q I h
 refine wpAny_Call_Name_kw (za3 I hg hm hv ?_ hn hdb)
 exact PyProof.Rows.callWith_type1 (thn (ha pos pins s U H _ I h) fun us s1 ⟨vs,H1,I1,r1,q1⟩=>hc pins s1 U H1 vs us Q I1 r1 q1) he hpl
end
end L2
namespace HT
open PySem PyProof.Rows
section
open PySem.SeqAt
open PySem.AutoSeq1 (wpAny_loadPart')
open PySem.MeetsSeq PySem.MeetsSeq2 PySem.MeetsSeq3
end
section
variable {prog:Program}{w:World}{A:Around}{E:Value->Shared->Prop}{s:Shared}
def cat_tup {t b:Addr}{vs ws:List Value}{Q:Value->Shared->Prop}(ht:IsTup s.heap t vs.toArray) (hb:IsTup s.heap b ws.toArray) (hv:vs≠[])
  (h1:ws=[]->Q (.ref t) s) (h2:ws≠[]->Q (.ref s.heap.objs.size) { s with heap:=s.heap.push { cls:=.type "tuple", data:=.seq (vs++ws).toArray } })
  (hsz:vs.length+ws.length<=sizeLine):wpAny (model prog w) A (binaryOp .Add (.ref t) (.ref b)) Q E s:=by
 obtain ⟨⟨cls,dd,data,sl⟩,ho,hc,n,hd⟩:=id ht
 obtain ⟨⟨cls2,dd2,data2,sl2⟩,ho2,hc2,n2,hd2⟩:=id hb
 simp only at hc hd hc2 hd2
 subst hc hd hc2 hd2
 have e:vs.toArray++ws.toArray=(vs++ws).toArray:=by simp
 by_cases hw:ws=[]
 ·exact concat_meets ⟨_,ho,rfl⟩ ⟨_,ho2,rfl⟩ noFill_tuple_add seq_tuple_add PySem.F.slot_tuple_add PySem.F.entry_tuple_add (PySem.F.args_tuple_add_2 _ _)
   (tuple_addW1 t b vs.toArray ws.toArray n n2 dd dd2 sl sl2 (by simpa using hv) (by simp [hw])) ⟨ho,ho2,h1 hw⟩
 ·refine concat_meets ⟨_,ho,rfl⟩ ⟨_,ho2,rfl⟩ noFill_tuple_add seq_tuple_add PySem.F.slot_tuple_add PySem.F.entry_tuple_add (PySem.F.args_tuple_add_2 _ _)
   (tuple_addW2 t b vs.toArray ws.toArray n n2 dd dd2 sl sl2 (by simpa using hv) (by simpa using hw) (by rw [yx,yx];exact hsz)) ⟨ho,ho2,?_⟩
  rw [e]
  exact h2 hw
def sIx (n d:Nat):Option Int->Nat
 | none=>d
 | some v=>if v<0 then (v+(n:Int)).toNat else min v.toNat n
def sIx_none (n d:Nat):sIx n d none=d:=rfl
def sIx_nat (n d k:Nat):sIx n d (some (k:Int))=min k n:=by
 show (if (k:Int)<0 then ((k:Int)+(n:Int)).toNat else min (k:Int).toNat n)=min k n
 rw [zN (by omega),Int.toNat_natCast]
def zjh (n d:Nat) (hd:d<=n) (o:Option Int):sIx n d o<=n:=by
 cases o with
 | none=>exact hd
 | some v =>
  show (if v<0 then (v+(n:Int)).toNat else min v.toNat n)<=n
  by_cases hv:v<0
  ·rw [zE hv];omega
  ·rw [zN hv];exact Nat.min_le_right _ _
def zei (v:Int) (n d:Nat):(if v<0 then max (v+(n:Int)) 0 else min v (n:Int))=((sIx n d (some v):Nat):Int):=by
 show (if v<0 then max (v+(n:Int)) 0 else min v (n:Int))=(((if v<0 then (v+(n:Int)).toNat else min v.toNat n):Nat):Int)
 by_cases hv:v<0
 ·simp only [zE hv];omega
 ·simp only [zN hv];omega
def zji (lo hi:Option Int) (n:Nat):Builtin.Slice.sliceAdjust lo hi 1 (n:Int)=(((sIx n 0 lo:Nat):Int),((sIx n n hi:Nat):Int)):=by
 have h1:¬((1:Int)<0):=by omega
 unfold Builtin.Slice.sliceAdjust
 simp only [h1,if_false]
 refine Prod.ext ?_ ?_
 ·cases lo with
  | none=>rfl
  | some v=>exact zei v n 0
 ·cases hi with
  | none=>rfl
  | some v=>exact zei v n n
def zjj (i j:Nat):Builtin.Slice.slicePlaces (i:Int) (j:Int) 1=j-i:=by
 unfold Builtin.Slice.slicePlaces
 have h1:(1:Int)>0:=by omega
 simp only [h1,wb,Int.ediv_one]
 split<;>omega
def zej {v:Value}{o:Option Int}{Q:Option Int->Shared->Prop}(p:IsPart v o) (h:Q o s):wpAny (model prog w) A (Builtin.Slice.slicePartIndex v) Q E s:=by
 cases p with
 | none=>exact slicePart_none h
 | int i t=>exact slicePart_int h
def zek {sl:Addr}{vl vu:Value}{lo hi:Option Int}{n:Nat}{Q:Int×Int×Nat->Shared->Prop}(hs:s.heap.IsSliceOf sl vl vu .none) (pl:IsPart vl lo) (pu:IsPart vu hi)
  (h:Q (((sIx n 0 lo:Nat):Int),1,sIx n n hi-sIx n 0 lo) s):wpAny (model prog w) A (Builtin.Slice.sliceApplied (.ref sl) (pure (n:Int))) Q E s:=by
 obtain ⟨os,hos,hcs,hds⟩:=id hs
 unfold Builtin.Slice.sliceApplied Builtin.Slice.sliceFields
 refine zt (zt (j9 hos hds (x:=vl) rfl (zt (j9 hos hds (x:=vu) rfl (zt (j9 hos hds (x:=.none) rfl (zM ?_)))))))
 refine zt (slicePart_none ?_)
 show wpAny _ _ (if ((1:Int)==0)=true then _ else _) _ _ s
 rw [zN (by decide)]
 refine zt (zej pl (zt (zej pu (zt (zM ?_)))))
 show wpAny _ _ (match Builtin.Slice.sliceAdjust lo hi 1 (n:Int) with|(lo,hi)=>pure (lo,(1:Int),Builtin.Slice.slicePlaces lo hi 1)) _ _ s
 rw [zji lo hi n]
 show wpAny _ _ (pure (((sIx n 0 lo:Nat):Int),(1:Int),Builtin.Slice.slicePlaces ((sIx n 0 lo:Nat):Int) ((sIx n n hi:Nat):Int) 1)) _ _ s
 rw [zjj]
 exact zM h
def zjk (xs:Array Value) (i k:Nat):((List.range k).filterMap fun (m:Nat)=>xs[((i:Int)+(m:Int)*1).toNat]?).toArray=((xs.toList.drop i).take k).toArray:=by
 have e:(fun (m:Nat)=>xs[((i:Int)+(m:Int)*1).toNat]?)=fun m=>xs[i+m]?:=by
  funext m
  have:((i:Int)+(m:Int)*1).toNat=i+m:=by omega
  rw [this]
 rw [e]
 have:=pick_run xs i k
 rw [List.filterMap_map] at this
 have e2:((fun x=>xs[x]?)∘fun x=>i+x)=fun m=>xs[i+m]?:=rfl
 rw [e2] at this
 rw [this]
def getItem_tuple_cut {t sl:Addr}{items:Array Value}{vl vu:Value}{lo hi:Option Int}{Q:Value->Shared->Prop}(ht:IsTup s.heap t items) (hs:s.heap.IsSliceOf sl vl vu .none) (pl:IsPart vl lo) (pu:IsPart vu hi)
  (hw:¬(sIx items.size 0 lo=0/\sIx items.size items.size hi=items.size))
  (h:Q (.ref s.heap.objs.size) { s with heap:=s.heap.push { cls:=.type "tuple", data:=.seq ((items.toList.drop (sIx items.size 0 lo)).take (sIx items.size items.size hi-sIx items.size 0 lo)).toArray } })
  (hsz:items.size<=sizeLine):wpAny (model prog w) A (getItem (.ref t) (.ref sl)) Q E s:=by
 have htake:sizeOk (.seq ((items.toList.drop (sIx items.size 0 lo)).take (sIx items.size items.size hi-sIx items.size 0 lo)).toArray):=by
  show ((items.toList.drop (sIx items.size 0 lo)).take (sIx items.size items.size hi-sIx items.size 0 lo)).toArray.size<=sizeLine
  rw [yx,List.length_take,List.length_drop,Array.length_toList]
  omega
 have hj:sIx items.size items.size hi<=items.size:=zjh _ _ (yg _) hi
 obtain ⟨os,hos,hcs,hds⟩:=id hs
 have hTs:s.TypeIs (.ref sl) "slice" := ⟨os,hos,hcs⟩
 unfold getItem
 try with_reducible refine jp ?_
 first|refine zt (zM ?_)|skip
 refine zt (wpAny_sequenceKey ht.typeIs (by decide) ?_)
 refine zt (wpAny_callSpecial?_slot (name:=Str.ofString "__getitem__") ht.typeIs PyProof.Rows.slot_tuple_getitem
  (wF PyProof.Rows.slot_tuple_getitem ht.typeIs entry_tuple_getitem ?_ (args_tuple_getitem _ _)))
 show wpAny _ _ (Builtin.Tuple.tupleItemsOf (.ref t) >>= _) _ _ s
 refine zt (tupleItemsOf_ ht ?_)
 refine zt (wpAny_typeOf hTs ?_)
 rw [zE (by decide)]
 refine zt (zek hs pl pu ?_)
 have hno:¬((((sIx items.size 0 lo:Nat):Int)==0&&(1:Int)==1&&(sIx items.size items.size hi-sIx items.size 0 lo)==items.size)=true):=by
  intro q
  rw [jK,jK] at q
  have q1:((sIx items.size 0 lo:Nat):Int)=0:=eq_of_beq q.1.1
  have q2:sIx items.size items.size hi-sIx items.size 0 lo=items.size:=eq_of_beq q.2
  exact hw ⟨by omega,by omega⟩
 show wpAny _ _ (if (((sIx items.size 0 lo:Nat):Int)==0&&(1:Int)==1&&(sIx items.size items.size hi-sIx items.size 0 lo)==items.size)=true then _ else _) _ _ s
 rw [zN hno,zjk]
 first
  | exact zt (m:=Builtin.Tuple.tupleExact _) (wG (zM ⟨_,rfl,zM h⟩) htake)
  | exact zt (m:=Builtin.Tuple.tupleExact _) (wG (zt (zM (zM ⟨_,rfl,zM h⟩))) htake)
  | exact zt (zt (m:=Builtin.Tuple.tupleExact _) (wG (zM (zM ⟨_,rfl,zM h⟩)) htake))
  | exact zt (zt (m:=Builtin.Tuple.tupleExact _) (wG (zM ⟨_,rfl,zM h⟩) htake))
end
end HT
namespace L2
open PySem PySem.Spec PyProof.Rows
abbrev TO:=St->Hp->(Option Int->Hp->Prop)->Prop
def PO (X:Cx) (e:Option Expr) (t:TO):Prop :=
 ∀(pins:List (Addr×Obj)) (s:Shared) (U:St) (H:Hp) (Q:Option Int->Hp->Prop),Inv X pins U H s->t U H Q ->
  wpAny (model X.prog X.w) X.A (evalPart e X.env) (fun u s'=>∃o H',Inv X pins U H' s'/\IsPart u o/\Q o H') X.xe s
def zjl:TO:=fun _ H Q=>Q none H
def zjm (t:TE):TO:=fun U H Q=>t U H fun x H1=>∃i,x=.int i/\Q (some i) H1
section
variable {X:Cx}{e:Expr}{te:TE}{lo hi:Option Expr}{tl th:TO}{pos p2:Pos}
def zjn:PO X none zjl:=by
 intro pins s U H Q I h
 rw [evalPart_none]
 exact zM ⟨none,H,I,.none,h⟩
def zjo (h:PE X e te):PO X (some e) (zjm te):=by
 intro pins s U H Q I hw
 rw [evalPart_some]
 refine thn (h pins s U H _ I hw) fun u s1 ⟨x,H1,I1,r1,q1⟩=>?_
 obtain ⟨i,rfl,q⟩:=q1
 obtain ⟨t,rfl⟩:=r1
 exact ⟨some i,H1,I1,.int i t,q⟩
def SlR (X:Cx) (r:V->Option Int->Option Int->Hp->VK->Prop):Prop :=
 ∀(pins:List (Addr×Obj)) (s:Shared) (U:St) (H:Hp) (x:V) (v vl vu:Value) (lo hi:Option Int) (sl:Addr) (Q:VK),Inv X pins U H s->RelV x v->s.heap.IsSliceOf sl vl vu .none->IsPart vl lo->IsPart vu hi->r x lo hi H Q ->
  ∃T id,typeLookup (.type T) "__getitem__" = pure (some (.builtin id))/\s.TypeIs v T/\wpAny (model X.prog X.w) X.A (getItem v (.ref sl)) (EP X pins U Q) X.xe s
def SlR.or {r r':V->Option Int->Option Int->Hp->VK->Prop}(h:SlR X r) (h':SlR X r'):SlR X (fun x lo hi H Q=>r x lo hi H Q\/r' x lo hi H Q):=by
 intro pins s U H x v vl vu lo hi sl Q I rx hs pl pu q
 rcases q with q|q
 ·exact h pins s U H x v vl vu lo hi sl Q I rx hs pl pu q
 ·exact h' pins s U H x v vl vu lo hi sl Q I rx hs pl pu q
def tSl (r:V->Option Int->Option Int->Hp->VK->Prop) (te:TE) (tl th:TO):TE:=fun U H Q=>te U H fun x H1=>tl U H1 fun l H2=>th U H2 fun u H3=>r x l u H3 Q
def zjq {r:V->Option Int->Option Int->Hp->VK->Prop}(hr:SlR X r) (he:PE X e te) (hl:PO X lo tl) (hu:PO X hi th):PE X (.Subscript e (.Slice lo hi none p2) pos) (tSl r te tl th):=by
 intro pins s U H Q I h
 refine Subscript_ (thn (he pins s U H _ I h) fun v s1 ⟨x,H1,I1,r1,q1⟩=>?_)
 refine wpAny_Slice (thn (hl pins s1 U H1 _ I1 q1) fun vl s2 ⟨l,H2,I2,pl,q2⟩=>thn (hu pins s2 U H2 _ I2 q2) fun vu s3 ⟨u,H3,I3,pu,q3⟩=>?_)
 rw [evalPart_none]
 refine zM ?_
 have I4:Inv X pins U H3 { s3 with heap:=s3.heap.push { cls:=.type "slice", data:=.fields #[vl,vu,.none] } }:=I3.kept (t':=s3.toks) fun b ob q=>yo _ q
 obtain ⟨T,id,hT,ht,hg⟩:=hr pins { s3 with heap:=s3.heap.push { cls:=.type "slice", data:=.fields #[vl,vu,.none] } } U H3 x v vl vu l u s3.heap.objs.size Q I4 r1 (Heap.IsSliceOf.new ..) pl pu q3
 show wpAny (model X.prog X.w) X.A (subscriptTail e (.Slice lo hi none p2) v (.ref s3.heap.objs.size)) (EP X pins U Q) X.xe { s3 with heap:=s3.heap.push { cls:=.type "slice", data:=.fields #[vl,vu,.none] } }
 exact tail_any (ops:=[.ref s3.heap.objs.size,v]) ht hT hg (by with_unfolding_all rfl)
def cutV (xs:List V) (lo hi:Option Int):List V:=(xs.drop (HT.sIx xs.length 0 lo)).take (HT.sIx xs.length xs.length hi-HT.sIx xs.length 0 lo)
def zel (xs:List V) (lo hi:Option Int):(cutV xs lo hi).length<=xs.length:=by
 unfold cutV
 rw [List.length_take,List.length_drop]
 omega
def zjr (K:PySem.W.Frag):V->Option Int->Option Int->Hp->VK->Prop:=fun x lo hi H Q=>∃a xs,x=.ref a/\SqT K H a xs /\
 ¬(HT.sIx xs.length 0 lo=0/\HT.sIx xs.length xs.length hi=xs.length)/\∀p,H p=none->Q (.ref p) (upd H p (.tup (cutV xs lo hi)))
def zjs:SlR X (zjr X.K):=by
 intro pins s U H x v vl vu lo hi sl Q I rx hs pl pu h
 obtain ⟨a,xs,rfl,hx,hw,q⟩:=h
 cases rx
 obtain ⟨its,r,ht,hz⟩:=I.tuple hx
 have hlen:its.toArray.size=xs.length:=by rw [yx];exact r.length.symm
 refine ⟨"tuple", _,PyProof.Rows.slot_tuple_getitem.lookup,ht.typeIs,?_⟩
 refine HT.getItem_tuple_cut ht hs pl pu (by rw [hlen];exact hw) ?_ (by rw [hlen];exact hz)
 rw [hlen]
 refine ⟨.ref s.heap.objs.size,_,I.laid (t':=s.toks) (o:=.tup (cutV xs lo hi)) (fun b ob q=>yo _ q) (yg _) ?_,rfl,q _ (I.hok.fresh (yg _))⟩
 exact ⟨yT (zel xs lo hi) hz,_,(r.drop (HT.sIx xs.length 0 lo)).take (HT.sIx xs.length xs.length hi-HT.sIx xs.length 0 lo),IsTup.new _ _⟩
def zjt (K:PySem.W.Frag):R2:=fun x y H Q=>∃a b xs ys,x=.ref a/\y=.ref b/\SqT K H a xs/\SqT K H b ys/\xs≠[]/\xs.length+ys.length<=sizeLine /\
 (ys=[]->Q (.ref a) H)/\(ys≠[]->∀p,H p=none->Q (.ref p) (upd H p (.tup (xs++ys))))
def Vals.nil_iff {xs:List V}{us:List Value}(r:Vals xs us):us=[]↔xs=[]:=by
 cases r with
 | nil=>simp
 | cons _ _=>simp
def zju:OpR X (binaryOp .Add) (zjt X.K):=by
 intro pins s U H x y v u Q I rx ry h
 obtain ⟨a,b,xs,ys,rfl,rfl,ha,hb,hx,hz,q1,q2⟩:=h
 cases rx
 cases ry
 obtain ⟨its,r1,p1,_⟩:=I.tuple ha
 obtain ⟨its2,r2,p2,_⟩:=I.tuple hb
 refine HT.cat_tup p1 p2 (fun z=>hx (r1.nil_iff.mp z)) (fun z=>⟨.ref a,H,I,rfl,q1 (r2.nil_iff.mp z)⟩) (fun z=>?_) (by rw [<-r1.length,<-r2.length];exact hz)
 refine ⟨.ref s.heap.objs.size,_,I.laid (t':=s.toks) (o:=.tup (xs++ys)) (fun b ob q=>yo _ q) (yg _) ?_,rfl,q2 (fun w=>z (r2.nil_iff.mpr w)) _ (I.hok.fresh (yg _))⟩
 exact ⟨by rw [zac];exact hz,_,r1.append r2,IsTup.new _ _⟩
end
def ixN (n:Nat) (i:Int):Option Nat:=if 0<=i then (if i<n then some i.toNat else none) else if -(n:Int)<=i then some (i+n).toNat else none
def atI {α:Type}(xs:List α) (i:Int):Option α:=(ixN xs.length i).bind fun j=>xs[j]?
def zem {n:Nat}{i:Int}{j:Nat}(h:ixN n i=some j):seqIndex? i n=some j/\j<n /\ -(n:Int)<=i/\i<n:=by
 unfold ixN at h
 by_cases h0:0<=i
 ·rw [zE h0] at h
  by_cases h1:i<n
  ·rw [zE h1] at h
   have e:i.toNat=j:=Option.some.inj h
   exact ⟨by rw [seqIndex_of h0 h1,e],by omega,by omega,h1⟩
  ·rw [zN h1] at h;cases h
 ·rw [zN h0] at h
  by_cases h1 : -(n:Int)<=i
  ·rw [zE h1] at h
   have e:(i+n).toNat=j:=Option.some.inj h
   exact ⟨by rw [seqIndex_neg (by omega) h1,e],by omega,h1,by omega⟩
  ·rw [zN h1] at h;cases h
def atI_get {α:Type}{xs:List α}{i:Int}{v:α}(h:atI xs i=some v):∃j,seqIndex? i xs.length=some j/\xs[j]?=some v/\j<xs.length /\ -(xs.length:Int)<=i/\i<xs.length:=by
 unfold atI at h
 cases e:ixN xs.length i with
 | none=>rw [e] at h;cases h
 | some j =>
  rw [e] at h
  obtain ⟨h1,h2,h3,h4⟩:=zem e
  exact ⟨j,h1,h,h2,h3,h4⟩
def PlainIx (b:Expr):Prop:=∀o i,subscripted b false o i=operate [o,i] (getItem o i)
def IxR (X:Cx) (r:R2):Prop :=
 ∀(value slice:Expr) (pins:List (Addr×Obj)) (s:Shared) (U:St) (H:Hp) (x y:V) (v u:Value) (Q:VK),Inv X pins U H s->RelV x v->RelV y u->r x y H Q ->
  subscripted slice false v u=operate [v,u] (getItem v u)->wpAny (model X.prog X.w) X.A (subscriptTail value slice v u) (EP X pins U Q) X.xe s
def MtR (X:Cx) (id:String) (r:V->List V->Hp->VK->Prop):Prop :=
 ∀(pins:List (Addr×Obj)) (s:Shared) (U:St) (H:Hp) (x:V) (xs:List V) (v:Value) (us:List Value) (Q:VK),Inv X pins U H s->RelV x v->Vals xs us->r x xs H Q ->
  wpAny (model X.prog X.w) X.A (call (.builtin id) (v::us)) (EP X pins U Q) X.xe s
section
variable {X:Cx}{a b:Expr}{ta tb:TE}{pos:Pos}
def IxR.or {r r':R2}(h:IxR X r) (h':IxR X r'):IxR X (fun x y H Q=>r x y H Q\/r' x y H Q):=by
 intro value slice pins s U H x y v u Q I rx ry q hs
 rcases q with q|q
 ·exact h value slice pins s U H x y v u Q I rx ry q hs
 ·exact h' value slice pins s U H x y v u Q I rx ry q hs
def zen {r:R2}(hr:IxR X r) (ha:PE X a ta) (hb:PE X b tb) (hs:PlainIx b):PE X (.Subscript a b pos) (tOp r ta tb):=by
 intro pins s U H Q I h
 exact Subscript_ (binT ha hb I h fun v u s2 x y H2 I2 rx ry q=>hr a b pins s2 U H2 x y v u Q I2 rx ry q (hs _ _))
def zeo (K:PySem.W.Frag):R2:=fun x y H Q=>∃p xs i v,x=.ref p/\y=.int i/\SqL K H p xs/\atI xs i=some v/\Q v H
def zep (K:PySem.W.Frag):R2:=fun x y H Q=>∃p xs i v,x=.ref p/\y=.int i/\SqT K H p xs/\atI xs i=some v/\Q v H
def zeq:R2:=fun x y H Q=>∃z i c,x=.str z/\y=.int i/\z.length<=sizeLine/\atI z.cps.toList i=some c/\Q (.str ⟨#[c]⟩) H
def zjv:IxR X (zeo X.K):=by
 intro value slice pins s U H x y v u Q I rx ry h hs
 obtain ⟨p,xs,i,z,rfl,rfl,hq,he,q⟩:=h
 cases rx
 obtain ⟨t,rfl⟩:=ry
 obtain ⟨its,r,pl,hz⟩:=I.list hq
 obtain ⟨j,h1,h2,h3,h4,h5⟩:=atI_get he
 obtain ⟨w,ew,rw'⟩:=r.get h2
 have hl:=r.length
 have hn:=za5
 have fin:EP X pins U Q w s:=⟨z,H,I,rw',q⟩
 by_cases h0:0<=i
 ·have hj:i.toNat=j:=by
   rw [seqIndex_of h0 h5] at h1
   exact Option.some.inj h1
  exact item_listR pl.isList h0 (by omega) (by rw [hj];simpa using ew) fin hs
 ·have hj:(i+(its.toArray.size:Int)).toNat=j:=by
   rw [seqIndex_neg (by omega) h4] at h1
   rw [yx,<-hl]
   exact Option.some.inj h1
  exact subscriptTail_builtinR (x:=w) pl.isList.typeIs slot_list_getitem.lookup
   (wpAny_getItem_list_neg (Q:=fun r s'=>r=w/\EP X pins U Q r s') pl.isList (by omega) (by rw [yx]<;>omega) (by omega) (by rw [hj];simpa using ew) ⟨rfl,fin⟩) hs
def zjw:IxR X (zep X.K):=by
 intro value slice pins s U H x y v u Q I rx ry h hs
 obtain ⟨p,xs,i,z,rfl,rfl,hq,he,q⟩:=h
 cases rx
 obtain ⟨t,rfl⟩:=ry
 obtain ⟨its,r,pl,hz⟩:=I.tuple hq
 obtain ⟨j,h1,h2,h3,h4,h5⟩:=atI_get he
 obtain ⟨w,ew,rw'⟩:=r.get h2
 have hl:=r.length
 have hn:=za5
 have fin:EP X pins U Q w s:=⟨z,H,I,rw',q⟩
 exact subscriptTail_builtinR (x:=w) pl.typeIs slot_tuple_getitem.lookup
  (getItem_tuple (j:=j) (Q:=fun r s'=>r=w/\EP X pins U Q r s') pl (by omega) (by omega) (by rw [yx,<-hl];exact h1) (by simpa using ew) ⟨rfl,fin⟩) hs
def ix_str:IxR X zeq:=by
 intro value slice pins s U H x y v u Q I rx ry h hs
 obtain ⟨z,i,c,rfl,rfl,hz,he,q⟩:=h
 obtain ⟨t,rfl⟩:=rx
 obtain ⟨t',rfl⟩:=ry
 obtain ⟨j,h1,h2,h3,h4,h5⟩:=atI_get he
 have hl:z.cps.toList.length=z.length:=by simp [Str.length]
 rw [hl] at h1 h4 h5
 have hn:=za5
 exact tail_any (typeIs_str s z t) slot_str_getitem.lookup (getItem_str (c:=c) (by
  have e1:decide (i < -(2 ^ 63:Int))=false:=jw (by omega)
  have e2:decide (i>=2 ^ 63)=false:=jw (by omega)
  rw [e1,e2,Bool.or_false]) (by rw [h1];simpa using h2) ⟨.str ⟨#[c]⟩,H,I.tok _,⟨_,rfl⟩,q⟩) hs
def rIx (K:PySem.W.Frag):R2:=fun x y H Q=>zeo K x y H Q\/zep K x y H Q\/zeq x y H Q
def zjy:IxR X (rIx X.K):=zjv.or (zjw.or ix_str)
def zjz (its:List Value) (n j:Nat) (u:Value):Obj.mapSeq (·.setIfInBounds j u) { cls:=.type "list", data:=.seq its.toArray n }={ cls:=.type "list", data:=.seq (its.set j u).toArray n }:=by
 simp [Obj.mapSeq]
def Inv.lst {pins:List (Addr×Obj)}{U:St}{H:Hp}{s:Shared}{p:Addr}{xs:List V}(I:Inv X pins U H s) (h:H p=some (.lst xs)) :
  ∃(its:List Value) (n:Nat),Vals xs its/\s.heap.get? p=some { cls:=.type "list", data:=.seq its.toArray n }/\xs.length<=sizeLine:=by
 obtain ⟨z,its,n,r,e⟩:=I.hok p _ h
 exact ⟨its,n,r,e,z⟩
def Inv.lstUpd {pins:List (Addr×Obj)}{U:St}{H:Hp}{s:Shared}{p:Addr}{xs ys:List V}{its its':List Value}{n n':Nat}{f:Obj->Obj}(I:Inv X pins U H s) (h:H p=some (.lst xs))
  (ho:s.heap.get? p=some { cls:=.type "list", data:=.seq its.toArray n }) (hf:f { cls:=.type "list", data:=.seq its.toArray n }={ cls:=.type "list", data:=.seq its'.toArray n' }) (r:Vals ys its') (hz:ys.length<=sizeLine) (t:Nat) :
  Inv X pins U (upd H p (.lst ys)) { s with heap:=s.heap.update p f,toks:=t }:=by
 have e:(s.heap.update p f).get? p=some { cls:=.type "list", data:=.seq its'.toArray n' }:=by
  rw [Heap.get?_update_self f ho (by rw [hf]<;>rfl),hf]
 refine I.write (x:=p) (e:=p) (by rw [h];trivial) (.inl rfl) (fun b u hb q=>(jH _ _ (yA hb)).trans q) ⟨_,e⟩ ?_
 exact ⟨hz,its',n',r,e⟩
def zjA:V->V->V->Hp->(Hp->Prop)->Prop:=fun o i v H Q=>∃p xs k j,o=.ref p/\i=.int k/\H p=some (.lst xs)/\ixN xs.length k=some j/\Q (upd H p (.lst (xs.set j v)))
def zjB:PSet X zjA:=by
 intro pins s U H o i v ov iv u Q I ro ri rv h
 obtain ⟨p,xs,k,j,rfl,rfl,hp,hj,q⟩:=h
 cases ro
 obtain ⟨t,rfl⟩:=ri
 obtain ⟨its,n,r,ho,hz⟩:=I.lst hp
 obtain ⟨h1,h2,h3,h4⟩:=zem hj
 have hl:=r.length
 have hn:=za5
 have I':Inv X pins U (upd H p (.lst (xs.set j v))) { s with heap:=s.heap.update p (Obj.mapSeq (·.setIfInBounds j u)) } :=
  I.lstUpd hp ho (zjz its n j u) (r.set rv j) (by rw [List.length_set];exact hz) s.toks
 by_cases h0:0<=k
 ·have hk:k.toNat=j:=by
   rw [seqIndex_of h0 h4] at h1
   exact Option.some.inj h1
  exact PySem.W.ki_setAt ho h0 (by omega) (by rw [yx,<-hl];exact h4) (by rw [hk];exact ⟨_,I',q⟩)
 ·have hk:(k+(its.toArray.size:Int)).toNat=j:=by
   rw [seqIndex_neg (by omega) h3] at h1
   rw [yx,<-hl]
   exact Option.some.inj h1
  exact PySem.W.ki_setBack ho (by omega) (by rw [yx,<-hl];exact h3) (by omega) (by rw [hk];exact ⟨_,I',q⟩)
def zjC (lo hi:Option Int) (n:Nat):(sliceBounds lo hi none n).1=((HT.sIx n 0 lo:Nat):Int)/\(sliceBounds lo hi none n).2.1=((HT.sIx n n hi:Nat):Int)/\(sliceBounds lo hi none n).2.2=1:=by
 refine ⟨?_,?_,rfl⟩
 ·cases lo with
  | none=>simp [sliceBounds,HT.sIx]
  | some i =>
   simp only [sliceBounds,HT.sIx,Option.getD_none,show (1:Int)>0 by decide,wb]
   by_cases h:i<0
   ·simp only [h,wb]<;>omega
   ·simp only [h,if_false]<;>omega
 ·cases hi with
  | none=>simp [sliceBounds,HT.sIx]
  | some i =>
   simp only [sliceBounds,HT.sIx,Option.getD_none,show (1:Int)>0 by decide,wb]
   by_cases h:i<0
   ·simp only [h,wb]<;>omega
   ·simp only [h,if_false]<;>omega
def zjD (its:List Value) (lo hi:Option Int):slicePick its.toArray lo hi none=((its.drop (HT.sIx its.length 0 lo)).take (HT.sIx its.length its.length hi-HT.sIx its.length 0 lo)).toArray:=by
 obtain ⟨h1,h2,h3⟩:=zjC lo hi its.toArray.size
 unfold slicePick
 rw [h1,h2,h3]
 simp only [sliceRange_one,pick_run,yx]<;>rfl
def zjE (K:PySem.W.Frag):V->Option Int->Option Int->Hp->VK->Prop:=fun x lo hi H Q=>∃a xs,x=.ref a/\SqL K H a xs/\∀p,H p=none->Q (.ref p) (upd H p (.lst (cutV xs lo hi)))
def zjF:SlR X (zjE X.K):=by
 intro pins s U H x v vl vu lo hi sl Q I rx hs pl pu h
 obtain ⟨a,xs,rfl,hx,q⟩:=h
 cases rx
 obtain ⟨its,r,ht,hz⟩:=I.list hx
 have hlen:=r.length
 refine ⟨"list", _,slot_list_getitem.lookup,ht.isList.typeIs,?_⟩
 refine wpAny_getItem_list_slice ht.isList hs pl pu .none (by simp) ?_ (by rw [yx]<;>omega)
 rw [zjD,<-hlen]
 refine ⟨.ref s.heap.objs.size,_,I.laid (t':=s.toks) (o:=.lst (cutV xs lo hi)) (fun b ob q=>yo _ q) (yg _) ?_,rfl,q _ (I.hok.fresh (yg _))⟩
 exact ⟨yT (zel xs lo hi) hz,_,0,(r.drop (HT.sIx xs.length 0 lo)).take (HT.sIx xs.length xs.length hi-HT.sIx xs.length 0 lo),y8 _ rfl⟩
def zjG:OpR X (compareOp .NotIn) (fun x y H Q=>∃i j,x=.str i/\y=.str j/\Q (.bl (!(!(Builtin.Str.occurrences j i 0 j.length 1).isEmpty))) H):=by
 intro pins s U H x y v u Q I rx ry h
 obtain ⟨i,j,rfl,rfl,q⟩:=h
 obtain ⟨t,rfl⟩:=rx
 obtain ⟨t',rfl⟩:=ry
 exact notIn_str ⟨.bl _,H,I,rfl,q⟩
def CallR.or {f:Value}{r r':List V->Hp->VK->Prop}(h:CallR X f r) (h':CallR X f r'):CallR X f (fun xs H Q=>r xs H Q\/r' xs H Q):=by
 intro pins s U H xs us Q I rs q
 rcases q with q|q
 ·exact h pins s U H xs us Q I rs q
 ·exact h' pins s U H xs us Q I rs q
def zjH:CallR X (.type "list") (fun xs H Q=>∃p ys,xs=[.ref p]/\(SqL X.K H p ys\/SqT X.K H p ys)/\∀l,H l=none->Q (.ref l) (upd H l (.lst ys))):=by
 intro pins s U H xs us Q I r h
 obtain ⟨p,ys,rfl,hq,q⟩:=h
 obtain ⟨u,rfl,rx⟩:=zay r
 cases rx
 have fin:∀(its:List Value),Vals ys its->ys.length<=sizeLine->∀(h':Heap) (c':Nat),(∀b o',s.heap.get? b=some o'->h'.get? b=some o') ->
   h'.get? s.heap.objs.size=some { cls:=.type "list", dict:=none,data:=.seq its.toArray c',slots:=#[] }->EP X pins U Q (.ref s.heap.objs.size) { s with heap:=h' }:=fun its r' hz h' c' kp e =>
  ⟨.ref s.heap.objs.size,_,I.laid (t':=s.toks) kp (yg _) (show ObjOk X.prog X.w _ h' _ (.lst ys) from ⟨hz,its,c',r',e⟩),rfl,q _ (I.hok.fresh (yg _))⟩
 rcases hq with hq|hq
 ·obtain ⟨its,r',pl,hz⟩:=I.list hq
  have hlen:=r'.length
  obtain ⟨o,ho,hc,n,hd⟩:=pl.isList
  exact call_list_seq p (.inl rfl) ho hc hd (fun h' c' kp e=>fin its r' hz h' c' kp e) (by simp only [yx]<;>omega)
 ·obtain ⟨its,r',pl,hz⟩:=I.tuple hq
  have hlen:=r'.length
  obtain ⟨o,ho,hc,n,hd⟩:=pl
  exact call_list_seq p (.inr rfl) ho hc hd (fun h' c' kp e=>fin its r' hz h' c' kp e) (by simp only [yx]<;>omega)
def zjI:CallR X (.type "tuple") (fun xs H Q=>∃p ys,xs=[.ref p]/\((SqL X.K H p ys/\∀l,H l=none->Q (.ref l) (upd H l (.tup ys)))\/(SqT X.K H p ys/\Q (.ref p) H))):=by
 intro pins s U H xs us Q I r h
 obtain ⟨p,ys,rfl,h⟩:=h
 obtain ⟨u,rfl,rx⟩:=zay r
 cases rx
 rcases h with ⟨hq,q⟩|⟨hq,q⟩
 ·obtain ⟨its,r',pl,hz⟩:=I.list hq
  have hlen:=r'.length
  refine call_tuple_list pl.isList (fun h' kp=>?_) (by simp only [yx]<;>omega)
  have I1:Inv X pins U H { s with heap:=h' }:=I.kept (t':=s.toks) kp
  have I2:Inv X pins U (upd H h'.objs.size (.tup ys)) { s with heap:=h'.push { cls:=.type "tuple", data:=.seq its.toArray } } :=
   I1.laid (t':=s.toks) (fun b o e=>yo _ e) (yg _) (show ObjOk X.prog X.w _ _ _ (.tup ys) from ⟨hz,its,r',IsTup.new _ _⟩)
  exact ⟨.ref h'.objs.size,_,I2,rfl,q _ (I1.hok.fresh (yg _))⟩
 ·obtain ⟨its,r',pl,hz⟩:=I.tuple hq
  exact call_tuple_same pl ⟨.ref p,H,I,rfl,q⟩
def tyV (K:PySem.W.Frag) (T:String) (x:V) (H:Hp):Prop:=match x with
 | .str _=>T = "str"
 | .int _=>T = "int"
 | .ref p=>(T = "list" /\ ∃xs,SqL K H p xs)\/(T = "tuple" /\ ∃o,K.lookup p=some o/\o.cls=.type "tuple" /\ o.dict=none) \/
   (T = "dict" /\ ((∃kvs,H p=some (.dK kvs))\/∃kvs,H p=some (.dT kvs)))\/(T = "set" /\ ∃S n,H p=some (.set S n))
 | _=>False
def zjJ {pins:List (Addr×Obj)}{U:St}{H:Hp}{s:Shared}{T:String}{x:V}{v:Value}(I:Inv X pins U H s) (r:RelV x v) (ty:tyV X.K T x H) :
  s.TypeIs v T/\∀a,v=.ref a->∃ob,s.heap.get? a=some ob/\ob.dict=none:=by
 cases x with
 | str z =>
  obtain ⟨t,rfl⟩:=r
  cases (show T = "str" from ty)
  exact ⟨typeIs_str s z t,fun _ e=>nomatch e⟩
 | int i =>
  obtain ⟨t,rfl⟩:=r
  cases (show T = "int" from ty)
  exact ⟨typeIs_int s i t,fun _ e=>nomatch e⟩
 | ref p =>
  cases r
  rcases ty with ⟨rfl,xs,hq⟩|⟨rfl,o,hk,hc,hd⟩|⟨rfl,hk⟩|⟨rfl,S,n,hk⟩
  ·obtain ⟨its,_,pl,_⟩:=I.list hq
   refine ⟨pl.isList.typeIs,fun a e=>?_⟩
   cases e
   obtain ⟨o,n,e,c,hd,_⟩:=pl
   exact ⟨o,e,hd⟩
  ·refine ⟨⟨o,I.kIn p o hk,hc⟩,fun a e=>?_⟩
   cases e
   exact ⟨o,I.kIn _ o hk,hd⟩
  ·have z:∃o,s.heap.get? p=some o/\o.ExactDict:=by
    rcases hk with ⟨kvs,hk⟩|⟨kvs,hk⟩
    ·obtain ⟨_,_,_,_,o,_,_,e,ex,_⟩:=I.hok p _ hk
     exact ⟨o,e,ex⟩
    ·obtain ⟨_,_,_,_,o,_,_,e,ex,_⟩:=I.hok p _ hk
     exact ⟨o,e,ex⟩
   obtain ⟨o,e,ex⟩:=z
   refine ⟨⟨o,e,ex.1⟩,fun a e2=>?_⟩
   cases e2
   exact ⟨o,e,ex.2.1⟩
  ·obtain ⟨o,_,_,_,e,ex,_⟩:=I.hok p _ hk
   refine ⟨⟨o,e,ex.1⟩,fun a e2=>?_⟩
   cases e2
   exact ⟨o,e,ex.2.1⟩
 | _=>exact ty.elim
def tBM (K:PySem.W.Frag) (T:String) (r:V->List V->Hp->VK->Prop) (to:TE) (t:TA):TE:=fun U H Q=>to U H fun x H1=>tyV K T x H1/\t U H1 fun xs H2=>r x xs H2 Q
variable {o e:Expr}{es:List Expr}{to:TE}{t:TA}{name:Str}{apos cpos:Pos}{T id:String}{r:V->List V->Hp->VK->Prop}
def zcE (pa:PlainAttrs T) (slot:Slot T name id) (hty:typeOf (.builtin id)=pure (.type "method_descriptor")) (hm:MtR X id r) (ho:PE X o to) (ha:PA X (e::es) t)
  (hbase:attributeBase o name X.env (eval o X.env)=eval o X.env:=by rfl)
  (hfew:((backTo cpos (starEach (e::es) X.env)).all (fun x=>!x.1)&&(backToKw cpos (keywordEach [] X.env)).all (fun x=>x.1.isSome)
   && decide ((e::es).length+([]:List Keyword).length+(if ([]:List Keyword).isEmpty then 0 else 1)<30))=true:=by rfl)
  (hline:(apos.endLine==cpos.line)=true:=by rfl) (hs:starEach (e::es) X.env=(false,eval e X.env)::starEach es X.env:=by rfl) (hplain:(backTo cpos (starEach es X.env)).any (·.1)=false:=by rfl) :
  PE X (.Call (.Attribute o name apos) (e::es) [] cpos) (tBM X.K T r to t):=by
 intro pins s U H Q I h
 refine wpAny_Call_method_late hbase hfew hline rfl (thn (ho pins s U H _ I h) fun v s1 ⟨x,H1,I1,r1,ty,q1⟩=>?_)
 obtain ⟨h1,h2⟩:=zjJ I1 r1 ty
 refine ⟨T,id,pa,slot,hty,h1,h2,?_⟩
 have hA:=ha cpos pins s1 U H1 _ I1 q1
 rw [hs] at hA ⊢
 refine Calls.callWith_builtin (by show (false||(backTo cpos (starEach es X.env)).any (·.1))=false;rw [hplain]<;>rfl) (Calls.evalArgs_plain ?_)
 exact thn hA fun us s2 ⟨vs,H2,I2,r2,q2⟩=>hm pins s2 U H2 x vs v us Q I2 r1 r2 q2
end
def MtM (X:Cx) (id:String) (r:V->List V->Hp->VK->Prop):Prop :=
 ∀(pins:List (Addr×Obj)) (s:Shared) (U:St) (H:Hp) (x:V) (xs:List V) (v:Value) (us:List Value) (Q:VK),Inv X pins U H s->RelV x v->Vals xs us->r x xs H Q ->
  wpAny (model X.prog X.w) X.A (call (.builtin id) (v::us)) (EP X pins U Q) X.xe s
def Vals.one:∀{x:V}{us:List Value},Vals [x] us->∃u,us=[u]/\RelV x u
 | _,_,.cons r .nil=>⟨_,rfl,r⟩
def Vals.eraseIdx:∀{xs:List V}{us:List Value}(i:Nat),Vals xs us->Vals (xs.eraseIdx i) (us.eraseIdx i)
 | _,_,_,.nil=>.nil
 | _,_,0,.cons _ t=>t
 | _,_,i+1,.cons r t=>.cons r (Vals.eraseIdx i t)
def Vals.reverse {xs:List V}{us:List Value}(h:Vals xs us):Vals xs.reverse us.reverse:=by
 induction h with
 | nil=>exact .nil
 | cons r t ih=>rw [List.reverse_cons,List.reverse_cons];exact Vals.append ih (.cons r .nil)
def zer {α:Type}:∀(l:List α) (i:Nat),(l.eraseIdx i).length<=l.length
 | [],_=>yg _
 | _::_,0=>Nat.le_succ _
 | _::r,i+1=>Nat.succ_le_succ (zer r i)
section
variable {X:Cx}{pins:List (Addr×Obj)}{U:St}{H:Hp}{s:Shared}{l b:Addr}{xs ys zs:List V}
def Inv.lset {its its':List Value}{n:Nat}{f:Array Value->Array Value}{t':Nat}(I:Inv X pins U H s) (hH:H l=some (.lst xs))
  (e:s.heap.get? l=some { cls:=.type "list", data:=.seq its.toArray n }) (hf:f its.toArray=its'.toArray) (hv:Vals ys its') (hz:ys.length<=sizeLine) :
  Inv X pins U (upd H l (.lst ys)) { s with heap:=s.heap.update l (Obj.mapSeq f),toks:=t' }:=by
 have q:=PySem.IsL.update e f
 rw [hf] at q
 refine I.write (x:=l) (e:=l) (by rw [hH];exact trivial) (.inl rfl) (fun b' u hb hu=>(jH s.heap (Obj.mapSeq f) (yA hb)).trans hu) ⟨_,q⟩ ?_
 exact ⟨hz,its',_,hv,q⟩
def Inv.lnew {its:List Value}{t':Nat}(I:Inv X pins U H s) (hv:Vals ys its) (hz:ys.length<=sizeLine) :
  Inv X pins U (upd H s.heap.objs.size (.lst ys)) { s with heap:=s.heap.push { cls:=.type "list", data:=.seq its.toArray },toks:=t' } :=
 I.laid (fun _ _ q=>yo _ q) (yg _) ⟨hz,its,0,hv,y8 _ rfl⟩
def Inv.fresh (I:Inv X pins U H s):H s.heap.objs.size=none:=I.hok.fresh (yg _)
def Inv.lstM (I:Inv X pins U H s) (hH:H l=some (.lst xs)):xs.length<=sizeLine/\∃(its:List Value) (n:Nat),Vals xs its/\xs.length=its.length/\s.heap.get? l=some { cls:=.type "list", data:=.seq its.toArray n }:=by
 obtain ⟨z,its,n,r,e⟩:=I.hok l _ hH
 exact ⟨z,its,n,r,r.length,e⟩
def notLongL {n:Nat}(h:n<=sizeLine):Builtin.List.listTooLong n=false:=by
 unfold Builtin.List.listTooLong
 exact jw (by omega)
end
section
variable {X:Cx}
def zjL:V->List V->Hp->VK->Prop:=fun x vs H Q=>∃l xs y,x=.ref l/\vs=[y]/\H l=some (.lst xs)/\xs.length<sizeLine/\Q .non (upd H l (.lst (xs++[y])))
def zjM:MtM X "list.append" zjL:=by
 intro pins s U H x vs v us Q I rx rv h
 obtain ⟨l,xs,y,rfl,rfl,hH,hz,q⟩:=h
 cases rx
 obtain ⟨u,rfl,ru⟩:=rv.one
 obtain ⟨z,its,n,r,hl,e⟩:=I.lstM hH
 refine call_meets F.slot_list_append ⟨_,e,rfl⟩ F.entry_list_append (F.args_list_append_2 _ _) (PySem.list_append l its.toArray n u (by rw [yx];omega)) ⟨e,?_⟩
 refine ⟨.non,_,I.lset (its':=its++[u]) hH e (by simp) (r.append (.cons ru .nil)) ?_,rfl,q⟩
 rw [zac,List.length_singleton]
 omega
def zes:V->List V->Hp->VK->Prop:=fun x vs H Q=>∃l b xs zs,x=.ref l/\vs=[.ref b]/\H l=some (.lst xs)/\H b=some (.lst zs)/\xs.length+zs.length<=sizeLine/\Q .non (upd H l (.lst (xs++zs)))
def zjN:MtM X "list.extend" zes:=by
 intro pins s U H x vs v us Q I rx rv h
 obtain ⟨l,b,xs,zs,rfl,rfl,hH,hB,hz,q⟩:=h
 cases rx
 obtain ⟨u,rfl,ru⟩:=rv.one
 cases ru
 obtain ⟨z,its,n,r,hl,e⟩:=I.lstM hH
 obtain ⟨z2,its2,n2,r2,hl2,e2⟩:=I.lstM hB
 have hsz:its.toArray.size+its2.toArray.size<=sizeLine:=by rw [yx,yx];omega
 have hlong:¬(!its.toArray.isEmpty&&Builtin.List.listTooLong (its.toArray.size+its2.toArray.size))=true:=by
  rw [notLongL hsz,Bool.and_false]
  exact Bool.false_ne_true
 refine call_meets F.slot_list_extend ⟨_,e,rfl⟩ F.entry_list_extend (F.args_list_extend_2 _ _)
  (AutoSeq1.list_extend_list_list_0 l its.toArray n b its2.toArray n2 hlong (by rw [yx];omega) (by omega)) ⟨e,e2,?_⟩
 refine ⟨.non,_,I.lset (its':=its++its2) hH e (by simp) (r.append r2) ?_,rfl,q⟩
 rw [zac]
 omega
def zjO:V->List V->Hp->VK->Prop:=fun x vs H Q=>∃l xs i k y,x=.ref l/\vs=[.int i]/\H l=some (.lst xs) /\ -(2 ^ 63)<=i/\i<2 ^ 63/\seqIndex? i xs.length=some k/\xs[k]?=some y/\Q y (upd H l (.lst (xs.eraseIdx k)))
def zjP:MtM X "list.pop" zjO:=by
 intro pins s U H x vs v us Q I rx rv h
 obtain ⟨l,xs,i,k,y,rfl,rfl,hH,h1,h2,hk,hy,q⟩:=h
 cases rx
 obtain ⟨u,rfl,ru⟩:=rv.one
 obtain ⟨t,rfl⟩:=ru
 obtain ⟨z,its,n,r,hl,e⟩:=I.lstM hH
 obtain ⟨w,hw,rw'⟩:=r.get hy
 refine call_meets F.slot_list_pop ⟨_,e,rfl⟩ F.entry_list_pop (F.args_list_pop_2 _ _)
  (MeetsSeq.list_pop_at l its.toArray n i t k w (fitsIndex_both h1 h2) (by rw [yx,<-hl];exact hk) (by rw [<-Array.getElem?_toList];exact hw) (by rw [yx];omega)) ⟨e,?_⟩
 refine ⟨y,_,I.lset (its':=its.eraseIdx k) hH e ?_ (r.eraseIdx k) ?_,rw',q⟩
 ·show its.toArray.eraseIdxIfInBounds k=(its.eraseIdx k).toArray
  rw [List.eraseIdxIfInBounds_toArray]
 ·have:=zer xs k
  omega
def zjQ:R2:=fun x y H Q=>∃l b xs zs,x=.ref l/\y=.ref b/\H l=some (.lst xs)/\H b=some (.lst zs)/\xs.length+zs.length<=sizeLine/\∀p,H p=none->Q (.ref p) (upd H p (.lst (xs++zs)))
def zjR:OpR X (binaryOp .Add) zjQ:=by
 intro pins s U H x y v u Q I rx ry h
 obtain ⟨l,b,xs,zs,rfl,rfl,hH,hB,hz,q⟩:=h
 cases rx
 cases ry
 obtain ⟨z,its,n,r,hl,e⟩:=I.lstM hH
 obtain ⟨z2,its2,n2,r2,hl2,e2⟩:=I.lstM hB
 refine PySem.P.add_list e e2 ?_ (by rw [yx,yx];omega)
 have ea:its.toArray++its2.toArray=(its++its2).toArray:=by simp
 rw [ea]
 exact ⟨.ref _,_,I.lnew (t':=s.toks) (r.append r2) (by rw [zac];omega),rfl,q _ I.fresh⟩
end
section
variable {prog:Program}{w:World}{A:Around}{E:Value->Shared->Prop}{s:Shared}
end
section
variable {X:Cx}
end
end L2
namespace Att
open PySem PySem.W PySem.Calls PyProof.Rows
def zjS {P:Params}{h:Heap}:∀(ns:List Int) (vs:List Value),WellAll P h vs (ns.map WData.int)->IntsAre vs ns:=by
 intro ns
 induction ns with
 | nil =>
  intro vs w
  rw [List.map_nil] at w
  cases w
  exact .nil
 | cons n ns ih =>
  intro vs w
  rw [ji] at w
  cases w with
  | cons a b =>
   cases a
   exact .cons _ _ (ih _ b)
def zjT {l:OpenLaw}{n:Nat}(hn:l.most=some n) {P:Params}{h:Heap}{args:List WData}{vals:List Value}
  (hpre:l.row.toRowW.claim.pre args=true) (hwl:WellAll P h vals args) :
  ∃a vs ns,vals=[Value.ref a]/\args=[WData.list (ns.map WData.int)]/\h.get? a=some { cls:=.type "list", data:=.seq vs.toArray }/\IntsAre vs ns/\ns.length<=n:=by
 have hsh:WShape.hasAll [] args [.list .int]=true:=(pre_splitW hpre).1
 have hc:l.pre.holds [] { args:=args }=true:=(pre_splitW hpre).2
 obtain ⟨d,r,rfl,h1,h2⟩:=hasAllW_cons hsh
 obtain rfl:=hasAllW_nil h2
 obtain ⟨xs,rfl,h3⟩:=hasW_list h1
 obtain ⟨ns,rfl⟩:=items_int h3
 have hlen:ns.length<=n:=by
  unfold OpenLaw.pre at hc
  have h4:(WTm.not (.lt (.lit (.int (n:Int))) (.len (.arg 0)))).holds [] { args:=[.list (ns.map .int)] }=true:=by
   have h4:=(holds_andW hc).1
   rw [hn] at h4
   exact h4
  have h5:=condW_of h4 (w_not (w_lt w_lit (w_len_list (w_arg rfl))))
  rw [jX] at h5
  refine Nat.le_of_not_lt fun q=>?_
  have q':(n:Int)<((ns.length:Nat):Int):=by omega
  first
   | (rw [zaZ q'] at h5;exact absurd h5 (by decide))
   | (simp at h5;omega)
 cases hwl with
 | cons w1 w2 =>
  cases w2
  cases w1 with
  | list ho hall=>exact ⟨_,_,ns,rfl,rfl,ho,zjS ns _ hall,hlen⟩
def zjU (l:OpenLaw) (args:List WData):l.row.toRowW.claim.post args (.bool true) args=true :=
 postW_of (r:=l.row.toRowW) (X:=(true==true))
  (show WShape.has [] (.bool true) .bool=true by first|rfl|decide|simp [WShape.has,WShape.arms,WShape.armsAll])
  (show (WTm.eq .res (.lit (.bool true))).value [] { args:=args,res:=some (.bool true),after:=args }=some (.bool (true==true)) from w_eq_bool (w_res rfl) w_lit) rfl
def attach_call {l:OpenLaw}{n:Nat}{q:Program}{loose:List Str}{XP:(Str->Option Value)->Heap->Prop}{YP:World->Heap->Prop}{d:DefRec}
  (hn:l.most=some n) (hdf:d.params.defaults=[])
  (call:∀(w:World) (s₀ aj:Shared) (mg mb:Str->Option Value) (fa:Addr) (o:Obj) (pm cd doc:Value) (a:Addr) (vs:List Value) (ns:List Int),
   Ground q loose [] XP w s₀ mg mb aj.heap->YP w aj.heap ->
   aj.heap.get? fa=some o->o.data=.func (docDef d.name d.params d.body d.scope pm cd doc)->aj.heap.CodeRec cd d.name->mg d.name=some (.ref fa) ->
   aj.heap.get? a=some { cls:=.type "list", data:=.seq vs.toArray }->IntsAre vs ns->ns.length<=n->aj.gens=#[] ->
   codeAny (model l.prog w) callerA (.call (.ref fa) ⟨[.ref a],[]⟩) (fun r s'=>r=.ok (.ret (.bool true))/\OldK aj.heap s'.heap/\s'.os=aj.os/\AllBare s'.gens) aj) :
  WalkO q loose XP YP l.row.toRowW d [] (fun f vs=>PySem.call f vs):=by
 intro w s₀ aj mg mb G Y fa o pm cd doc dV kV ho hd hcd hD hmg hg args vals as hpre hlay hrd hwl hlo
 obtain rfl:dV=.none:=Dflts.none hD hdf
 obtain rfl:kV=.none:=Dflts.noKw hD
 obtain ⟨a,vs,ns,rfl,rfl,hobj,hints,hlen⟩:=zjT hn hpre hwl
 refine enter_call (codeAny_mono (call w s₀ aj mg mb fa o pm cd doc a vs ns G Y ho (fd_plain hd) hcd hmg hobj hints hlen hg) fun r s' hq=>?_)
 obtain ⟨rfl,h2,h3,h4⟩:=hq
 exact ⟨.inl ⟨.bool true,.bool true,[],rfl,fun _=>rfl,.bool true,zjU l _,fun _=>⟨List.Pairwise.nil,fun _ hm=>(nomatch hm)⟩⟩,h2,h3,h4⟩
section
variable {prog:Program}{w:World}{A:Around}{E:Value->Shared->Prop}{s:Shared}{K:Frag}
end
end Att
namespace L2
open PySem PySem.Spec PyProof.Rows
def zet:∀{vs:List Value}{ns:List Int},IntsAre vs ns->Vals (ns.map V.int) vs
 | _,_,.nil=>.nil
 | _,_,.cons n t h=>.cons ⟨t,rfl⟩ (zet h)
def Only (H:Hp):Prop:=∀b,H b=none\/∃o xs,H b=some (.frz o (.lst xs))
def zjV {P:Program}{w:World}{K:PySem.W.Frag}{mg mb:Str->Option Value}{CX:CXT}{k:Nat}{fa a:Addr}{fd:FuncData}{x:Str}{sp:Sp}{aj:Shared}{vs:List Value}{ns:List Int}
  (KX:K.In aj.heap) (hns:aj.heap.Ns mainGlobals mg) (hb:aj.heap.Ns builtinsNs mb) (hbb:∀x:Str,x ≠ "__name__" -> mb x=bootBuiltins x) (hlim:aj.heap.NoLimit) (hg:aj.gens=#[])
  (ha:aj.heap.get? a=some { cls:=.type "list", data:=.seq vs.toArray }) (hi:IntsAre vs ns) (hl:ns.length<=sizeLine) (hr:Room k callerA)
  (F:∀base:Heap,K.In base->base.Ns mainGlobals mg->FnOk P w K mg base CX k fa fd [x] sp) (hbind:∀(s:Shared) (u:Value),BindsTo s fd ⟨[u],[]⟩ [(x,u)])
  (hsp:∀H:Hp,Only H->SqL K H a (ns.map V.int)->sp [.ref a] H (fun v _=>v=.bl true) fun _ _ _=>False)
  (hCX:∀H e s',CX [] H aj (fun _ _ _=>False) e s'->False) :
  codeAny (model P w) callerA (.call (.ref fa) ⟨[.ref a],[]⟩) (fun r s'=>r=.ok (.ret (.bool true))/\OldK aj.heap s'.heap/\s'.os=aj.os/\AllBare s'.gens) aj:=by
 have rv:=zet hi
 have lenV:=hi.length
 have core:∀H:Hp,Only H->SqL K H a (ns.map V.int)->HOk P w H aj.heap->(∀b,H b≠none->b=a)->(H a≠none->K.lookup a=none) ->
   codeAny (model P w) callerA (.call (.ref fa) ⟨[.ref a],[]⟩) (fun r s'=>r=.ok (.ret (.bool true))/\OldK aj.heap s'.heap/\s'.os=aj.os/\AllBare s'.gens) aj:=by
  intro H hO hS hok hA hK
  have base_of:∀{b:Addr} {o:Obj},aj.heap.get? b=some o->H b=none->(hidT aj.heap H).get? b=some o:=fun e n=>zhK e n
  have noA:∀{b:Addr} {o:Obj} {es:Array DictEntry} {ep:Nat},aj.heap.get? b=some o->o.data=.dict es ep->H b=none:=fun {b o es ep} e d=>by
   cases q:H b with
   | none=>rfl
   | some u =>
    have e':b=a:=hA b (by rw [q];simp)
    subst e'
    rw [ha] at e;cases e
    have d':Data.seq vs.toArray _=Data.dict es ep:=d
    cases d'
  have nsK:∀{b:Addr} {m:Str->Option Value},aj.heap.Ns b m->(hidT aj.heap H).Ns b m:=fun {b m} ⟨o,es,ep,e,d,r⟩=>⟨o,es,ep,base_of e (noA e d),d,r⟩
  have hKb:K.In (hidT aj.heap H):=fun b o e=>base_of (KX b o e) (by
   cases q:H b with
   | none=>rfl
   | some u =>
    have e':b=a:=hA b (by rw [q];simp)
    subst e'
    rw [hK (by rw [q];simp)] at e;cases e)
  have hM:Mod K mg (hidT aj.heap H):=⟨hKb,nsK hns,⟨mb,nsK hb,hbb⟩,let ⟨mc,h1,h2⟩:=hlim;⟨mc,nsK h1,h2⟩⟩
  have e0:Env0 P w K mg (hidT aj.heap H) callerA [] aj H:=⟨rfl,hM,fun b o e=>zhL e,Nat.le_of_eq (zhJ _ _),trivial,fun b hb=>absurd (show b∈([]:List Addr) from hb) (by simp),hok,.of_eq hg⟩
  refine codeAny_mono ((F _ hKb (nsK hns)).run callerA [] aj H ⟨[.ref a],[]⟩ [.ref a] [.ref a] _ _ hr e0 (hbind aj (.ref a)) (.cons rfl .nil) (hsp H hO hS)) fun r s' h=>?_
  cases r with
  | error e=>exact (hCX H e s' h).elim
  | ok fl =>
   cases fl with
   | next=>exact h.elim
   | brk=>exact h.elim
   | cont=>exact h.elim
   | ret u =>
    obtain ⟨v,H',os,bare,un,hok',r',q⟩:=h
    have q':v=.bl true:=q
    subst q'
    obtain rfl:u=Value.bool true:=r'
    refine ⟨rfl,OldK.of_keep fun b o e=>?_,os,bare⟩
    cases q:H b with
    | none=>exact un.keep b o e q (by intro z;exact absurd (show b∈([]:List Addr) from z) (by simp)) (by simp)
    | some u =>
     rcases hO b with z|⟨ob,xs,z⟩
     ·rw [q] at z;cases z
     ·have z2:=un.frzs b ob _ z
      obtain ⟨e1,_⟩:=hok b _ z
      obtain ⟨e2,_⟩:=hok' b _ z2
      rw [e] at e1;cases e1
      exact e2
 cases hk:K.lookup a with
 | some o =>
  have e:=KX a o hk
  rw [ha] at e
  cases e
  refine core (fun _=>none) (fun _=>.inl rfl) (.inr ⟨_,vs.toArray,_,hk,rfl,rfl,rfl,by rw [yx,lenV];exact hl,by simpa using rv⟩) (fun b u z=>by have z':(none:Option HO)=some u:=z;cases z') (fun b z=>absurd rfl z) fun z=>absurd rfl z
 | none =>
  refine core (fun b=>if b=a then some (.frz { cls:=.type "list", data:=.seq vs.toArray } (.lst (ns.map V.int))) else none) (fun b=>?_) (.inl (.inr ⟨{ cls:=.type "list", data:=.seq vs.toArray },zE rfl⟩)) (fun b u z=>?_) (fun b z=>?_) fun _=>hk
  ·by_cases hb:b=a
   ·exact .inr ⟨_,_,zE hb⟩
   ·exact .inl (zN hb)
  ·by_cases hb:b=a
   ·have z':=(zE hb).symm.trans z
    cases z'
    subst hb
    exact ⟨ha,by rw [jX];exact hl,vs,_,rv,ha⟩
   ·have z':=(zN hb).symm.trans z
    cases z'
  ·by_cases hb:b=a
   ·exact hb
   ·exact absurd (zN hb) z
abbrev KOf {K:PySem.W.Frag}{h:Heap}(_:K.In h):PySem.W.Frag:=K
def zjW {l:PySem.W.OpenLaw}{n k:Nat}{q:Program}{loose:List Str}{XP:(Str->Option Value)->Heap->Prop}{YP:World->Heap->Prop}{d:DefRec}{K:Params->PySem.W.Frag}{CX:World->CXT}{sp:World->Sp}{x:Str}
  (hn:l.most=some n) (hn2:n<=sizeLine) (hdf:d.params.defaults=[]) (hr:Room k callerA)
  (hY:∀(w:World) (h:Heap),YP w h->(K w.params).In h)
  (F:∀(w:World) (mg:Str->Option Value) (fa:Addr) (h:Heap),(K w.params).In h->h.Ns mainGlobals mg->mg d.name=some (.ref fa) ->
   ∃fd:FuncData,(∀(s:Shared) (u:Value),BindsTo s fd ⟨[u],[]⟩ [(x,u)]) /\
    ∀base:Heap,(K w.params).In base->base.Ns mainGlobals mg->FnOk l.prog w (K w.params) mg base (CX w) k fa fd [x] (sp w))
  (hsp:∀(w:World) (H:Hp) (a:Addr) (ns:List Int),ns.length<=n->Only H->SqL (K w.params) H a (ns.map V.int)->sp w [.ref a] H (fun v _=>v=.bl true) fun _ _ _=>False)
  (hCX:∀(w:World) (H:Hp) (s:Shared) (e:Value) (s':Shared),CX w [] H s (fun _ _ _=>False) e s'->False) :
  PySem.W.WalkO q loose XP YP l.row.toRowW d [] (fun f vs=>PySem.call f vs):=by
 refine Att.attach_call hn hdf fun w s₀ aj mg mb fa o pm cd doc a vs ns G Y ho hd hcd hmg hobj hints hlen hg=>?_
 have KX:=hY w _ Y
 obtain ⟨fd,hb,hF⟩:=F w mg fa _ KX G.T.g hmg
 exact zjV KX G.T.g G.T.b G.T.builtins G.T.nolimit hg hobj hints (yT hlen hn2) hr hF hb (fun H hO hS=>hsp w H a ns hlen hO hS) fun H e s'=>hCX w H aj e s'
def inClass (s:Stmt) (j:Nat):Stmt:=match s with
 | .ClassDef _ _ _ body _ _ _ _ _ _ _=>body.getD j (.Pass ⟨0,0,0,0⟩)
 | _=>.Pass ⟨0,0,0,0⟩
def jC (s:Stmt):Arguments:=match s with
 | .FunctionDef _ a _ _ _ _ _ _ _ _=>a
 | _=>{ posonlyargs:=[],args:=[],vararg:=none,kwonlyargs:=[],kw_defaults:=[],kwarg:=none,defaults:=[] }
def yV (s:Stmt):List Stmt:=match s with
 | .FunctionDef _ _ b _ _ _ _ _ _ _=>b
 | _=>[]
def zT (s:Stmt):Scope:=match s with
 | .FunctionDef _ _ _ _ _ _ sc _ _ _=>sc
 | _=>{ kind:=.function,names:=[],isGenerator:=false,isCoroutine:=false }
structure Fun (K:PySem.W.Frag) (x qual:Str) (st:Stmt) (f:Addr) (fd:FuncData):Prop where
 ex:∃(oc:Value) (od:Option Addr) (kV doc pm:Value) (an:Option Addr) (cdv ct:Value) (osl:Array (Option Value)),
  fd=PySem.W.fnOf x qual (jC st) (yV st) (zT st) .none kV doc pm an cdv ct/\K.lookup f=some ⟨oc,od,.func fd,osl⟩/\PySem.W.codeIn K cdv qual=true
 kp:PySem.W.keepIn K (.ref f)=true
section
variable {P:Program}{w:World}{K:PySem.W.Frag}{mg:Str->Option Value}{base:Heap}
def Fun.binds {x qual:Str}{st:Stmt}{f:Addr}{fd:FuncData}{ps:List Str}(F:Fun K x qual st f fd)
  (h:∀(kV doc pm:Value) (an:Option Addr) (cdv ct:Value) (us:List Value),us.length=ps.length->bindArgs (PySem.W.fnOf x qual (jC st) (yV st) (zT st) .none kV doc pm an cdv ct) ⟨us,[]⟩=pure (ps.zip us)):Binds K fd ps []:=by
 obtain ⟨oc,od,kV,doc,pm,an,cdv,ct,osl,rfl,lk,hcd⟩:=F.ex
 exact .all (h kV doc pm an cdv ct)
def wK {x qual:Str}{st:Stmt}{f:Addr}{oc:Value}{od an:Option Addr}{osl:Array (Option Value)}{kV doc pm cdv ct:Value}(l:K.lookup f=some ⟨oc,od,.func (PySem.W.fnOf x qual (jC st) (yV st) (zT st) .none kV doc pm an cdv ct),osl⟩)
  (c:PySem.W.codeIn K cdv qual=true) (k:PySem.W.keepIn K (.ref f)=true):Fun K x qual st f (PySem.W.fnOf x qual (jC st) (yV st) (zT st) .none kV doc pm an cdv ct):=⟨⟨oc,od,kV,doc,pm,an,cdv,ct,osl,rfl,l,c⟩,k⟩
end
section
variable {X:Cx}
def pv (i:Nat) {x:Str} {pos:Pos} (hN:X.N[i]?=some x:=by rfl) (hv:Vis X.env.scope x:=by first|exact Or.inl rfl|exact Or.inr (Or.inl rfl)|exact Or.inr (Or.inr rfl)) (hd:(x==("__debug__" : Str))=false:=by decide)
  (hcd:(x==("__classdict__" : Str))=false:=by decide):PE X (.Name x pos) (zbE i):=zdX hN hv hd hcd
end
end L2
set_option maxHeartbeats 4000000
namespace L2
open PySem PySem.Spec PyProof.Rows
def ar1 {l z D b:Nat}(h1:l<z) (h2:z=D) (h3:D<=b) (h4:b=l):False:=by omega
def j0 {b D C:Nat}(h1:b<D) (h2:C=D+1) (h3:b=C):False:=by omega
def ar3 {b e d:Nat}(h1:b<e) (h2:e<=d) (h3:d<=b):False:=by omega
def ar4 {b D p:Nat}(h1:b<D) (h2:p=D) (h3:p=b):False:=by omega
def zcI (env:Env):∀(l:List (Str×NameKind)) (acc:List (Str×Addr)),(∀p∈l,p.2=.free->∃c,env.cells.lookup p.1=some c) ->
  ∃cl,(forIn l acc (fun (x:Str×NameKind) (cs:List (Str×Addr))=>if (x.snd==NameKind.free)=true then do
            let a <-cellOf env x.fst
            pure (ForInStep.yield ((x.fst,a)::cs))
      else pure (ForInStep.yield cs)):Sem (List (Str×Addr)))=pure cl /\
   (∀y c,(y,c)∈cl->(y,c)∈acc\/(env.cells.lookup y=some c/\(y,NameKind.free)∈l))/\(∀p∈acc,p∈cl)/\(∀y,(y,NameKind.free)∈l->∃c,(y,c)∈cl)
 | [],acc,_=>⟨acc,rfl,fun _ _ h=>.inl h,fun _ h=>h,fun _ h=>nomatch h⟩
 | (n,k)::r,acc,hall=>by
  by_cases hk:k=.free
  ·subst hk
   obtain ⟨c,hc⟩:=hall (n,.free) yO rfl
   obtain ⟨cl,e,h1,h2,h3⟩:=zcI env r ((n,c)::acc) fun p hp=>hall p (jh _ hp)
   refine ⟨cl,?_,fun y d hy=>?_,fun p hp=>h2 p (jh _ hp),fun y hy=>?_⟩
   ·rw [List.forIn_cons]
    simp only [beq_self_eq_true,wb]
    have:cellOf env n=pure c:=by unfold cellOf;rw [hc]
    rw [this]
    exact e
   ·rcases h1 y d hy with q|q
    ·rcases yD.mp q with q|q
     ·cases q
      exact .inr ⟨hc,yO⟩
     ·exact .inl q
    ·exact .inr ⟨q.1,jh _ q.2⟩
   ·rcases yD.mp hy with q|q
    ·cases q
     exact ⟨c,h2 _ yO⟩
    ·exact h3 y q
  ·obtain ⟨cl,e,h1,h2,h3⟩:=zcI env r acc fun p hp=>hall p (jh _ hp)
   refine ⟨cl,?_,fun y d hy=>?_,h2,fun y hy=>?_⟩
   ·rw [List.forIn_cons]
    have:(k==NameKind.free)=false:=by simpa using hk
    simp only [this,Bool.false_eq_true,if_false]
    exact e
   ·rcases h1 y d hy with q|q
    ·exact .inl q
    ·exact .inr ⟨q.1,jh _ q.2⟩
   ·rcases yD.mp hy with q|q
    ·cases q
     exact absurd rfl hk
    ·exact h3 y q
def zeu {β:Type}{y:Str}:∀{l:List (Str×β)}{c:β},(y,c)∈l->∃d,l.lookup y=some d
 | (n,b)::r,c,h=>by
  rw [jx]
  cases e:y==n with
  | true=>exact ⟨b,rfl⟩
  | false =>
   rcases yD.mp h with q|q
   ·cases q
    simp at e
   ·exact zeu q
def zcJ (env:Env) (scope:Scope) (hall:∀p∈scope.names,p.2=.free->∃c,env.cells.lookup p.1=some c) :
  ∃cl,closureFor scope env=pure cl/\(∀y c,cl.lookup y=some c->env.cells.lookup y=some c)/\(∀y,(y,NameKind.free)∈scope.names->∃c,cl.lookup y=some c):=by
 obtain ⟨cl,e,h1,_,h3⟩:=zcI env scope.names [] hall
 refine ⟨cl,?_,fun y c hy=>?_,fun y hy=>?_⟩
 ·simp only [closureFor]
  rw [e]
  rfl
 ·rcases h1 y c (PySem.mem_of_lookup hy) with z|z
  ·cases z
  ·exact z.1
 ·obtain ⟨c,hc⟩:=h3 y hy
  exact zeu hc
structure CompSc (sc scope:Scope) (x:Str):Prop where
 kind:scope.kind=.function
 ncell:∀y∈scope.names,y.2 ≠ .cell
 names:∀y∈scope.names,y.2=.local->scope.names.lookup y.1=some .local/\(y.1=x\/y.1 = ".0")
 hx:scope.names.lookup x=some .local
 free:∀y∈scope.names,y.2=.free->sc.names.lookup y.1=some .cell
def cxH (X:Cx) (M:List Str) (scope:Scope) (cl:List (Str×Addr)) (x:Str) (C:Addr) (aa:Shared) (ag:Hp) (fp:List Addr) (E:Value->Shared->Prop):Cx :=
 { X with N:=x::M,s₀:=aa,H₀:=ag,env:=compEnvC scope cl C X.env,outer:=X.stack,ex:=fp,fn:=fun _=>false,pn:=[],xe:=E }
def Hid (scope:Scope) (M N:List Str):Prop:=M.length=N.length/\∀p∈M.zip N,p.1=p.2\/p.1∉scope.names.map Prod.fst
def Hid.refl {scope:Scope}{N:List Str}:Hid scope N N:=⟨rfl,fun p hp=>.inl (by
 obtain ⟨i,hi,e⟩:=zaY hp
 rw [List.getElem_zip] at e
 rw [<-e])⟩
def Hid.get {scope:Scope}{M N:List Str}(h:Hid scope M N) {i:Nat}{y:Str}(e:M[i]?=some y):N[i]?=some y\/y∉scope.names.map Prod.fst:=by
 obtain ⟨hi,ei⟩:=yE.mp e
 have hj:i<N.length:=h.1▸hi
 have hm:(M[i],N[i])∈M.zip N:=wc (i:=i) (by rw [List.getElem?_zip_eq_some];exact ⟨yn hi,yn hj⟩)
 rcases h.2 _ hm with q|q
 ·exact .inl (by rw [yn hj,<-ei];exact congrArg some q.symm)
 ·exact .inr (by rw [<-ei];exact q)
def cxC (X:Cx) (scope:Scope) (cl:List (Str×Addr)) (x:Str) (C:Addr) (aa:Shared) (ag:Hp) (fp:List Addr) (E:Value->Shared->Prop):Cx :=
 { X with N:=x::X.N,s₀:=aa,H₀:=ag,env:=compEnvC scope cl C X.env,outer:=X.stack,ex:=fp,fn:=fun _=>false,pn:=[],xe:=E }
section
variable {X:Cx}{scope:Scope}{cl:List (Str×Addr)}{x:Str}
def wv {env:Env}{y:Str}{k:NameKind}(h:(relabel scope env).names.lookup y=some k):∃k0,(y,k0)∈scope.names/\((k0=.free/\env.kindOf y=some .cell/\k=.cell)\/(k=k0/\¬(k0=.free/\env.scope.kind=.function/\env.kindOf y=some .cell))):=by
 have hm:=PySem.mem_of_lookup h
 obtain ⟨⟨n,k0⟩,hn,e⟩:=zad.mp hm
 by_cases hc:(k0==NameKind.free&&env.scope.kind == .function&&env.kindOf n==some .cell)=true
 ·have e':(n,NameKind.cell)=(y,k):=by rw [<-e];simp only [hc,wb]
  cases e'
  simp only [jK,beq_iff_eq] at hc
  exact ⟨_,hn,.inl ⟨hc.1.1,hc.2,rfl⟩⟩
 ·have e':(n,k0)=(y,k):=by rw [<-e];simp only [hc,if_false];rfl
  cases e'
  refine ⟨_,hn,.inr ⟨rfl,fun ⟨a,b,c⟩=>hc ?_⟩⟩
  simp [a,b,c]
def zev (S:CompSc X.env.scope scope x) {y:Str} (h:(relabel scope X.env).names.lookup y=some .local):y=x\/y = ".0" := by
 obtain ⟨k0,hm,⟨_,_,e⟩|⟨e,_⟩⟩:=wv h
 ·cases e
 ·subst e
  exact (S.names _ hm rfl).2
def zcK (S:CompSc X.env.scope scope x) (hk:X.env.scope.kind=.function) {y:Str}(h:(relabel scope X.env).names.lookup y=some .cell\/(relabel scope X.env).names.lookup y=some .free):(y,NameKind.free)∈scope.names:=by
 rcases h with h|h
 ·obtain ⟨k0,hm,⟨e,_,_⟩|⟨e,_⟩⟩:=wv h
  ·subst e;exact hm
  ·subst e;exact absurd rfl (S.ncell _ hm)
 ·obtain ⟨k0,hm,⟨_,_,e⟩|⟨e,n⟩⟩:=wv h
  ·cases e
  ·subst e
   exact hm
end
def zjX {P:Program}{wd:World}{B:Around}{Z:Result->Shared->Prop}{u0:Shared}{el tg iter:Expr}{sc:Scope}{ps:Pos}{iv ac:Value}{ev:Env}(J0:Nat->Shared->Prop)
  (turn:∀k u,J0 k u->wpAny (model P wd) B (pyNext iv) (fun r u1=>match r with|none=>Z (.ok .next) u1|some v=>wpAny (model P wd) B (letOwnedTupleGo tg iv v) (fun _ u2 =>
   wpAny (model P wd) B (assign tg ev v) (fun _ u3=>wpAny (model P wd) B (eval el ev) (fun y u4=>wpAny (model P wd) B (call (.builtin "list.append") [ac,y]) (fun _ u5=>∃m,m<k/\J0 m u5)
    (notedBy (model P wd) B ev fun e u=>Z (.error e) u) u4) (notedBy (model P wd) B ev fun e u=>Z (.error e) u) u3) (notedBy (model P wd) B ev fun e u=>Z (.error e) u) u2) (notedBy (model P wd) B ev fun e u=>Z (.error e) u) u1)
   (notedBy (model P wd) B ev fun e u=>Z (.error e) u) u)
  (k0:Nat) (start0:J0 k0 u0):codeAny (model P wd) B (.compLoop (.ListComp el [⟨tg,iter,[],0⟩] sc ps) 0 iv ac ev) Z u0:=by
 refine codeAny_loop rfl J0 (fun k u hJ=>wpAny_noted (E:=fun e u=>Z (.error e) u) (env:=ev) (m:=compTurn (.ListComp el [⟨tg,iter,[],0⟩] sc ps) 0 iv ac ev) ?_) k0 start0
 rw [compTurn_list1]
 have one:=turn k u hJ
 refine zt (wpAny_standAt (zt (y9 one (fun r u1 q1=>?_) fun _ _ z=>z)))
 cases r with
 | none=>exact zM q1
 | some v =>
  refine zt (y9 q1 (fun _ u2 q2=>zt (y9 q2 (fun _ u3 q3=>?_) fun _ _ z=>z)) fun _ _ z=>z)
  exact zt (zt (y9 q3 (fun y u4 q4=>zt (y9 q4 (fun _ u5 q5=>zM (zM ⟨rfl,q5⟩)) fun _ _ z=>z)) fun _ _ z=>z))
def CompW (J:It) (te:TE) (U:St) (Q:VK) (H1:Hp):Prop:=∃W:Nat->Nat->List V->Hp->Prop,(∃m,W 0 m [] H1)/\∀i m ys H,W i m ys H ->
 (J.stop i H/\ys.length<=sizeLine/\∀l,H l=none->Q (.ref l) (upd H l (.lst ys))) \/
 (J.go i H/\ys.length<=sizeLine/\∀z H',J.yld i H z H'->te (some z::U) H' fun y H2=>∃m',m'<m/\W (i+1) m' (ys++[y]) H2)
def zew (wi:TI) (te:TE):TE:=fun U H Q=>wi U H fun J H1=>CompW J te U Q H1
end L2
namespace L2
open PySem PySem.Spec PyProof.Rows PySem.W
structure CompSN (sc scope:Scope) (xs:List Str):Prop where
 kind:scope.kind=.function
 ncell:∀y∈scope.names,y.2 ≠ .cell
 names:∀y∈scope.names,y.2=.local->scope.names.lookup y.1=some .local/\(y.1∈xs\/y.1 = ".0")
 free:∀y∈scope.names,y.2=.free->sc.names.lookup y.1=some .cell
def cxN (X:Cx) (scope:Scope) (cl:List (Str×Addr)) (xs:List Str) (C:Addr) (aa:Shared) (ag:Hp) (fp:List Addr) (E:Value->Shared->Prop):Cx :=
 { X with N:=xs++X.N,s₀:=aa,H₀:=ag,env:=compEnvC scope cl C X.env,outer:=X.stack,ex:=fp,fn:=fun _=>false,pn:=[],xe:=E }
def cxNH (X:Cx) (M:List Str) (scope:Scope) (cl:List (Str×Addr)) (xs:List Str) (C:Addr) (aa:Shared) (ag:Hp) (fp:List Addr) (E:Value->Shared->Prop):Cx :=
 { X with N:=xs++M,s₀:=aa,H₀:=ag,env:=compEnvC scope cl C X.env,outer:=X.stack,ex:=fp,fn:=fun _=>false,pn:=[],xe:=E }
section
variable {X:Cx}{scope:Scope}{xs:List Str}
def zbK (S:CompSN X.env.scope scope xs) {y:Str} (h:(relabel scope X.env).names.lookup y=some .local):y∈xs\/y = ".0" := by
 obtain ⟨k0,hm,⟨_,_,e⟩|⟨e,_⟩⟩:=wv h
 ·cases e
 ·subst e
  exact (S.names _ hm rfl).2
def zaz (S:CompSN X.env.scope scope xs) (hk:X.env.scope.kind=.function) {y:Str}(h:(relabel scope X.env).names.lookup y=some .cell\/(relabel scope X.env).names.lookup y=some .free):(y,NameKind.free)∈scope.names:=by
 rcases h with h|h
 ·obtain ⟨k0,hm,⟨e,_,_⟩|⟨e,_⟩⟩:=wv h
  ·subst e;exact hm
  ·subst e;exact absurd rfl (S.ncell _ hm)
 ·obtain ⟨k0,hm,⟨_,_,e⟩|⟨e,n⟩⟩:=wv h
  ·cases e
  ·subst e
   exact hm
end
def PTs (X:Cx) (ifs:List Expr) (t:TT):Prop:=∀(pins:List (Addr×Obj)) (s:Shared) (U:St) (H:Hp) (Q:Bool->Hp->Prop),Inv X pins U H s->t U H Q ->
 wpAny (model X.prog X.w) X.A (forIn ifs true fun c r=>if r=true then do let ok <-isTrue c X.env (eval c X.env);pure (ForInStep.yield ok) else pure (ForInStep.yield r)) (TP X pins U Q) X.xe s
def zbL:TT:=fun _ H Q=>Q true H
def zjY {X:Cx}:PTs X [] zbL:=fun pins s U H Q I h=>wpAny_tests_nil ⟨H,I,h⟩
def zex {X:Cx}{c:Expr}{t:TT}(h:PT X c t):PTs X [c] t:=fun pins s U H Q I q=>wpAny_tests_one (h pins s U H Q I q)
def PTs.nox {X:Cx}{ifs:List Expr}{t:TT}(h:PTs X.nox ifs t):PTs X ifs t:=fun pins s U H Q I hw =>
 y9 (h pins s U H Q (I.wish _) hw) (fun b s' ⟨H',I',q⟩=>⟨H',I'.unwish,q⟩) fun _ _ z=>z.elim
def zey {P:Program}{wd:World}{B:Around}{Z:Result->Shared->Prop}{u0:Shared}{el tg iter:Expr}{ifs:List Expr}{sc:Scope}{ps:Pos}{iv ac:Value}{ev:Env}(J0:Nat->Shared->Prop)
  (turn:∀k u,J0 k u->wpAny (model P wd) B (pyNext iv) (fun r u1=>match r with|none=>Z (.ok .next) u1|some v=>wpAny (model P wd) B (letOwnedTupleGo tg iv v) (fun _ u2 =>
   wpAny (model P wd) B (assign tg ev v) (fun _ u3=>wpAny (model P wd) B (forIn ifs true fun c r=>if r=true then do let ok <-isTrue c ev (eval c ev);pure (ForInStep.yield ok) else pure (ForInStep.yield r)) (fun ok u4 =>
    if ok=true then wpAny (model P wd) B (eval el ev) (fun y u5=>wpAny (model P wd) B (call (.builtin "list.append") [ac,y]) (fun _ u6=>∃m,m<k/\J0 m u6)
    (notedBy (model P wd) B ev fun e u=>Z (.error e) u) u5) (notedBy (model P wd) B ev fun e u=>Z (.error e) u) u4 else ∃m,m<k/\J0 m u4) (notedBy (model P wd) B ev fun e u=>Z (.error e) u) u3) (notedBy (model P wd) B ev fun e u=>Z (.error e) u) u2) (notedBy (model P wd) B ev fun e u=>Z (.error e) u) u1)
   (notedBy (model P wd) B ev fun e u=>Z (.error e) u) u)
  (k0:Nat) (start0:J0 k0 u0):codeAny (model P wd) B (.compLoop (.ListComp el [⟨tg,iter,ifs,0⟩] sc ps) 0 iv ac ev) Z u0:=by
 refine codeAny_loop rfl J0 (fun k u hJ=>wpAny_noted (E:=fun e u=>Z (.error e) u) (env:=ev) (m:=compTurn (.ListComp el [⟨tg,iter,ifs,0⟩] sc ps) 0 iv ac ev) ?_) k0 start0
 rw [compTurn_list]
 have one:=turn k u hJ
 refine zt (wpAny_standAt (zt (y9 one (fun r u1 q1=>?_) fun _ _ z=>z)))
 cases r with
 | none=>exact zM q1
 | some v =>
  refine zt (y9 q1 (fun _ u2 q2=>zt (y9 q2 (fun _ u3 q3=>zt (y9 q3 (fun ok u4 q4=>?_) fun _ _ z=>z)) fun _ _ z=>z)) fun _ _ z=>z)
  cases ok with
  | true=>exact zt (zt (y9 q4 (fun y u4 q4=>zt (y9 q4 (fun _ u5 q5=>zM (zM ⟨rfl,q5⟩)) fun _ _ z=>z)) fun _ _ z=>z))
  | false=>exact zt (zM (zM ⟨rfl,q4⟩))
def CompWN (J:It) (gt:TG) (tt:TT) (te:TE) (n:Nat) (U:St) (Q:VK) (H1:Hp):Prop:=∃W:Nat->Nat->List V->Hp->Prop,(∃m,W 0 m [] H1)/\∀i m ys H,W i m ys H ->
 (J.stop i H/\ys.length<=sizeLine/\∀l,H l=none->Q (.ref l) (upd H l (.lst ys))) \/
 (J.go i H/\ys.length<=sizeLine/\∀z H',J.yld i H z H'->gt z (List.replicate n none++U) H' fun au H1=>∃own:St,au=own++U/\own.length=n/\tt au H1 fun b H2 =>
  if b=true then te au H2 fun y H3=>∃m',m'<m/\W (i+1) m' (ys++[y]) H3 else ∃m',m'<m/\W (i+1) m' ys H2)
def zcL (wi:TI) (gt:TG) (tt:TT) (te:TE) (n:Nat):TE:=fun U H Q=>wi U H fun J H1=>CompWN J gt tt te n U Q H1
def zez {X:Cx} {elt iter tg:Expr} {ifs:List Expr} {xs:List Str} {pos:Pos} {scope:Scope} {wi:TI} {gt:TG} {tt:TT} {te:TE} {M:List Str} (hc:X.calm=true) (S:CompSN X.env.scope scope xs) (eN:Hid scope M X.N) (hN0:((".0" : Str)::(xs++M)).Nodup)
  (hi:PI X tg iter wi) (hgt:∀cl C aa ag fp E,PG (cxNH X M scope cl xs C aa ag fp E) tg gt) (hif:∀cl C aa ag fp,PTs (cxNH X M scope cl xs C aa ag fp (fun _ _=>False)) ifs tt) (he:∀cl C aa ag fp,PE (cxNH X M scope cl xs C aa ag fp (fun _ _=>False)) elt te)
  (hs:∀v,foldedSetIterable iter X.env v=pure v:=by intro _;rfl):PE X (.ListComp elt [⟨tg,iter,ifs,0⟩] scope pos) (zcL wi gt tt te xs.length):=by
 intro pins s U H Q I h
 have hN:(xs++M).Nodup:=(jc.mp hN0).2
 have h0N:(".0" : Str)∉M:=fun z=>(jc.mp hN0).1 (yq _ z)
 obtain ⟨cl,hclos,hcl1,hcl2⟩:=zcJ X.env scope fun p hp hf=>I.ok.has p.1 (.inl (S.free p hp hf))
 have hkd:X.env.scope.kind=.function:=I.ok.kind
 rw [eval_ListComp]
 refine wpAny_comprehension_free (use:=none) rfl hs hclos S.kind (fun y hy hl=>(S.names y hy hl).1) ?_
 refine thn (hi pins s U H _ I h) fun v s1 h1=>thn h1 fun itv aa h2=>?_
 obtain ⟨it,fp,tn,J,H2,e,I2,T,st2,f2,W,⟨m0,w0⟩,turn⟩:=h2
 subst e
 refine wG (wpAny_newFunctionEnv S.ncell (by intro y hy;simp at hy) (fun ar ay av=>?_) S.kind)
 dsimp only at ay av ⊢
 generalize hH2:aa.heap.push { cls:=.type "list", dict:=none,data:=.seq ([]:List Value).toArray }=G2 at ay av ⊢
 have hC:G2.objs.size=aa.heap.objs.size+1:=by rw [<-hH2,Heap.size_push]
 have hDC:aa.heap.objs.size≠G2.objs.size:=by rw [hC];exact yz (jL _)
 have hCle:aa.heap.objs.size<=G2.objs.size:=by rw [hC];exact Nat.le_succ _
 have old:∀b o,aa.heap.get? b=some o->ar.get? b=some o:=fun b o e=>by
  have hb:b≠G2.objs.size:=by rw [hC];exact yz (Nat.lt_succ_of_lt (ym e))
  exact av.extBut b o hb (yo _ (hH2▸yo _ e))
 have hacc:ar.get? aa.heap.objs.size=some { cls:=.type "list", data:=.seq (#[]:Array Value) 0 }:=av.extBut _ _ hDC (yo _ (hH2▸y8 _ rfl))
 generalize hD:aa.heap.objs.size=D at *
 generalize hCC:G2.objs.size=C at *
 have ltS:∀{b:Nat} {o:Obj},aa.heap.get? b=some o->b<D:=fun e=>by rw [<-hD];exact ym e
 have nofr:∀b,D<=b->b∉frs X.stack:=fun b hb z=>by
  rcases yD.mp (I2.stkSub b z) with q|q
  ·exact ar1 I2.lt hD hb q
  ·exact I2.nofs (by rw [hD];exact hb) q
 let E':Value->Shared->Prop:=notedBy (model X.prog X.w) X.A (compEnvC scope cl C X.env) fun e s'=>compPost (model X.prog X.w) X.A X.xe none (EP X pins U Q) (.ref D) C (.error e) s'
 let Y:Cx:=cxNH X M scope cl xs C aa H2 fp E'
 have fpX:∀b∈fp,FpOk X pins H2 b:=f2
 have okY:Y.Ok:=by
  refine ⟨I2.ok.mod,S.kind,I2.ok.glob,I2.ok.blt,(by show aa.heap.objs.size<=C;omega),fun y z c h1 h2=>?_,fun y hy=>?_,fun y c hf=>?_,I2.ok.hd,I2.ok.frames,.inl rfl,fun b hb=>?_,I2.bs,yT I2.ok.bsz I2.sz,fun b o hb hx=>?_,fun b hb hx=>?_,I2.stack,I2.stkFree⟩
  ·exact I2.ok.inj y z c (hcl1 y c h1) (hcl1 z c h2)
  ·exact hcl2 y (zaz S hkd hy)
  ·cases hf
  ·refine ⟨fun z=>?_,fun y c hy=>(fpX b hb).2.2.2.2.1 y c (hcl1 y c hy)⟩
   obtain ⟨o,ho,_⟩:=T.obj 0 _ st2 b hb
   exact j0 (ltS ho) hC z
  ·rcases (fpX b hx).2.2.2.1 with z|z
   ·exact I2.ok.noex b o hb z
   ·exact ar3 (ym hb) I2.ok.bsz z
  ·rcases yD.mp (I2.stkSub b hx) with q|q
   ·exact (fpX b hb).2.1 q
   ·exact (fpX b hb).2.2.1 q
 have hpinD:∀{s':Shared} {H':Hp} {o:Obj},s'.heap.get? D=some o->H' D=none->(∀v,o.data ≠ .cell v)->∀p∈[(D,o)],s'.heap.get? p.1=some p.2/\H' p.1=none/\p.1≠Y.env.locals/\p.1∉Y.fs/\∀v,p.2.data ≠ .cell v:=fun {s' H' o} e1 e2 e3 p hp=>by
  have ep:p=(D,o):=by simpa using hp
  subst ep
  exact ⟨e1,e2,hDC,nofr D (yg _),e3⟩
 have I0:Inv Y [(D,{ cls:=.type "list", data:=.seq (#[]:Array Value) 0 })] (List.replicate xs.length none++U) H2 { aa with heap:=ar,toks:=aa.toks+([]:List (Str×Value)).length }:=by
  have fresh:∀b,D<=b->H2 b=none:=fun b hb=>I2.hok.fresh (by rw [hD];exact hb)
  refine ⟨okY,rfl,I2.bare,Un.kept old,⟨_,ay,fun i y v e1 e2 e3=>?_⟩,fun y c hy=>?_,fresh C (by omega),fun y c hy=>I2.freeC y c (hcl1 y c hy),fun p hp=>hpinD hacc (fresh D (yg _)) (fun v z=>by cases z) p hp,I2.hok.kept old,?_⟩
  ·by_cases hlt:i<xs.length
   ·rw [we (by simpa using hlt),List.getElem?_replicate] at e2
    simp [hlt] at e2
   ·obtain ⟨j,rfl⟩:∃j,i=xs.length+j:=⟨i-xs.length,by omega⟩
    have e0':M[j]?=some y:=by
     have:(xs++M)[xs.length+j]?=some y:=e1
     rw [jZ (by omega)] at this
     simpa using this
    have e1':X.N[j]?=some y:=by
     rcases eN.get e0' with q|q
     ·exact q
     ·refine absurd ?_ q
      rcases e3 with e3|e3|e3<;>(obtain ⟨k0,hm,_⟩:=wv e3;exact zad.mpr ⟨_,hm,rfl⟩)
    have e2':U[j]?=some (some v):=by
     rw [jZ (by simp)] at e2
     simpa using e2
    have hyx:¬(y∈xs\/y = ".0"):=fun z=>by
     have hm:=wc e0'
     rcases z with z|z
     ·exact (List.nodup_append.mp hN).2.2 y z y hm rfl
     ·rw [z] at hm
      exact h0N hm
    have hfr:(y,NameKind.free)∈scope.names:=by
     rcases e3 with e3|e3|e3
     ·exact absurd (zbK S e3) hyx
     ·exact zaz S hkd (.inl e3)
     ·exact zaz S hkd (.inr e3)
    have hkc:X.env.scope.names.lookup y=some .cell:=S.free _ hfr rfl
    obtain ⟨m,hn,hl⟩:=I2.loc
    obtain ⟨u,r,l⟩:=hl j y v e1' e2' (.inr (.inl hkc))
    refine ⟨u,r,?_⟩
    rcases l with ⟨hk,_⟩|⟨_,c,hcc,hcell⟩
    ·have:X.env.kindOf y=some .cell:=hkc
     rw [this] at hk;cases hk
    ·obtain ⟨c',hc'⟩:=hcl2 y hfr
     have:=hcl1 y c' hc'
     rw [hcc] at this
     cases this
     refine .inr ⟨?_,c,hc',?_⟩
     ·rcases e3 with e3|e3|e3
      ·exact absurd (zbK S e3) hyx
      ·exact .inl e3
      ·exact .inr e3
     ·obtain ⟨o,ho,hd⟩:=hcell
      exact ⟨o,old c o ho,hd⟩
  ·obtain ⟨v,o,ho,hd⟩:=I2.cell y c (hcl1 y c hy)
   exact ⟨v,o,old c o ho,hd⟩
  ·show (List.replicate xs.length none++U).length=(xs++M).length
   simp [I2.len,eN.1]
 have fpY:∀{pl:List (Addr×Obj)} {H':Hp},(∀p∈pl,p.1=D)->(∀b∈fp,H' b=none)->∀b∈fp,FpOk Y pl H' b:=fun {pl H'} hpl hn b hb=>by
  obtain ⟨o,ho,_⟩:=T.obj 0 _ st2 b hb
  refine ⟨hn b hb,fun z=>?_,?_,.inl hb,(okY.exf b hb).2,fun p hp z=>?_⟩
  ·exact j0 (ltS ho) hC z
  ·exact okY.exfs b hb
  ·have hp':p∈pl:=by simpa [Y,cxNH] using hp
   exact ar4 (ltS ho) (hpl p hp') z
 have loop:codeAny (model X.prog X.w) X.A (.compLoop (.ListComp elt [⟨tg,iter,ifs,0⟩] scope pos) 0 (.ref it) (.ref D) (compEnvC scope cl C X.env))
   (compPost (model X.prog X.w) X.A X.xe none (EP X pins U Q) (.ref D) C) { aa with heap:=ar,toks:=aa.toks+([]:List (Str×Value)).length }:=by
  refine zey (fun n s'=>∃i ys H' its k,Inv Y [(D,{ cls:=.type "list", data:=.seq (its:List Value).toArray k })] (List.replicate xs.length none++U) H' s'/\Vals ys its/\tn i s'.heap/\(∀b∈fp,H' b=none)/\W i n ys H') ?_ m0
   ⟨0,[],H2,[],0,I0,.nil,T.keep 0 _ _ st2 (fun b hb o e=>old b o e),fun b hb=>(fpX b hb).1,w0⟩
  rintro n s3 ⟨i,ys,H3,its,k,I3,rv,st3,fr3,w3⟩
  have pinl:∀{o:Obj},∀p∈[(D,o)],p.1=D:=fun {o} p hp=>by
   have ep:p=(D,o):=by simpa using hp
   rw [ep]
  obtain ⟨gD,nD,_,_,_⟩:=I3.pin (D,_) (yq _ yO)
  rcases turn i n ys H3 w3 with ⟨stop,hz,q⟩|⟨go,hz,step⟩
  ·refine thn (T.done Y rfl rfl rfl hc i _ s3 _ H3 E' I3 (fpY pinl fr3) st3 stop) fun r s4 ⟨hr,I4⟩=>?_
   subst hr
   obtain ⟨gD4,nD4,_,_,_⟩:=I4.pin (D,_) (yq _ yO)
   obtain ⟨m4,hn4,_⟩:=id I4.loc
   refine ⟨m4,hn4,fun h' hsb=>?_⟩
   refine ⟨.ref D,upd H3 D (.lst ys),?_,rfl,q D nD4⟩
   have neC:∀{b:Addr} {u:HO},H3 b=some u->b≠C:=fun e z=>by
    have:H3 C=none:=I4.free
    rw [z,this] at e;cases e
   refine I2.call' (s':={ s4 with heap:=h' }) (ch:=fp) (H':=upd H3 D (.lst ys)) I4.os ?_ ?_ I4.bare fun b hb=>⟨(fpX b hb).2.2.2.1,(fpX b hb).2.1,(fpX b hb).2.2.2.2.1,(fpX b hb).2.2.2.2.2⟩
   ·have B:=I4.base
    have ltC:∀{b:Nat} {o:Obj},aa.heap.get? b=some o->b≠C:=fun e z=>j0 (ltS e) hC z
    have neD:∀{b:Addr} {u:HO},H3 b=some u->b≠D:=fun e z=>by rw [z,nD4] at e;cases e
    refine ⟨fun b o e nn hb hx=>(hsb.2 b (ltC e)).trans (B.keep b o e nn hb hx),fun b o e nn hb hx=>?_,fun b o e nn hx=>?_,fun b o e hx=>?_,fun b xs e=>?_,fun b o u e=>?_,fun b ps e=>?_⟩
    ·obtain ⟨sl,z⟩:=B.slot b o e nn hb hx
     exact ⟨sl,(hsb.2 b (ltC e)).trans z⟩
    ·have hbD:b≠D:=yz (ltS e)
     rw [zX hbD]
     exact B.free b o e nn hx
    ·obtain ⟨o',z⟩:=B.there b o e hx
     exact ⟨o',(hsb.2 b (ltC e)).trans z⟩
    ·have z:=B.tups b xs e
     rw [zX (neD z)];exact z
    ·have z:=B.frzs b o u e
     rw [zX (neD z)];exact z
    ·obtain ⟨more,z⟩:=B.tbls b ps e
     exact ⟨more,by rw [zX (neD z)];exact z⟩
   ·intro a o e
    by_cases ha:a=D
    ·subst ha
     rw [yC] at e
     cases e
     exact ⟨hz,its,k,rv,(hsb.2 _ hDC).trans gD4⟩
    ·rw [zX ha] at e
     have keepNe:∀b u,H3 b=some u->(upd H3 D (.lst ys)) b=some u:=fun b u z=>by
      have hb:b≠D:=fun w=>by rw [w,nD4] at z;cases z
      rw [zX hb];exact z
     refine (I4.hok a o e).stay (fun b u hb z=>(hsb.2 b ?_).trans z) (fun b z=>keepNe b _ z) fun b xs z=>keepNe b _ z
     rcases hb with hb|hb
     ·rw [hb];exact neC e
     ·exact neC hb
  ·refine thn (T.item Y rfl rfl rfl hc i _ s3 _ H3 E' I3 (fpY pinl fr3) st3 go) fun r s4 ⟨u,hr,h4⟩=>?_
   subst hr
   refine thn h4 fun _ s5 ⟨z,H5,I5,r5,y5,st5,fr5⟩=>?_
   have I5':=I5.pinned (fpY pinl fr5) (T.obj _ _ st5)
   have pgx:PG Y tg gt:=hgt cl C aa H2 fp E'
   have peY:PE Y elt te:=PE.nox (X:=Y) (he cl C aa H2 fp)
   have ptY:PTs Y ifs tt:=PTs.nox (X:=Y) (hif cl C aa H2 fp)
   refine thn (pgx _ s5 (List.replicate xs.length none++U) H5 z u _ I5' r5 (step z _ y5)) fun _ s6 ⟨aD,H6,I6,own,e1,e2,q6⟩=>?_
   subst e1
   have wk:∀(j:Nat) v,(List.replicate xs.length none++U)[j]?=some (some v)->(own++U)[j]?=some (some v):=fun j v e=>by
    by_cases hlt:j<xs.length
    ·rw [we (by simpa using hlt),List.getElem?_replicate] at e
     simp [hlt] at e
    ·rw [jZ (by simp;omega)] at e
     rw [jZ (by omega),e2]
     simpa using e
   have wl:(List.replicate xs.length none++U).length=(own++U).length:=by simp [e2]
   refine thn (ptY _ s6 _ _ _ I6 q6) fun b s7 ⟨H7,I7,q7⟩=>?_
   cases b with
   | true =>
    refine thn (peY _ s7 _ _ _ I7 q7) fun uy s7 ⟨y,H7,I7,ry,m',hm,w7⟩=>?_
    obtain ⟨gD7,nD7,_,_,_⟩:=I7.pin (D,_) (yq _ (jW _ yO))
    refine wpAny_list_append_plain ⟨k,gD7⟩ (fun h' hpl hsb=>?_) (by rw [yx,<-rv.length];exact hz)
    obtain ⟨k',gD'⟩:=hpl
    have I8:Inv Y [] (own++U) H7 { s7 with heap:=h' }:=(I7.pins_of (pins':=[]) (fun p hp=>nomatch hp)).turned (it:=D) (t':=s7.toks) (fun b o hb e=>(hsb.2 b hb).trans e) nD7 hDC
     (.inr (by show aa.heap.objs.size<=D;omega)) (fun a c hy hz'=>by
      obtain ⟨v',o',ho',_⟩:=I2.cell a c (hcl1 a c hy)
      exact yz (ltS ho') hz') (fun p hp=>by simp [Y,cxNH] at hp)
    have I9:Inv Y [] (List.replicate xs.length none++U) H7 { s7 with heap:=h' }:=I8.weak wl wk
    have pinOf:∀b∈fp,∃o,s5.heap.get? b=some o/\s7.heap.get? b=some o/\H7 b=none:=fun b hb=>by
     obtain ⟨o,e,_⟩:=T.obj _ _ st5 b hb
     have q:=I7.pin (b,o) (yq _ (yq _ (zaf hb e)))
     exact ⟨o,e,q.1,q.2.1⟩
    have fpD:∀b∈fp,b≠D:=fun b hb=>by
     obtain ⟨o,ho,_⟩:=T.obj 0 _ st2 b hb
     exact yz (ltS ho)
    have eT:its.toArray.push uy=(its++[uy]).toArray:=by simp
    rw [eT] at gD'
    refine ⟨m',hm,i+1,ys++[y],H7,its++[uy],k',I9.pins_of (hpinD gD' nD7 fun v e=>by cases e),rv.append (.cons ry .nil),T.keep (i+1) _ _ st5 fun b hb o e=>?_,fun b hb=>?_,w7⟩
    ·obtain ⟨o',e1,e2,_⟩:=pinOf b hb
     rw [e] at e1
     cases e1
     exact (hsb.2 b (fpD b hb)).trans e2
    ·obtain ⟨_,_,_,q⟩:=pinOf b hb
     exact q
   | false =>
    obtain ⟨m',hm,w7⟩:=q7
    obtain ⟨gD7,nD7,_,_,_⟩:=I7.pin (D,_) (yq _ (jW _ yO))
    have I9:Inv Y [] (List.replicate xs.length none++U) H7 s7:=(I7.pins_of (pins':=[]) (fun p hp=>nomatch hp)).weak wl wk
    have pinOf:∀b∈fp,∃o,s5.heap.get? b=some o/\s7.heap.get? b=some o/\H7 b=none:=fun b hb=>by
     obtain ⟨o,e,_⟩:=T.obj _ _ st5 b hb
     have q:=I7.pin (b,o) (yq _ (yq _ (zaf hb e)))
     exact ⟨o,e,q.1,q.2.1⟩
    refine ⟨m',hm,i+1,ys,H7,its,k,I9.pins_of (hpinD gD7 nD7 fun v e=>by cases e),rv,T.keep (i+1) _ _ st5 fun b hb o e=>?_,fun b hb=>?_,w7⟩
    ·obtain ⟨o',e1,e2,_⟩:=pinOf b hb
     rw [e] at e1
     cases e1
     exact e2
    ·obtain ⟨_,_,_,q⟩:=pinOf b hb
     exact q
 exact codeAny_compStart_list loop (T.self X.A 0 _ _ _ (T.keep 0 _ _ st2 (fun b hb o e=>old b o e)) loop)
def zjZ {X:Cx} {elt iter tg:Expr} {ifs:List Expr} {xs:List Str} {pos:Pos} {scope:Scope} {wi:TI} {gt:TG} {tt:TT} {te:TE} {N:List Str} (hc:X.calm=true) (S:CompSN X.env.scope scope xs) (eN:X.N=N) (hN0:((".0" : Str)::(xs++N)).Nodup)
  (hi:PI X tg iter wi) (hgt:∀cl C aa ag fp E,PG (cxN X scope cl xs C aa ag fp E) tg gt) (hif:∀cl C aa ag fp,PTs (cxN X scope cl xs C aa ag fp (fun _ _=>False)) ifs tt) (he:∀cl C aa ag fp,PE (cxN X scope cl xs C aa ag fp (fun _ _=>False)) elt te)
  (hs:∀v,foldedSetIterable iter X.env v=pure v:=by intro _;rfl):PE X (.ListComp elt [⟨tg,iter,ifs,0⟩] scope pos) (zcL wi gt tt te xs.length) :=
 zez (M:=X.N) hc S Hid.refl (by rw [eN];exact hN0) hi hgt hif he hs
def zj0 {X:Cx} {elt iter:Expr} {x:Str} {px pos:Pos} {scope:Scope} {wi:TI} {te:TE} {M:List Str} (hc:X.calm=true) (S:CompSc X.env.scope scope x) (eN:Hid scope M X.N) (hN0:((".0" : Str)::x::M).Nodup)
  (hi:PI X (.Name x px) iter wi) (he:∀cl C aa ag fp,PE (cxH X M scope cl x C aa ag fp (fun _ _=>False)) elt te)
  (hs:∀v,foldedSetIterable iter X.env v=pure v:=by intro _;rfl):PE X (.ListComp elt [⟨.Name x px,iter,[],0⟩] scope pos) (zew wi te):=by
 have hN:([x]++M).Nodup:=(jc.mp hN0).2
 have S':CompSN X.env.scope scope [x]:=⟨S.kind,S.ncell,fun y hy h=>⟨(S.names y hy h).1,(S.names y hy h).2.imp (fun e=>by rw [e];exact List.mem_singleton_self _) id⟩,S.free⟩
 have pgx:∀cl C aa ag fp E,PG (cxNH X M scope cl [x] C aa ag fp E) (.Name x px) (wu 0):=fun cl C aa ag fp E=>zae (X:=cxNH X M scope cl [x] C aa ag fp E) (i:=0) hN rfl (.inl (wH S.hx)) (.inr (wH S.hx))
 have e:∀U Q,(fun J H1=>CompW J te U Q H1)=fun J H1=>CompWN J (wu 0) zbL te 1 U Q H1:=fun U Q=>by
  funext J H1
  exact propext (exists_congr fun W=>and_congr Iff.rfl (forall_congr' fun i=>forall_congr' fun m=>forall_congr' fun ys=>forall_congr' fun H=>imp_congr Iff.rfl (or_congr Iff.rfl (and_congr Iff.rfl (and_congr Iff.rfl (forall_congr' fun z=>forall_congr' fun H'=>imp_congr Iff.rfl
   ⟨fun h=>⟨[some z],rfl,rfl,h⟩,fun ⟨_,_,_,h⟩=>h⟩))))))
 intro pins s U H Q I h
 refine zez (te:=te) (tt:=zbL) hc S' eN hN0 hi pgx (fun cl C aa ag fp=>zjY) (fun cl C aa ag fp=>he cl C aa ag fp) hs pins s U H Q I ?_
 show wi U H fun J H1=>CompWN J (wu 0) zbL te 1 U Q H1
 rw [<-e]
 exact h
end L2
namespace L2
open PySem PySem.Spec PyProof.Rows
def Its (z:Str):It:=⟨fun i _=>i<z.cps.size,fun i H v H'=>H'=H/\∃c,z.cps[i]?=some c/\v=.str ⟨#[c]⟩,fun i _=>z.cps.size<=i⟩
def zeA {P:Program} {w:World} {K:PySem.W.Frag} {tg:Expr} (z:Str) (t:Tok) (it:Addr) (ty:String) (hty:ty = "str_ascii_iterator" \/ ty = "str_iterator"):Turn P w K tg (Its z) [it] it (fun i h=>h.IsStrIter it ty z t i) where
 mem:=by simp
 obj:=fun i h st b hb=>by
  have e:b=it:=by simpa using hb
  subst e
  obtain ⟨o,e,c,d⟩:=st
  exact ⟨o,e,fun v z=>by rw [d] at z;cases z⟩
 keep:=fun i h h' st k=>by
  obtain ⟨o,e,r⟩:=st
  exact ⟨o,k it (by simp) o e,r⟩
 item:=by
  intro X hP hw hK hc i pins s U H E I hf st hg
  subst hP hw hK
  obtain ⟨f0,f1,f2,f3,f4,f5⟩:=hf it (by simp)
  have W:Walks X.prog X.w X.A it [it] [it] z.cps.size (SignAt z) (fun i h=>h.IsStrIter it ty z t i):=by
   rcases hty with e|e
   ·rw [e];exact Walks.strAscii (I.ok.hd hc) it z t
   ·rw [e];exact Walks.strWide (I.ok.hd hc) it z t
  refine W.item i s _ _ hg st fun v h' tk hv st' kk=>?_
  obtain ⟨c,u,hcx,rfl⟩:=hv
  have I1:Inv X pins U H { s with heap:=h',toks:=tk }:=I.turned (fun b o hb e=>kk b o (by simpa using hb) e) f0 f1 f3 f4 f5
  obtain ⟨o,e,cc,d⟩:=id st'
  exact ⟨_,rfl,zbG (s:={ s with heap:=h',toks:=tk }) e cc d (by rcases hty with e|e<;>rw [e]<;>decide) ⟨.str ⟨#[c]⟩,H,I1,⟨u,rfl⟩,⟨rfl,c,hcx,rfl⟩,st',fun b hb=>(hf b hb).1⟩⟩
 done:=by
  intro X hP hw hK hc i pins s U H E I hf st hg
  subst hP hw hK
  obtain ⟨f0,f1,f2,f3,f4,f5⟩:=hf it (by simp)
  have hn:z.cps[i]?=none:=by
   have hg':z.cps.size<=i:=hg
   simpa using hg'
  rcases hty with e|e
  ·rw [e] at st
   exact wpAny_pyNext_ascii_end (I.ok.hd hc) st hn fun h' eb=>⟨rfl,I.turned (t':=s.toks) (fun b o hb e=>eb b o hb e) f0 f1 f3 f4 f5⟩
  ·rw [e] at st
   exact wpAny_pyNext_wide_end (I.ok.hd hc) st hn fun h' eb=>⟨rfl,I.turned (t':=s.toks) (fun b o hb e=>eb b o hb e) f0 f1 f3 f4 f5⟩
 self:=fun A i s Q E st h=>by
  rcases hty with e|e
  ·rw [e] at st;exact wpAny_pyIter_striter_ascii st h
  ·rw [e] at st;exact wpAny_pyIter_striter_wide st h
section
variable {X:Cx}
def zj1:SlR X (fun x lo hi H Q=>∃z,x=.str z/\z.length<=sizeLine/\Q (.str (Txt.slice z lo hi)) H):=by
 intro pins s U H x v vl vu lo hi sl Q I rx hs pl pu h
 obtain ⟨z,rfl,hz,q⟩:=h
 obtain ⟨t,rfl⟩:=rx
 refine ⟨"str", _,F.slot_str_getitem.lookup,typeIs_str _ _ _,?_⟩
 have fin:∀t' k,EP X pins U Q (.str (Txt.slice z lo hi) t') { s with toks:=k }:=fun t' k=>⟨.str _,H,I.tok _,⟨_,rfl⟩,q⟩
 cases pl with
 | none =>
  cases pu with
  | none=>exact wpAny_getItem_str_slice (l:=none) (u:=none) (st:=none) hs rfl (post_val_or_str ⟨yT (Txt.slice_le z _ _) hz,fin⟩)
  | int j uj=>exact wpAny_getItem_str_slice (l:=none) (u:=some (j,uj)) (st:=none) hs rfl (post_val_or_str ⟨yT (Txt.slice_le z _ _) hz,fin⟩)
 | int i ui =>
  cases pu with
  | none=>exact wpAny_getItem_str_slice (l:=some (i,ui)) (u:=none) (st:=none) hs rfl (post_val_or_str ⟨yT (Txt.slice_le z _ _) hz,fin⟩)
  | int j uj=>exact wpAny_getItem_str_slice (l:=some (i,ui)) (u:=some (j,uj)) (st:=none) hs rfl (post_val_or_str ⟨yT (Txt.slice_le z _ _) hz,fin⟩)
def vals_strs:∀{ys:List Str}{us:List Value},Vals (ys.map V.str) us->StrsAre us ys
 | [],us,r=>by rw [List.map_nil] at r;cases r;exact .nil
 | y::ys,us,r=>by
  rw [ji] at r
  cases r with
  | cons r1 r2 =>
   obtain ⟨t,e⟩:=r1
   subst e
   exact .cons y t (vals_strs r2)
def zj2:OpR X (compareOp .In) (fun x y H Q=>∃(c:Nat) (z:Str),x=.str ⟨#[c]⟩/\y=.str z/\Q (.bl (decide (c∈z.cps.toList))) H):=by
 intro pins s U H x y v u Q I rx ry h
 obtain ⟨c,z,rfl,rfl,q⟩:=h
 refine ziK pins s U H _ _ v u Q I rx ry ⟨_,_,rfl,rfl,?_⟩
 rw [StrLaws.found_one]
 exact q
end
section
variable {κ:Type} [DecidableEq κ]
def valV (kvs:List (κ×V)) (k:κ):Option V:=(kvs.find? fun kv=>decide (kv.1=k)).map (·.2)
def putK (kvs:List (κ×V)) (k:κ) (v:V):List (κ×V) :=
 if (kvs.any fun kv=>decide (kv.1=k))=true then kvs.map (fun kv=>if kv.1=k then (kv.1,v) else kv) else kvs++[(k,v)]
def zbM {p:κ×V}{r:List (κ×V)}{k:κ}(e:p.1=k):valV (p::r) k=some p.2:=by simp [valV,List.find?_cons,e]
def zbN {p:κ×V}{r:List (κ×V)}{k:κ}(e:¬p.1=k):valV (p::r) k=valV r k:=by simp [valV,List.find?_cons,e]
def zeB (k:κ):∀kvs:List (κ×V),(kvs.any fun kv=>decide (kv.1=k))=(valV kvs k).isSome
 | []=>rfl
 | p::r=>by
  rw [List.any_cons]
  by_cases e:p.1=k
  ·simp only [zbM e,zaZ e,Bool.true_or,Option.isSome_some]
  ·rw [zbN e,jw e,Bool.false_or];exact zeB k r
def zcM (kvs:List (κ×V)) (k:κ) (v:V):(putK kvs k v).length<=kvs.length+1:=by
 unfold putK
 split
 ·rw [jX];omega
 ·rw [zac,jY,List.length_nil];omega
def RelO.isSome_eq {o:Option V}{u:Option Value}(r:RelO o u):o.isSome=u.isSome:=by
 cases o with
 | none=>cases u with
  | none=>rfl
  | some _=>exact (show False from r).elim
 | some _=>cases u with
  | none=>exact (show False from r).elim
  | some _=>rfl
def KV.val {kvs:List (κ×V)}{vs:List (κ×Value)}(r:KV kvs vs) (k:κ):RelO (valV kvs k) (valueAt vs k):=by
 unfold KV at r
 induction r with
 | nil=>exact True.intro
 | @cons p q ps qs h t ih =>
  obtain ⟨h1,h2⟩:=h
  by_cases e:p.1=k
  ·have e':q.1=k:=h1.symm.trans e
   have b:valueAt (q::qs) k=some q.2:=by simp [valueAt,List.find?_cons,e']
   rw [zbM e,b];exact h2
  ·have e':¬q.1=k:=fun z=>e (h1.trans z)
   have b:valueAt (q::qs) k=valueAt qs k:=by simp [valueAt,List.find?_cons,e']
   rw [zbN e,b];exact ih
def KV.any {kvs:List (κ×V)}{vs:List (κ×Value)}(r:KV kvs vs) (k:κ):(kvs.any fun kv=>decide (kv.1=k))=vs.any fun kv=>decide (kv.1=k):=by
 unfold KV at r
 induction r with
 | nil=>rfl
 | cons h t ih=>rw [List.any_cons,List.any_cons,ih,h.1]
def KV.repl {kvs:List (κ×V)}{vs:List (κ×Value)}(r:KV kvs vs) (k:κ) {y:V}{u:Value}(ry:RelV y u) :
  KV (kvs.map fun kv=>if kv.1=k then (kv.1,y) else kv) (vs.map fun kv=>if kv.1=k then (kv.1,u) else kv):=by
 unfold KV at r ⊢
 induction r with
 | nil=>exact .nil
 | @cons p q ps qs h t ih =>
  rw [ji,ji]
  refine .cons ?_ ih
  obtain ⟨h1,h2⟩:=h
  by_cases e:p.1=k
  ·rw [zE e,zE (h1.symm.trans e)];exact ⟨h1,ry⟩
  ·rw [zN e,zN (fun z=>e (h1.trans z))];exact ⟨h1,h2⟩
def KV.put {kvs:List (κ×V)}{vs:List (κ×Value)}(r:KV kvs vs) (k:κ) {y:V}{u:Value}(ry:RelV y u):KV (putK kvs k y) (stored vs k u):=by
 unfold putK stored
 rw [r.any k]
 by_cases e:(vs.any fun kv=>decide (kv.1=k))=true
 ·rw [zE e,zE e];exact r.repl k ry
 ·rw [zN e,zN e];exact Paired.snoc r ⟨rfl,ry⟩
def KV.keys {kvs:List (κ×V)}{vs:List (κ×Value)}(r:KV kvs vs):kvs.map (·.1)=vs.map (·.1):=by
 unfold KV at r
 induction r with
 | nil=>rfl
 | cons h t ih=>rw [ji,ji,ih,h.1]
def KV.length {kvs:List (κ×V)}{vs:List (κ×Value)}(r:KV kvs vs):kvs.length=vs.length:=Paired.length r
end
def zaA {P:Program}{w:World}{k:Key}{u:Value}(r:RelV (kV k) u):(mixKind P w).is k u=true:=by
 cases k with
 | inl i=>obtain ⟨t,e⟩:=(show ∃t,u=Value.int i t from r);subst e;exact zhF P w i t
 | inr x=>obtain ⟨t,e⟩:=(show ∃t,u=Value.str x t from r);subst e;exact zhG P w x t
def zeC {P:Program}{w:World}:∀{ks:List Key}{us:List Value},Vals (ks.map kV) us->ItemsAre (mixKind P w) ks us
 | [],_,r=>by rw [List.map_nil] at r;cases r;exact .nil
 | k::ks,_,r=>by
  rw [ji] at r
  cases r with
  | cons h t=>exact .cons (zaA h) (zeC t)
abbrev KT (H:Hp):List (List Key×V)->List (List Key×Addr×Value)->Prop:=Paired fun p q=>p.1=q.1/\H q.2.1=some (.tup (p.1.map kV))/\RelV p.2 q.2.2
def KT.val {H:Hp}{kvs:List (List Key×V)}{xs:List (List Key×Addr×Value)}(r:KT H kvs xs) (k:List Key):RelO (valV kvs k) ((atKey xs k).map (·.2)):=by
 induction r with
 | nil=>exact True.intro
 | @cons p q ps qs h t ih =>
  obtain ⟨h1,_,h2⟩:=h
  by_cases e:p.1=k
  ·have e':q.1=k:=h1.symm.trans e
   have b:atKey (q::qs) k=some q.2:=by simp [atKey,List.find?_cons,e']
   rw [zbM e,b];exact h2
  ·have e':¬q.1=k:=fun z=>e (h1.trans z)
   have b:atKey (q::qs) k=atKey qs k:=by simp [atKey,List.find?_cons,e']
   rw [zbN e,b];exact ih
def KT.repl {H:Hp}{kvs:List (List Key×V)}{xs:List (List Key×Addr×Value)}(r:KT H kvs xs) (k:List Key) {y:V}{u:Value}(ry:RelV y u) :
  KT H (kvs.map fun kv=>if kv.1=k then (kv.1,y) else kv) (xs.map (putAt k u)):=by
 induction r with
 | nil=>exact .nil
 | @cons p q ps qs h t ih =>
  rw [ji,ji]
  refine .cons ?_ ih
  obtain ⟨h1,h2,h3⟩:=h
  unfold putAt
  by_cases e:p.1=k
  ·rw [zE e,zE (h1.symm.trans e)];exact ⟨h1,h2,ry⟩
  ·rw [zN e,zN (fun z=>e (h1.trans z))];exact ⟨h1,h2,h3⟩
def KT.put {H:Hp}{kvs:List (List Key×V)}{xs:List (List Key×Addr×Value)}(r:KT H kvs xs) (k:List Key) {b:Addr}{y:V}{u:Value}(hb:H b=some (.tup (k.map kV))) (ry:RelV y u) :
  KT H (putK kvs k y) (storedH xs k b u):=by
 have e:(kvs.any fun kv=>decide (kv.1=k))=(atKey xs k).isSome:=by
  rw [zeB,(r.val k).isSome_eq,Option.isSome_map]
 unfold putK storedH
 rw [e]
 by_cases q:(atKey xs k).isSome=true
 ·rw [zE q,zE q];exact r.repl k ry
 ·rw [zN q,zN q];exact Paired.snoc r ⟨rfl,hb,ry⟩
def KT.keeps {H H':Hp}{kvs:List (List Key×V)}{xs:List (List Key×Addr×Value)}(r:KT H kvs xs) (ht:∀b ys,H b=some (.tup ys)->H' b=some (.tup ys)):KT H' kvs xs :=
 Paired.mapP r fun _ _ z=>⟨z.1,ht _ _ z.2.1,z.2.2⟩
section
variable {P:Program}{w:World}{H:Hp}{h:Heap}{a:Addr}
def zeD {u:HO}(ok:HOk P w H h) (e:Rd H a u):ObjOk P w H h a u:=e.ok ok
def jq {kvs:List (Key×V)}(ok:HOk P w H h) (e:Rd H a (.dK kvs)):kvs.length<=sizeLine/\(a==sysModules)=false/\∃vs,KV kvs vs/\h.DictOf (mixKind P w) a vs :=
 show ObjOk P w H h a (.dK kvs) from zeD ok e
def zeE {kvs:List (Key×V)}(ok:HOk P w H h) (e:H a=some (.dK kvs)):kvs.length<=sizeLine/\(a==sysModules)=false/\∃vs,KV kvs vs/\h.DictOf (mixKind P w) a vs:=jq ok (.inl e)
def za6 {ks:List Key}(ok:HOk P w H h) (e:H a=some (.tup (ks.map kV))):(tupleKind (mixKind P w)).is h ks a:=by
 obtain ⟨_,its,r,o,h1,h2,n,h3⟩:=(show ObjOk P w H h a (.tup (ks.map kV)) from ok a _ e)
 exact ⟨o,its.toArray,n,h1,h2,h3,by simpa using zeC r⟩
def za7 {kvs:List (List Key×V)}(ok:HOk P w H h) (e:Rd H a (.dT kvs)):kvs.length<=sizeLine/\(a==sysModules)=false /\
  ∃xs,KT H kvs xs/\h.DictOfH (tupleKind (mixKind P w)) a xs:=by
 obtain ⟨z,y,xs,r,o,es,ep,h1,h2,h3,h4,h5⟩:=(show ObjOk P w H h a (.dT kvs) from zeD ok e)
 refine ⟨z,y,xs,r,o,es,ep,h1,h2,h3,h4,fun x hx=>?_,h5⟩
 have all:∀{l:List (List Key×V)} {m:List (List Key×Addr×Value)},KT H l m->∀x∈m,(tupleKind (mixKind P w)).is h x.1 x.2.1:=by
  intro l m q
  induction q with
  | nil=>intro x hx;exact nomatch hx
  | @cons p q ps qs hq t ih =>
   intro x hx
   rcases yD.mp hx with e|hx
   ·subst e
    exact za6 ok (by rw [<-hq.1];exact hq.2.1)
   ·exact ih x hx
 exact all r x hx
def zj3 {kvs:List (List Key×V)}(ok:HOk P w H h) (e:H a=some (.dT kvs)):kvs.length<=sizeLine/\(a==sysModules)=false /\
  ∃xs,KT H kvs xs/\h.DictOfH (tupleKind (mixKind P w)) a xs:=za7 ok (.inl e)
end
def DGet (H:Hp) (a:Addr) (y:V) (r:Option V):Prop :=
 (∃kvs k,Rd H a (.dK kvs)/\y=kV k/\r=valV kvs k)\/∃kvs k b,Rd H a (.dT kvs)/\y=.ref b/\H b=some (.tup (k.map kV))/\r=valV kvs k
def DPut (H:Hp) (a:Addr) (y v:V) (H':Hp):Prop :=
 (∃kvs k,H a=some (.dK kvs)/\y=kV k/\kvs.length<sizeLine/\H'=upd H a (.dK (putK kvs k v))) \/
 ∃kvs k b,H a=some (.dT kvs)/\y=.ref b/\H b=some (.tup (k.map kV))/\kvs.length<sizeLine/\H'=upd H a (.dT (putK kvs k v))
def DGet.k {H:Hp}{a:Addr}{kvs:List (Key×V)}{k:Key}(e:H a=some (.dK kvs)):DGet H a (kV k) (valV kvs k):=.inl ⟨kvs,k,.inl e,rfl,rfl⟩
def DGet.t {H:Hp}{a b:Addr}{kvs:List (List Key×V)}{k:List Key}(e:H a=some (.dT kvs)) (eb:H b=some (.tup (k.map kV))):DGet H a (.ref b) (valV kvs k):=.inr ⟨kvs,k,b,.inl e,rfl,eb,rfl⟩
def DPut.k {H:Hp}{a:Addr}{kvs:List (Key×V)}{k:Key}{v:V}(e:H a=some (.dK kvs)) (hl:kvs.length<sizeLine):DPut H a (kV k) v (upd H a (.dK (putK kvs k v))):=.inl ⟨kvs,k,e,rfl,hl,rfl⟩
def DPut.t {H:Hp}{a b:Addr}{kvs:List (List Key×V)}{k:List Key}{v:V}(e:H a=some (.dT kvs)) (eb:H b=some (.tup (k.map kV))) (hl:kvs.length<sizeLine) :
  DPut H a (.ref b) v (upd H a (.dT (putK kvs k v))):=.inr ⟨kvs,k,b,e,rfl,eb,hl,rfl⟩
section
variable {X:Cx}{pins:List (Addr×Obj)}{U:St}{H:Hp}{s:Shared}{a:Addr}{y v:V}{u r:Value}{o:Option V}{A:Around}{E:Value->Shared->Prop}
def Inv.big (I:Inv X pins U H s):sysModules<s.heap.objs.size:=by
 have h:mainGlobals<s.heap.objs.size:=(I.mod.glob.keeps I.bk).lt
 exact Nat.lt_trans (by decide) h
def zj4 {Q:Value->Shared->Prop}(hu:A.units+1<cLine) (I:Inv X pins U H s) (g:DGet H a y (some v)) (ry:RelV y u) (h:∀w' s',Inv X pins U H s'->RelV v w'->Q w' s') :
  wpAny (model X.prog X.w) A (getItem (.ref a) u) Q E s:=by
 rcases g with ⟨kvs,k,e,ey,l⟩|⟨kvs,k,b,e,ey,eb,l⟩
 ·subst ey
  obtain ⟨z,hd,vs,rel,dd⟩:=jq I.hok e
  obtain ⟨w',hw,rw'⟩:=RelO.some_of (v:=v) (o:=valueAt vs k) (by rw [l];exact rel.val k)
  exact wpAny_getItem_of (zaA ry) dd.mapOf hw (h w' _ (I.tok _) rw')
 ·subst ey
  cases (show u=Value.ref b from ry)
  obtain ⟨z,hd,xs,rel,dd⟩:=za7 I.hok e
  obtain ⟨w',hw,rw'⟩:=RelO.some_of (v:=v) (o:=(atKey xs k).map (·.2)) (by rw [l];exact rel.val k)
  obtain ⟨p,hp,hp2⟩:=Option.map_eq_some_iff.mp hw
  refine wpAny_getItem_heap (tupleKind_room_in1 hu) (za6 I.hok eb) dd hp ?_
  rw [hp2]
  exact h w' _ (I.tok _) rw'
def zj5 {Q:Value->Shared->Prop}(hu:A.units+1<cLine) (I:Inv X pins U H s) (g:DGet H a y o) (ry:RelV y u) (h:∀s',Inv X pins U H s'->Q (.bool o.isSome) s') :
  wpAny (model X.prog X.w) A (compareOp .In u (.ref a)) Q E s:=by
 rcases g with ⟨kvs,k,e,ey,l⟩|⟨kvs,k,b,e,ey,eb,l⟩
 ·subst ey
  obtain ⟨z,hd,vs,rel,dd⟩:=jq I.hok e
  refine wpAny_in_of (zaA ry) hd dd.mapOf ?_
  rw [<-(rel.val k).isSome_eq,<-l]
  exact h _ (I.tok _)
 ·subst ey
  cases (show u=Value.ref b from ry)
  obtain ⟨z,hd,xs,rel,dd⟩:=za7 I.hok e
  refine wpAny_in_heap (tupleKind_room_in1 hu) (za6 I.hok eb) hd dd ?_
  have q:=(rel.val k).isSome_eq
  rw [Option.isSome_map] at q
  rw [<-q,<-l]
  exact h _ (I.tok _)
def zj6 {Q:Value->Shared->Prop}(hu:A.units+1<cLine) (I:Inv X pins U H s) (g:DGet H a y o) (ry:RelV y u) (h:∀s',Inv X pins U H s'->Q (.bool (!o.isSome)) s') :
  wpAny (model X.prog X.w) A (compareOp .NotIn u (.ref a)) Q E s:=by
 rcases g with ⟨kvs,k,e,ey,l⟩|⟨kvs,k,b,e,ey,eb,l⟩
 ·subst ey
  obtain ⟨z,hd,vs,rel,dd⟩:=jq I.hok e
  refine wpAny_notIn_of (zaA ry) hd dd.mapOf ?_
  rw [<-(rel.val k).isSome_eq,<-l]
  exact h _ (I.tok _)
 ·subst ey
  cases (show u=Value.ref b from ry)
  obtain ⟨z,hd,xs,rel,dd⟩:=za7 I.hok e
  refine wpAny_notIn_heap (tupleKind_room_in1 hu) (za6 I.hok eb) hd dd ?_
  have q:=(rel.val k).isSome_eq
  rw [Option.isSome_map] at q
  rw [<-q,<-l]
  exact h _ (I.tok _)
def zcN {h':Heap}{t':Nat}{ob:HO}(I:Inv X pins U H s) (mu:Mut (H a)) (hs:Heap.SameBut a s.heap h') (he:∃q,h'.get? a=some q) (new:ObjOk X.prog X.w (upd H a ob) h' a ob) :
  Inv X pins U (upd H a ob) { s with heap:=h',toks:=t' } :=
 I.write (x:=a) (e:=a) mu (.inl rfl) (fun b q hb z=>(hs.2 b hb).trans z) he new
def zeF {P:Program}{w:World}{H':Hp}{h':Heap}{kvs:List (Key×V)}{vs:List (Key×Value)}(z:kvs.length<=sizeLine) (hd:(a==sysModules)=false) (rel:KV kvs vs) (dd:h'.DictOf (mixKind P w) a vs) :
  ObjOk P w H' h' a (.dK kvs):=⟨z,hd,vs,rel,dd⟩
def zj7 {H':Hp}{Q:Unit->Shared->Prop}(hu:A.units+1<cLine) (I:Inv X pins U H s) (g:DPut H a y v H') (ry:RelV y u) (rv:RelV v r) (h:∀s',Inv X pins U H' s'->Q () s') :
  wpAny (model X.prog X.w) A (setItem (.ref a) u r) Q E s:=by
 rcases g with ⟨kvs,k,e,ey,l,eH⟩|⟨kvs,k,b,e,ey,eb,l,eH⟩
 ·subst ey eH
  obtain ⟨z,hd,vs,rel,dd⟩:=zeE I.hok e
  have hz:vs.length<=sizeLine:=by rw [<-rel.length];exact z
  have hl:(putK kvs k v).length<=sizeLine:=by have:=zcM kvs k v;omega
  refine wpAny_setItem_pairs (hsz:=hz) (zaA ry) dd fun h' dd' hs=>h _ ?_
  have he:∃q,h'.get? a=some q:=let ⟨q,_,_,hq,_⟩:=dd';⟨q,hq⟩
  exact zcN I (by rw [e];exact True.intro) hs he (zeF hl hd (rel.put k rv) dd')
 ·subst ey eH
  cases (show u=Value.ref b from ry)
  obtain ⟨z,hd,xs,rel,dd⟩:=zj3 I.hok e
  have hz:xs.length<=sizeLine:=by rw [<-Paired.length rel];exact z
  have hl:(putK kvs k v).length<=sizeLine:=by have:=zcM kvs k v;omega
  refine wpAny_setItem_heap (hsz:=hz) (tupleKind_room_in1 hu) (za6 I.hok eb) dd fun h' dd' hs=>h _ ?_
  obtain ⟨q,es,ep,hq,h2,h3,h4,_,h5⟩:=dd'
  refine zcN I (by rw [e];exact True.intro) hs ⟨q,hq⟩ ⟨hl,hd,_,(rel.put k eb rv).keeps fun c ys ec=>?_,q,es,ep,hq,h2,h3,h4,h5⟩
  rw [zX (zhI ec e (fun z=>nomatch z))]
  exact ec
end
section
variable {X:Cx}{pins:List (Addr×Obj)}{U:St}{H:Hp}{s:Shared}{a:Addr}{kvs:List (Key×V)}{k:Key}{u:Value}{A:Around}{E:Value->Shared->Prop}
def zj8 {Q:Value->Shared->Prop} (I:Inv X pins U H s) (e:Rd H a (.dK kvs)) (h:∀t s',Inv X pins U H s'->Q (.int kvs.length t) s'):wpAny (model X.prog X.w) A (call (.builtin "len") [.ref a]) Q E s:=by
 obtain ⟨z,hd,vs,rel,dd⟩:=jq I.hok e
 refine call_len_dict hd dd (by rw [<-rel.length];rw [sizeLine_eq] at z;omega) ?_
 rw [<-rel.length]
 exact h _ _ (I.tok _)
end
def zj9 {X:Cx} {pins:List (Addr×Obj)} {U:St} {H:Hp} {s:Shared} {a:Addr} {y:V} {o:Option V} (I:Inv X pins U H s) (g:DGet H a y o):s.TypeIs (.ref a) "dict" := by
 rcases g with ⟨kvs,k,e,_,_⟩|⟨kvs,k,b,e,_,_,_⟩
 ·obtain ⟨_,_,vs,_,dd⟩:=jq I.hok e
  exact dd.typeIs
 ·obtain ⟨_,_,xs,_,dd⟩:=za7 I.hok e
  exact dd.typeIs
def zka (td ty tv:TE):TS:=fun D U H=>tv U H fun v H1=>td U H1 fun x H2=>ty U H2 fun y H3=>∃a H4,x=.ref a/\DPut H3 a y v H4/\D.nx U H4
section
variable {X:Cx}{o i e value:Expr}{pos pos' tpos:Pos}{td ty tv:TE}
def zkb (hu:X.A.units+1<cLine) (ho:PE X o td) (hi:PE X i ty) (hv:PE X value tv) (hs:swapsWith value (some (.Subscript o i pos')) pos.line X.env=pure false) :
  PS X (.Assign [.Subscript o i pos'] value pos) (zka td ty tv):=by
 intro pins s U H D I h
 refine wpAny_Assign_Subscript (thn (hv pins s U H _ I h) fun r s1 ⟨v,H1,I1,rv,q1⟩=>thn (ho pins s1 U H1 _ I1 q1) fun u s2 ⟨x,H2,I2,rx,q2⟩=>thn (hi pins s2 U H2 _ I2 q2) fun iv s3 ⟨y,H3,I3,ry,a,H4,ex,g,q3⟩=>?_) hs
 subst ex
 obtain rfl:u=Value.ref a:=rx
 exact zj7 hu I3 g ry rv fun s4 I4=>⟨U,H4,I4,q3⟩
end
def zeG {P:Program} {w:World} {H:Hp} (h:Heap) (hb:sysModules<h.objs.size):ObjOk P w H (h.push { cls:=.type "dict", data:=.dict #[] }) h.objs.size (.dK []) :=
 ⟨ju _,beq_eq_false_iff_ne.mpr (yA (yz hb)),[],.nil,Heap.DictOf.new h⟩
def zkc:TE:=fun _ H Q=>∀p,H p=none->Q (.ref p) (upd H p (.dK []))
section
variable {X:Cx}{pos:Pos}
def zkd:PE X (.Dict [] [] pos) zkc:=fun pins s U H Q I h =>
 wpAny_Dict_empty ⟨.ref s.heap.objs.size,_,I.laid (a:=s.heap.objs.size) (o:=.dK []) (t':=s.toks) (fun _ _ q=>yo _ q) (yg _) (zeG s.heap I.big),rfl,h _ (I.hok.fresh (yg _))⟩
end
def zbO:List (TE×TE)->St->Hp->(List (V×V)->Hp->Prop)->Prop
 | [],_,H,Q=>Q [] H
 | (tk,tv)::r,U,H,Q=>tk U H fun x H1=>tv U H1 fun y H2=>zbO r U H2 fun ps H3=>Q ((x,y)::ps) H3
abbrev VV:List (V×V)->List (Value×Value)->Prop:=Paired fun p q=>RelV p.1 q.1/\RelV p.2 q.2
def PPs (X:Cx) (pos:Pos) (keys:List (Option Expr)) (values:List Expr) (trs:List (TE×TE)):Prop :=
 ∀(pins:List (Addr×Obj)) (s:Shared) (U:St) (H:Hp) (Q:List (V×V)->Hp->Prop),Inv X pins U H s->zbO trs U H Q ->
  wpAny (model X.prog X.w) X.A (evalPairs (pairTrees keys values X.env pos)) (fun vs s'=>∃ps H',Inv X pins U H' s'/\VV ps vs/\Q ps H') X.xe s
def zke {X:Cx}{pos:Pos}:PPs X pos [] [] []:=fun pins s U H Q I h=>pairTrees_nil_walk ⟨[],H,I,.nil,h⟩
def zkf {X:Cx}{pos:Pos}{k v:Expr}{ks:List (Option Expr)}{vs:List Expr}{tk tv:TE}{trs:List (TE×TE)}(hk:PE X k tk) (hv:PE X v tv) (hr:PPs X pos ks vs trs) :
  PPs X pos (some k::ks) (v::vs) ((tk,tv)::trs):=fun pins s U H Q I h =>
 pairTrees_cons_walk (thn (hk pins s U H _ I h) fun u s1 ⟨x,H1,I1,rx,q1⟩=>thn (hv pins s1 U H1 _ I1 q1) fun w2 s2 ⟨y,H2,I2,ry,q2⟩ =>
  thn (hr pins s2 U H2 _ I2 q2) fun ws s3 ⟨ps,H3,I3,rel,q3⟩=>⟨(x,y)::ps,H3,I3,.cons ⟨rx,ry⟩ rel,q3⟩)
def mergeK (kvs more:List (Key×V)):List (Key×V):=more.foldl (fun acc kv=>putK acc kv.1 kv.2) kvs
def KV.merge:∀{more:List (Key×V)}{rs:List (Key×Value)}{kvs:List (Key×V)}{vs:List (Key×Value)},KV more rs->KV kvs vs->KV (mergeK kvs more) (merged vs rs):=by
 intro more rs kvs vs r
 unfold KV at r
 induction r generalizing kvs vs with
 | nil=>intro q;exact q
 | @cons p q ps qs h t ih =>
  intro r0
  have e:KV (putK kvs p.1 p.2) (stored vs q.1 q.2):=by
   have:=r0.put p.1 h.2
   rw [<-h.1];exact this
  exact ih e
def zeH:∀(more kvs:List (Key×V)),(mergeK kvs more).length<=kvs.length+more.length
 | [],kvs=>by show kvs.length<=kvs.length+0;omega
 | p::r,kvs=>by
  have h1:=zeH r (putK kvs p.1 p.2)
  have h2:=zcM kvs p.1 p.2
  show (mergeK (putK kvs p.1 p.2) r).length<=_
  rw [jY];omega
def zeI {P:Program}{w:World}:∀{kvs:List (Key×V)}{ws:List (Value×Value)},VV (kvs.map fun kv=>(kV kv.1,kv.2)) ws->∃rs,Carries (mixKind P w) ws rs/\KV kvs rs
 | [],_,r=>by rw [List.map_nil] at r;cases r;exact ⟨[],True.intro,.nil⟩
 | p::kvs,_,r=>by
  rw [ji] at r
  cases r with
  | @cons a b as bs h t =>
   obtain ⟨rs,c,q⟩:=zeI (P:=P) (w:=w) t
   obtain ⟨b1,b2⟩:=b
   exact ⟨(p.1,b2)::rs,⟨zaA h.1,rfl,c⟩,.cons ⟨rfl,h.2⟩ q⟩
def zkg (trs:List (TE×TE)):TE:=fun U H Q=>∀p,H p=none->zbO trs U (upd H p (.dK [])) fun ps H2=>H2 p=some (.dK [])/\∃kvs:List (Key×V),ps=kvs.map (fun kv=>(kV kv.1,kv.2))/\kvs.length<=15/\Q (.ref p) (upd H2 p (.dK (mergeK [] kvs)))
def zkh {X:Cx}{pos:Pos}{keys:List (Option Expr)}{values:List Expr}{trs:List (TE×TE)}(h:PPs X pos keys values trs) (hall:keys.all (·.isSome)=true) (hl:keys.length=values.length) (h0:keys≠[])
  (h15:keys.length<=15):PE X (.Dict keys values pos) (zkg trs):=by
 intro pins s U H Q I q
 have hn:=I.hok.fresh (yg s.heap.objs.size)
 have I1:=I.laid (a:=s.heap.objs.size) (o:=.dK []) (h':=s.heap.push { cls:=.type "dict", data:=.dict #[] }) (t':=s.toks) (fun _ _ q=>yo _ q) (yg _) (zeG s.heap I.big)
 refine wpAny_Dict_walk (knd:=mixKind X.prog X.w) hall hl h0 h15 (thn (h pins _ U _ _ I1 (q _ hn)) fun ws s2 ⟨ps,H2,I2,rel,e,kvs,ep,lk,q2⟩=>?_)
 subst ep
 obtain ⟨rs,c,rk⟩:=zeI (P:=X.prog) (w:=X.w) rel
 obtain ⟨z,hd,vs0,r0,dd⟩:=zeE I2.hok e
 cases r0
 refine ⟨rs,c,dd,fun h' dd' hs=>⟨.ref s.heap.objs.size,_,?_,rfl,q2⟩⟩
 have hz:(mergeK [] kvs).length<=sizeLine:=by
  have h1:=zeH kvs []
  rw [List.length_nil] at h1
  rw [sizeLine_eq];omega
 have he:∃q,h'.get? s.heap.objs.size=some q:=let ⟨q,_,_,hq,_⟩:=dd';⟨q,hq⟩
 exact zcN I2 (by rw [e];exact True.intro) hs he (zeF hz hd (rk.merge .nil) dd')
structure M1 (X:Cx) (o:Expr) (m:Str) (apos:Pos) (e:Expr) (cpos:Pos):Prop where
 base:attributeBase o m X.env (eval o X.env)=eval o X.env
 few:((backTo cpos (starEach [e] X.env)).all (fun x=>!x.1)&&(backToKw cpos (keywordEach [] X.env)).all (fun x=>x.1.isSome)
  && decide (([e]:List Expr).length+([]:List Keyword).length+(if ([]:List Keyword).isEmpty then 0 else 1)<30))=true
 line:(apos.endLine==cpos.line)=true
 trees:backTo cpos (starEach [e] X.env)=[(false,eval e X.env)]
structure M2 (X:Cx) (o:Expr) (m:Str) (apos:Pos) (e f:Expr) (cpos:Pos):Prop where
 base:attributeBase o m X.env (eval o X.env)=eval o X.env
 few:((backTo cpos (starEach [e,f] X.env)).all (fun x=>!x.1)&&(backToKw cpos (keywordEach [] X.env)).all (fun x=>x.1.isSome)
  && decide (([e,f]:List Expr).length+([]:List Keyword).length+(if ([]:List Keyword).isEmpty then 0 else 1)<30))=true
 line:(apos.endLine==cpos.line)=true
 trees:backTo cpos (starEach [e,f] X.env)=[(false,eval e X.env),(false,eval f X.env)]
section
variable {X:Cx}{pins:List (Addr×Obj)}{U:St}{H:Hp}{s:Shared}{a:Addr}{y d:V}{u r:Value}{o:Option V}{A:Around}{E:Value->Shared->Prop}
end
section
variable {X:Cx}{o e f:Expr}{apos cpos:Pos}{td ty tx:TE}
end
section
variable {X:Cx}{pins:List (Addr×Obj)}{U:St}{H:Hp}{s:Shared}{a:Addr}{kvs:List (Key×V)}{A:Around}{E:Value->Shared->Prop}
end
section
variable {X:Cx}{pins:List (Addr×Obj)}{U:St}{H:Hp}{s:Shared}{a:Addr}{y:V}{u:Value}{A:Around}{E:Value->Shared->Prop}
end
def XO (h:Heap) (a:Addr) (C:Value) (d:Option Addr) (head:Value):Prop :=
 ∃oe vs,h.get? a=some oe/\oe.cls=C/\oe.dict=d/\oe.data=.fields vs/\vs.size=6/\vs[1]?=some head
def TB (h:Heap) (T:Addr) (fl:Value):Prop:=∃oT ts,h.get? T=some oT/\oT.data=.fields ts/\ts[3]?=some fl
def zki (o:Obj) (f):(o.mapFields f).dict=o.dict:=by
 obtain ⟨c,d,dt,sl⟩:=o
 cases dt<;>rfl
def XO.keeps {h h':Heap}{a:Addr}{C:Value}{d:Option Addr}{head:Value}(x:XO h a C d head) (k:∀o,h.get? a=some o->h'.get? a=some o):XO h' a C d head:=by
 obtain ⟨oe,vs,e,r⟩:=x
 exact ⟨oe,vs,k _ e,r⟩
def TB.keeps {h h':Heap}{T:Addr}{fl:Value}(x:TB h T fl) (k:∀o,h.get? T=some o->h'.get? T=some o):TB h' T fl:=by
 obtain ⟨oT,ts,e,r⟩:=x
 exact ⟨oT,ts,k _ e,r⟩
def XO.set1 {h:Heap}{a:Addr}{C:Value}{d:Option Addr}{head:Value}(x:XO h a C d head) (u:Value):XO (h.update a (Obj.mapFields (·.setIfInBounds 1 u))) a C d u:=by
 obtain ⟨oe,vs,e,hc,hdi,hd,hz,h1⟩:=x
 have hd':=Obj.data_mapFields hd (·.setIfInBounds 1 u)
 refine ⟨_,_,Heap.get?_update_self _ e (Obj.isFreed_of_fields hd'),(Obj.cls_mapFields _ _).trans hc,(zki _ _).trans hdi,hd',?_,?_⟩
 ·rw [Array.size_setIfInBounds];exact hz
 ·have:1<vs.size:=by omega
  simp [this]
def TB.set3 {h:Heap}{T:Addr}{fl:Value}(x:TB h T fl) (u:Value):TB (h.update T (Obj.mapFields (·.setIfInBounds 3 u))) T u:=by
 obtain ⟨oT,ts,e,hd,h3⟩:=x
 have hd':=Obj.data_mapFields hd (·.setIfInBounds 3 u)
 refine ⟨_,_,Heap.get?_update_self _ e (Obj.isFreed_of_fields hd'),hd',?_⟩
 have:3<ts.size:=(Array.getElem?_eq_some_iff.mp h3).1
 simp [this]
section
variable {M:Model}{A:Around}{E:Value->Shared->Prop}{s:Shared}{base:Heap}{env:Env}{outer:List Env}{L a:Addr}{C:Value}{d:Option Addr}{head:Value}{Q:Unit->Shared->Prop}
def zeJ {b2:Bool}(hfr:A.frames=some (env::outer)) (hl:s.heap.FunFrames base (env::outer)) (hf:env.frame=some L) (x:XO s.heap a C d head)
  (h:∀h' T,s.heap.objs.size<=T->XO h' a C d (.ref T)->TB h' T (rawInt L)->(∀b o,b≠a->b∉frs (env::outer)->s.heap.get? b=some o->h'.get? b=some o) ->
   (∀b o,b≠a->b∈frs (env::outer)->s.heap.get? b=some o->∃sl,h'.get? b=some { o with slots:=sl })->Q () { s with heap:=h' }) :
  wpAny M A (do let fr <-frameOf env;let pl <-entryPlaceOf L b2;let tb <-EntryCells.newEntry head fr .none (rawInt L) .none pl;setField (.ref a) 1 tb) Q E s:=by
 obtain ⟨oe,vs,e,hc,hdi,hd,hz,h1⟩:=id x
 have aN:a∉frs (env::outer):=fun hm=>by
  obtain ⟨_,o,ho,nf⟩:=hl.mem hm
  rw [e] at ho
  cases ho
  exact nf vs hd
 refine zt (wpAny_frameOf_fun hfr hl hf fun g1 sl1=>zt (wpAny_entryPlaceOf fun pl ipl=>?_))
 unfold EntryCells.newEntry newFields
 refine zt (wG ?_ (ipl.sizeOk5 _ _ _ _ _))
 have x1:XO g1 a C d head:=⟨oe,vs,(sl1.2.1 a aN).trans e,hc,hdi,hd,hz,h1⟩
 generalize hob:({ cls:=.type "traceback", dict:=none,data:=.fields ([head,.ref L,.none,rawInt L,.none]++(if pl.isEmpty then List.replicate 6 Value.none else pl)).toArray }:Obj)=ob
 have x2:XO (g1.push ob) a C d head:=x1.keeps fun o q=>yo _ q
 obtain ⟨oe2,vs2,e2,_,_,hd2,hz2,_⟩:=id x2
 refine wpAny_setField e2 hd2 (by omega) ?_
 have aT:g1.objs.size≠a:=fun z=>by
  obtain ⟨_,_,q,_⟩:=x1
  have:=ym q
  rw [<-z] at this
  exact Nat.lt_irrefl _ this
 have szle:s.heap.objs.size<=g1.objs.size:=Nat.le_of_eq sl1.1.symm
 refine h _ g1.objs.size szle (x2.set1 _) ?_ (fun b o nb nf q=>?_) (fun b o nb nf q=>?_)
 ·have t0:TB (g1.push ob) g1.objs.size (rawInt L):=by
   refine ⟨ob,_,y8 _ (by rw [<-hob];rfl),by rw [<-hob],?_⟩
   rcases ipl with rfl|⟨_,_,_,_,_,_,_,rfl⟩<;>simp
  exact t0.keeps fun o q=>(jH _ _ (yA aT)).trans q
 ·exact (jH _ _ (yA nb)).trans (yo _ ((sl1.2.1 b nf).trans q))
 ·obtain ⟨sl,z⟩:=sl1.2.2 b o q
  exact ⟨sl,(jH _ _ (yA nb)).trans (yo _ z)⟩
def zkj (hfr:A.frames=some (env::outer)) (hl:s.heap.FunFrames base (env::outer)) (hf:env.frame=some L) (x:XO s.heap a C d head)
  (ht:head=.none\/∃T0,head=.ref T0/\T0≠a/\TB s.heap T0 .none)
  (h:∀h' T,s.heap.objs.size<=T->XO h' a C d (.ref T)->TB h' T (rawInt L)->(∀b o,b≠a->.ref b≠head->b∉frs (env::outer)->s.heap.get? b=some o->h'.get? b=some o) ->
   (∀b o,b∈frs (env::outer)->s.heap.get? b=some o->∃sl,h'.get? b=some { o with slots:=sl })->Q () { s with heap:=h' }) :
  wpAny M A (noteFrame (.ref a) env) Q E s:=by
 obtain ⟨oe,vs,e,hc,hdi,hd,hz,h1⟩:=id x
 have aN:a∉frs (env::outer):=fun hm=>by
  obtain ⟨_,o,ho,nf⟩:=hl.mem hm
  rw [e] at ho
  cases ho
  exact nf vs hd
 unfold noteFrame
 simp only [hf]
 refine zt (j9 e hd h1 ?_)
 rcases ht with rfl|⟨T0,rfl,nT,t0⟩
 ·rw [zN (by decide)]
  exact zeJ hfr hl hf x fun h' T k1 k2 k3 k4 k5=>h h' T k1 k2 k3 (fun b o nb _ nf q=>k4 b o nb nf q) fun b o hb q=>k5 b o (fun z=>aN (z▸hb)) hb q
 ·obtain ⟨oT,ts,eT,hdT,h3⟩:=id t0
  have TN:T0∉frs (env::outer):=fun hm=>by
   obtain ⟨_,o,ho,nf⟩:=hl.mem hm
   rw [eT] at ho
   cases ho
   exact nf ts hdT
  rw [zE (show (Value.ref T0 != Value.none)=true from by simp)]
  refine zt (j9 eT hdT h3 ?_)
  rw [zN (show ¬((Value.none==rawInt L)=true) from by simp [rawInt])]
  refine zt (wpAny_setField eT hdT (Array.getElem?_eq_some_iff.mp h3).1 ?_)
  have oth:∀b,b≠T0->(s.heap.update T0 (Obj.mapFields (·.setIfInBounds 3 Value.none))).get? b=s.heap.get? b:=fun b hb=>jH _ _ (yA hb)
  refine zeJ (s:={ s with heap:=s.heap.update T0 (Obj.mapFields (·.setIfInBounds 3 Value.none)) }) hfr (hl.of_keeps fun b o hb nf=>⟨o,(oth b fun q=>?_).trans hb,rfl⟩) hf (x.keeps fun o q=>(oth a (yA nT)).trans q) fun h' T k1 k2 k3 k4 k5 =>
   h h' T (by simpa using k1) k2 k3 (fun b o nb nh nf q=>k4 b o nb nf ((oth b fun z=>nh (by rw [z])).trans q)) fun b o hb q=>k5 b o (fun z=>aN (z▸hb)) hb ((oth b fun z=>TN (z▸hb)).trans q)
  rw [q,eT] at hb
  cases hb
  exact nf ts hdT
def zkk {T:Addr}{fl:Value}(x:XO s.heap a C d (.ref T)) (t:TB s.heap T fl) (ne:T≠a)
  (h:∀h',XO h' a C d (.ref T)->TB h' T .none->(∀b o,b≠T->s.heap.get? b=some o->h'.get? b=some o)->h'.objs.size=s.heap.objs.size->Q () { s with heap:=h' }):wpAny M A (setFlight (.ref a) none) Q E s:=by
 obtain ⟨oe,vs,e,_,_,hd,_,h1⟩:=id x
 obtain ⟨oT,ts,eT,hdT,h3⟩:=id t
 unfold setFlight
 refine zt (j9 e hd h1 ?_)
 rw [zE (show (Value.ref T != Value.none)=true from by simp)]
 refine wpAny_setField eT hdT (Array.getElem?_eq_some_iff.mp h3).1 ?_
 exact h _ (x.keeps fun o q=>(jH _ _ ne).trans q) (t.set3 _) (fun b o nb q=>(jH _ _ (yA nb)).trans q) (by simp)
end
def OwnRec (X:Cx) (pins:List (Addr×Obj)) (H:Hp) (b:Addr):Prop :=
 H b=none/\X.s₀.heap.objs.size<=b/\b≠X.env.locals/\(∀x c,X.env.cells.lookup x=some c->c≠b)/\∀p∈X.pn++pins,p.1≠b
def OwnRec.new {X:Cx}{pins:List (Addr×Obj)}{U:St}{H H':Hp}{s:Shared}{b:Addr}(I:Inv X pins U H s) (hb:s.heap.objs.size<=b) (hn:H' b=none):OwnRec X pins H' b:=by
 obtain ⟨f0,f1,f2,f3,f4,f5⟩:=I.fpOk (H':=H') hb hn
 exact ⟨hn,yT I.sz hb,f1,f4,f5⟩
def Fly (X:Cx) (pins:List (Addr×Obj)) (H:Hp) (h:Heap) (a C:Addr) (d:Option Addr):Prop :=
 ∃head,XO h a (.ref C) d head/\OwnRec X pins H a/\(head=.none\/∃T,head=.ref T/\T≠a/\TB h T .none/\OwnRec X pins H T)
def Throws (X:Cx) (E:XK):Prop:=∀(pins:List (Addr×Obj)) (U:St) (H:Hp) (s:Shared) (a C:Addr) (d:Option Addr),Inv X pins U H s->Fly X pins H s.heap a C d->E (.ref C) d H->X.xe (.ref a) s
def CXe (P:Program) (w:World):CXT:=fun outer H s E e s'=>∃(a C T:Addr) (d:Option Addr) (H':Hp),e=.ref a/\s'.os=s.os/\AllBare s'.gens/\Un (frs outer) [] H H' s.heap s'.heap/\HOk P w H' s'.heap /\
 XO s'.heap a (.ref C) d (.ref T)/\T≠a/\TB s'.heap T .none/\(s.heap.objs.size<=a/\H' a=none)/\(s.heap.objs.size<=T/\H' T=none)/\E (.ref C) d H'
def zkl {X:Cx}{E:XK}(t:Throws X E):Passes (CXe X.prog X.w) X E:=by
 rintro pins U H s e s' I ⟨a,C,T,d,H',rfl,os,bare,un,hok,x,ne,tb,⟨a1,a2⟩,⟨t1,t2⟩,q⟩
 have I':Inv X pins U H' s':=I.call' (ch:=[]) os un hok bare fun b z=>absurd z (by simp)
 exact t pins U H' s' a C d I' ⟨_,x,OwnRec.new I a1 a2,.inr ⟨T,rfl,ne,tb,OwnRec.new I t1 t2⟩⟩ q
def chOf (a:Addr):Value->List Addr
 | .ref T0=>[a,T0]
 | _=>[a]
def zeK (a:Addr) (v:Value):a∈chOf a v:=by cases v<;>simp [chOf]
def zeL (a T0:Addr):T0∈chOf a (.ref T0):=by simp [chOf]
section
variable {X:Cx}{pins:List (Addr×Obj)}{U:St}{H:Hp}{s:Shared}{a C:Addr}{d:Option Addr}{A:Around}{E:Value->Shared->Prop}{Q:Unit->Shared->Prop}
def zkm (I:Inv X pins U H s) (hfr:A.frames=some X.stack) (hst:X.stack=X.env::X.outer) (hf:X.env.frame=some X.env.locals) (F:Fly X pins H s.heap a C d)
  (h:∀s' T,Inv X pins U H s'->XO s'.heap a (.ref C) d (.ref T)->T≠a->TB s'.heap T (rawInt X.env.locals)->OwnRec X pins H a->OwnRec X pins H T->Q () s'):wpAny (model X.prog X.w) A (noteFrame (.ref a) X.env) Q E s:=by
 obtain ⟨head,x,oa,ht⟩:=F
 have hl:s.heap.FunFrames X.base (X.env::X.outer):=hst▸I.stack
 have hfr':A.frames=some (X.env::X.outer):=hfr.trans (congrArg some hst)
 have efr:frs (X.env::X.outer)=X.env.locals::X.fs:=by
  unfold frs
  rw [List.filterMap_cons,hf]
  rfl
 have hfree:∀b∈X.env.locals::X.fs,H b=none:=fun b hb=>I.stkFree b (by rw [hst,efr];exact hb)
 have headN:∀b u,H b=some u->Value.ref b≠head:=fun b u e z=>by
  rcases ht with rfl|⟨T0,rfl,_,_,r⟩
  ·cases z
  ·cases z
   rw [r.1] at e
   cases e
 refine zkj hfr' hl hf x (ht.imp id fun ⟨T0,e1,e2,e3,_⟩=>⟨T0,e1,e2,e3⟩) fun h' T k1 k2 k3 k4 k5=>?_
 rw [efr] at k4 k5
 have oT:OwnRec X pins H T:=OwnRec.new I k1 (I.hok.fresh k1)
 have neT:T≠a:=fun z=>by
  obtain ⟨_,_,e,_⟩:=x
  have:=ym e
  rw [<-z] at this
  exact Nat.lt_irrefl _ (jb this k1)
 refine h { s with heap:=h' } T ?_ k2 neT k3 oa oT
 refine I.step (g':=s.gens) (t':=s.toks) (d':=s.drawn) (ch:=chOf a head) (fun b hb=>?_) (fun b o n1 n2 n3 e n=>k4 b o (fun z=>n3 ?_) (fun z=>n3 ?_) (fun z=>(yD.mp z).elim n1 n2) e)
  (fun b o n1 n2 n3 e n=>k5 b o (jh _ n2) e) (fun _ _ _ _ n=>n) (fun b o n3 e=>?_) (fun _ _ e=>e) (fun _ _ _ e=>e) (fun b ps e=>⟨#[],by rw [e];simp⟩) (fun m hm=>?_) (fun b u e=>?_) I.bare
 ·have own:OwnRec X pins H b:=by
   rcases ht with rfl|⟨T0,rfl,_,_,r⟩
   ·have z:b=a:=by simpa [chOf] using hb
    rw [z];exact oa
   ·have z:b=a\/b=T0:=by simpa [chOf] using hb
    rcases z with z|z
    ·rw [z];exact oa
    ·rw [z];exact r
  exact ⟨.inr own.2.1,own.2.2.1,own.2.2.2.1,own.2.2.2.2⟩
 ·rw [z]
  exact zeK a head
 ·rw [<-z]
  exact zeL a b
 ·by_cases hb:b∈X.env.locals::X.fs
  ·obtain ⟨sl,z⟩:=k5 b o hb e
   exact ⟨_,z⟩
  ·exact ⟨o,k4 b o (fun z=>n3 (by rw [z];exact zeK a head)) (fun z=>n3 (by rw [<-z];exact zeL a b)) hb e⟩
 ·obtain ⟨o,es,ep,ho,r⟩:=hm
  obtain ⟨sl,z⟩:=k5 _ o yO ho
  exact ⟨_,es,ep,z,r⟩
 ·refine (I.hok b u e).stay (fun c v hc q=>?_) (fun _ q=>q) fun _ _ q=>q
  have tr:∃u',H c=some u':=by
   rcases hc with z|z
   ·exact ⟨u,by rw [z];exact e⟩
   ·exact ⟨_,z⟩
  obtain ⟨u',eu⟩:=tr
  exact k4 c v (fun z=>by rw [z,oa.1] at eu;cases eu) (headN c u' eu) (fun z=>by rw [hfree c z] at eu;cases eu) q
def zkn {T:Addr}{fl:Value}(I:Inv X pins U H s) (x:XO s.heap a (.ref C) d (.ref T)) (ne:T≠a) (tb:TB s.heap T fl) (oa:OwnRec X pins H a) (oT:OwnRec X pins H T)
  (h:∀s',Inv X pins U H s'->XO s'.heap a (.ref C) d (.ref T)->TB s'.heap T .none->Q () s'):wpAny (model X.prog X.w) A (setFlight (.ref a) none) Q E s:=by
 refine zkk x tb ne fun h' k1 k2 k3 _=>h { s with heap:=h' } ?_ k1 k2
 exact I.turned (t':=s.toks) (it:=T) (fun b o nb e=>k3 b o nb e) oT.1 oT.2.2.1 (.inr oT.2.1) oT.2.2.2.1 oT.2.2.2.2
end
section
variable {P:Program}{w:World}{K:PySem.W.Frag}{mg:Str->Option Value}{base:Heap}
def Fun.okX {x qual:Str}{st:Stmt}{f:Addr}{fd:FuncData}{N ps:List Str}{k:Nat}{sp:Sp}(F:Fun K x qual st f fd) (S:FnScope N ps (zT st)) (len:∀vs H Q E,sp vs H Q E->vs.length=ps.length)
  (hbody:∀(cdv:Value) (A:Around) (outer:List Env) (s:Shared) (H:Hp) (vs:List V) (Q:VK) (E:XK),Room k (A.deeper (envOfC qual (zT st) s.heap.objs.size f cdv))->sp vs H Q E ->
   ∃t,PSs (cxOf (CXe P w) P w K mg base N qual (zT st) f cdv A outer s H E) (yV st) t/\t { nx:=fun _ H'=>Q .non H',rt:=Q } (start N vs) H):FnOk P w K mg base (CXe P w) (k+1) f fd ps sp:=by
 obtain ⟨oc,od,kV,doc,pm,an,cdv,ct,osl,rfl,lk,hcd⟩:=F.ex
 exact zje lk hcd S len fun A outer s H vs Q E hr hsp=>hbody cdv A outer s H vs Q E hr hsp
end
end L2
namespace L2
open PySem PySem.Spec PyProof.Rows PySem.W PySem.Builtin PySem.Builtin.ObjectAttr
def zko (self:Value):refuseLoop self "__setattr__" [.type "ValueError", .type "Exception", .type "BaseException", .type "object"]=pure ():=by kernel_rfl
def valLine:List Value->Bool
 | [.type a,.type b,.type c,.type d]=>a == "ValueError" && b == "Exception" && c == "BaseException" && d == "object"
 | .ref _::r=>valLine r
 | _=>false
def zeM (self:Value):∀{l:List Value},valLine l=true->refuseLoop self "__setattr__" l=pure ()
 | [.type a,.type b,.type c,.type d],e=>by
  simp only [valLine,jK,beq_iff_eq] at e
  obtain ⟨⟨⟨rfl,rfl⟩,rfl⟩,rfl⟩:=e
  exact zko self
 | .ref c::r,e=>by
  rw [refuseLoop_ref]
  exact zeM self (by cases r<;>first|exact e|cases e)
def zeN:∀{l:List Value},valLine l=true->l.contains (.type "object")=true
 | [.type a,.type b,.type c,.type d],e=>by
  simp only [valLine,jK,beq_iff_eq] at e
  obtain ⟨⟨⟨rfl,rfl⟩,rfl⟩,rfl⟩:=e
  simp
 | .ref c::r,e=>by
  rw [List.contains_cons,zeN (l:=r) (by cases r<;>first|exact e|cases e),Bool.or_true]
def lineIn (K:Frag) (C:Addr):Bool:=(clsIn K C).any fun cd=>valLine cd.mro
section
variable {prog:Program}{w:World}{A:Around}{E:Value->Shared->Prop}{K:Frag}{x C:Addr}{s:Shared}{R:Result->Shared->Prop}
def zkp {ox:Obj}{od:Option Obj}{name:Str}{tk:Tok}{v:Value}(X:K.In s.heap) (I:InstAt s.heap x ox C od) (hp:lineIn K C=true) (ht:takerIn K C name=some none)
  (h:∀b,wpAny (model prog w) A.in1 (storeInOwnDict (.ref x) (.ref C) (.str name tk) name v b)
   (fun fin s'=>match fin with | .done f=>R (.ok f) s' | .again c'=>c'.quiet=true/\codeAny (model prog w) A c' R s') (fun e s'=>R (.error e) s') s) :
  codeAny (model prog w) A (.call (.builtin "object.__setattr__") ⟨[.ref x,.str name tk,v],[]⟩) R s:=by
 have SO:=PySem.F.store_object
 obtain ⟨cd,hc,ho⟩:=any_some hp
 have ne:cd.mro.isEmpty=false:=by
  cases q:cd.mro with
  | nil=>rw [q] at ho;cases ho
  | cons _ _=>rfl
 have isO:Looks (model prog w) s.heap (isInstance (.ref x) (.type "object")) true:=I.type.andThen (looks_mroIn X (by unfold mroIn;rw [hc,Option.bind_some,zN (by rw [ne];decide),zeN ho]))
 refine codeAny_call_builtin SO.slot.plain SO.entry (@check_slot (model prog w) _ _ s "object.__setattr__" "object" "__setattr__" (.ref x) [.str name tk,v] [] _ SO.kind SO.split isO (SO.args (.ref x) (.str name tk) v) ?_)
 obtain ⟨attr,ha,hr⟩:=Option.bind_eq_some_iff.mp ht
 have mr:Looks (model prog w) s.heap (mroOf (.ref C)) cd.mro:=(looks_clsIn X hc).andThen .now
 have tk0:Looks (model prog w) s.heap (storeTaker? attr) none:=by
  cases attr with
  | none=>exact .now
  | some a =>
   obtain ⟨b,hb,e⟩:=Option.map_eq_some_iff.mp hr
   refine (looks_takesIn X hb).andThen ?_
   cases b with
   | true=>cases e
   | false=>exact .now
 rw [osa_eq,refuse_eq]
 refine zt (zt (I.type.here (zt (mr.here ?_))))
 rw [zeM _ ho]
 refine zM (zt (I.type.here (zt ((looks_findIn X ha).here (zt (tk0.here ?_))))))
 exact h _
def zkq {t:Addr}{name:Str}{v:Value}{Q:Unit->Shared->Prop}(X:K.In s.heap) (he:s.heap.get? x=some { cls:=.ref C,data:=.fields #[.ref t,.none,.none,.none,.bool false,.none] })
  (hs:findIn K (.ref C) "__setattr__" = some (some (.builtin "object.__setattr__"))) (hp:lineIn K C=true) (ht:takerIn K C name=some none) (hh:hasDictIn K C=true)
  (h:∀h',h'.get? x=some { cls:=.ref C,dict:=some s.heap.objs.size,data:=.fields #[.ref t,.none,.none,.none,.bool false,.none] }->h'.Ns1 s.heap.objs.size (fun y=>if y=name then some v else none) ->
   (∀b o,b≠x->s.heap.get? b=some o->h'.get? b=some o)->∀tk,Q () { s with heap:=h',toks:=tk }):wpAny (model prog w) A (setAttr (.ref x) name v) Q E s:=by
 have J:InstAt s.heap x { cls:=.ref C,data:=.fields #[.ref t,.none,.none,.none,.bool false,.none] } C none:=⟨he,rfl,rfl,trivial⟩
 refine set_plain X J hs (zkp (s:={ s with toks:=s.toks+1 }) X J hp ht fun b=>?_)
 obtain ⟨cd,hc,hd'⟩:=any_some hh
 have xl:=ym he
 refine zt (zM (zt (zt (wpAny_loadPart he (zt (Looks.here (s:={ s with toks:=s.toks+1 }) (looks_clsIn X hc) ?_))))))
 rw [hd']
 show wpAny (model prog w) A.in1 (do
  let d <-alloc { cls:=.type "dict", data:=.dict #[] }
  update x fun o=>{ o with dict:=some d }
  dictMade (.ref C) x d) _ _ _
 refine zt (wpAny_alloc (zt (wpAny_update (yo _ he) ?_)))
 refine zM (a:=some s.heap.objs.size) (zt (zM (zt ?_)))
 have xn:s.heap.objs.size≠x:=Nat.ne_of_gt xl
 have ex:((s.heap.push { cls:=.type "dict", data:=.dict #[] }).update x fun o=>{ o with dict:=some s.heap.objs.size }).get? x=some { cls:=.ref C,dict:=some s.heap.objs.size,data:=.fields #[.ref t,.none,.none,.none,.bool false,.none] } :=
  Heap.get?_update_self _ (yo _ he) rfl
 have ed:((s.heap.push { cls:=.type "dict", data:=.dict #[] }).update x fun o=>{ o with dict:=some s.heap.objs.size }).get? s.heap.objs.size=some { cls:=.type "dict", data:=.dict #[] } :=
  (jH _ _ (yA xn)).trans (y8 _ rfl)
 have en:((s.heap.push { cls:=.type "dict", data:=.dict #[] }).update x fun o=>{ o with dict:=some s.heap.objs.size }).Ns1 s.heap.objs.size (fun _=>none) :=
  Heap.Ns1.of_empty ⟨_,#[],_,ed,rfl,(fun e he=>absurd he (by simp)),fun _=>rfl⟩
 refine wpAny_nsSet1 (s:={ s with heap:=(s.heap.push { cls:=.type "dict", data:=.dict #[] }).update x fun o=>{ o with dict:=some s.heap.objs.size },toks:=s.toks+1 }) en fun h' hn2 hs2=>?_
 obtain ⟨oD,esD,epD,hoD,hdD,hcD⟩:=hn2.count (PySem.Within.cons (ns:=[]) name v fun y hy=>absurd rfl hy)
 refine zt (wpAny_lookBehind hoD (by rw [hdD];exact pastItsLine_dict (yT hcD (by simp))) ?_)
 refine zM (h h' ((hs2.2 x (yA xn)).trans ex) hn2 (fun b o nb e=>(hs2.2 b (yz (ym e))).trans ((jH _ _ (yA nb)).trans (yo _ e))) _)
end
section
variable {prog:Program}{w:World}{A:Around}{h:Heap}{g:Array GenState}{d:Drawn}{t:Nat}{os:OsState}{R:Result->Shared->Prop}
variable {nm q:Str}{C N f:Addr}{bs bm bmB:List Value}{hdct:Bool}{sn:List Str}{sub:List Value}{ab:Bool}{col:Option Bool}{dd:Option Addr}{k0 k1 k2 k3 k5:Option Value}{B newId initId:String}
def zkr (F:ExcBaseFacts B newId initId bmB) (T:OwnTail h bmB bm) {mN:Str->Option Value}{rest:List Value}
  (hC:h.get? C=some (excClassObj nm q C N bs bm hdct sn sub ab col dd k0 k1 k2 k3 k5 newId)) (hn:h.Ns N mN) (hi:mN "__init__" = some (.ref f))
  (hb:∀self,Looks (model prog w) h (bindSpecial (.ref f) self) (.ref f,[self])) (hrest:rest.length<=sizeLine)
  (hq:codeAny (model prog w) (A.under (.builtin "type.__call__" ⟨.ref C::rest,[]⟩)) (.call (.ref f) ⟨.ref (h.objs.size+1)::rest,[]⟩) (InitBack (h.objs.size+1) R)
   ⟨(h.push { cls:=.type "tuple", data:=.seq rest.toArray }).push { cls:=.ref C,data:=.fields #[.ref h.objs.size,.none,.none,.none,.bool false,.none] },g,d,t,os⟩) :
  codeAny (model prog w) A (.call (.ref C) ⟨rest,[]⟩) R ⟨h,g,d,t,os⟩:=by
 have u1:=tc_lookup
 have u2:=tc_bind (.ref C)
 have hT:(⟨h,g,d,t,os⟩:Shared).TypeIs (.ref C) "type" := ⟨_,hC,rfl⟩
 refine codeAny_of_tree ?_
 show wpAny _ _ (callAny (.ref C) _) _ _ _
 repeat (any_goals (first|assumption|with_reducible refine wpAny_loadPart_at hC ?_|wp_step))
 refine ⟨rfl,codeAny_call_builtin_at (Code.quiet_builtin _ (by decide +kernel)) entry_typeCall (wpAny_check_type_call_sub hC ?_)⟩
 repeat (first|with_reducible refine wpAny_loadPart_at hC ?_|with_reducible refine wpAny_madeBy_exc hC ?_|wp_step)
 refine codeAny_call_builtin_code (Code.quiet_builtin _ F.quiet) (wpAny_check_new_subT F T hC (codeAny_exc_new_subT F T hC ?_ hrest))
 change wpAny (model prog w) (A.under (.builtin "type.__call__" ⟨.ref C::rest,[]⟩)) _ _ _ ⟨(h.push { cls:=.type "tuple", data:=.seq rest.toArray }).push { cls:=.ref C,data:=.fields #[.ref h.objs.size,.none,.none,.none,.bool false,.none] },g,d,t,os⟩
 generalize hg2:(h.push { cls:=.type "tuple", data:=.seq rest.toArray }).push { cls:=.ref C,data:=.fields #[.ref h.objs.size,.none,.none,.none,.bool false,.none] }=h2 at hq ⊢
 have kp:∀b o,h.get? b=some o->h2.get? b=some o:=fun b o e=>hg2▸yo _ (yo _ e)
 have gx:h2.get? (h.objs.size+1)=some { cls:=.ref C,data:=.fields #[.ref h.objs.size,.none,.none,.none,.bool false,.none] }:=by
  rw [<-hg2]
  heap_get
 have C2:=kp _ _ hC
 have T2:=T.keeps kp
 have n2:=hn.keeps kp
 have cC:(Value.ref C::bm).contains (.ref C)=true:=by simp
 unfold isInstance
 repeat (first|with_reducible refine wpAny_loadPart_at gx ?_|(with_reducible refine wpAny_isSubtype_exc C2 ?_;rw [cC])|wp_step)
 show wpAny _ _ (typeLookup (.ref C) _) _ _ _
 refine wpAny_typeLookup_tail C2 n2 T2 F.mroIs F.init.lookup ?_
 rw [hi]
 refine jp (zt (((hb _).keeps kp).here (s:=⟨h2,g,d,t,os⟩) (zt (wpAny_call (codeAny_mono hq fun r s' z=>?_)))))
 cases r with
 | error e=>exact z
 | ok fl =>
  cases fl with
  | ret v =>
   obtain ⟨rfl,z⟩:=z
   exact zM (zM z)
  | next=>exact z.elim
  | brk=>exact z.elim
  | cont=>exact z.elim
end
def exO (C t:Addr) (d:Option Addr) (a:Addr):HO:=.ext fun h=>h.get? a=some { cls:=.ref C,dict:=d,data:=.fields #[.ref t,.none,.none,.none,.bool false,.none] }
structure ExCls (K:PySem.W.Frag) (C:Addr) (f:Str):Prop where
 sa:PySem.W.findIn K (.ref C) "__setattr__" = some (some (.builtin "object.__setattr__"))
 line:lineIn K C=true
 no:PySem.W.takerIn K C f=some none
 hd:PySem.W.hasDictIn K C=true
def zeO (K:PySem.W.Frag) (ta tv:TE) (f:Str):TS:=fun D U H=>tv U H fun y H1=>ta U H1 fun x H2=>∃a C t,x=.ref a/\H2 a=some (exO C t none a)/\ExCls K C f /\
 ∀d,H2 d=none->D.nx U (upd (upd H2 d (.xd [(f,y)])) a (exO C t (some d) a))
def zks {X:Cx}{o value:Expr}{f:Str}{pos pos':Pos}{ta tv:TE}(ha:PE X o ta) (hv:PE X value tv) (hs:swapsWith value (some (.Attribute o f pos')) pos.line X.env=pure false):PS X (.Assign [.Attribute o f pos'] value pos) (zeO X.K ta tv f):=by
 intro pins s U H D I h
 refine plainObj_wpAny_Assign_Attribute (thn (hv pins s U H _ I h) fun u s1 ⟨y,H1,I1,ry,q⟩=>thn (ha pins s1 U H1 _ I1 q) fun ov s2 ⟨x,H2,I2,rx,a,C,t,ex,ea,c,q2⟩=>?_) hs
 subst ex
 obtain rfl:ov=Value.ref a:=rx
 have he:s2.heap.get? a=some { cls:=.ref C,dict:=none,data:=.fields #[.ref t,.none,.none,.none,.bool false,.none] }:=(I2.hok a _ ea).1
 refine zkq I2.kIn he c.sa c.line c.no c.hd fun h' g1 g2 g3 tk=>?_
 have fr:H2 s2.heap.objs.size=none:=I2.hok.fresh (yg _)
 have na:a≠s2.heap.objs.size:=yz (ym he)
 refine ⟨U,_,?_,q2 s2.heap.objs.size fr⟩
 have old:∀b o,s2.heap.get? b=some o->b≠s2.heap.objs.size:=fun b o e=>yz (ym e)
 have ne_a:∀b,H2 b=none->b≠a:=fun b n z=>by rw [z,ea] at n;cases n
 have upEq:∀b,b≠a->b≠s2.heap.objs.size->(upd (upd H2 s2.heap.objs.size (.xd [(f,y)])) a (exO C t (some s2.heap.objs.size) a)) b=H2 b:=fun b n1 n2=>by rw [zX n1,zX n2]
 have isN:∀b u,H2 b=some u->b≠s2.heap.objs.size:=fun b u e z=>by rw [z,fr] at e;cases e
 refine I2.un (t':=tk) ⟨fun b o e n _ _=>g3 b o (ne_a b n) e,fun b o e n _ _=>⟨o.slots,g3 b o (ne_a b n) e⟩,fun b o e n _=>by rw [upEq b (ne_a b n) (old b o e)];exact n,fun b o e _=>?_,fun b xs e=>?_,fun b o u e=>?_,fun b ps e=>?_⟩ fun b uo e=>?_
 ·by_cases z:b=a
  ·exact ⟨_,z▸g1⟩
  ·exact ⟨o,g3 b o z e⟩
 ·have z:b≠a:=fun z=>by rw [z,ea] at e;cases e
  rw [upEq b z (isN b _ e)];exact e
 ·have z:b≠a:=fun z=>by rw [z,ea] at e;cases e
  rw [upEq b z (isN b _ e)];exact e
 ·have z:b≠a:=fun z=>by rw [z,ea] at e;cases e
  exact ⟨#[],by rw [upEq b z (isN b _ e),e];simp⟩
 ·by_cases z:b=a
  ·rw [z] at e ⊢
   rw [yC] at e
   cases e
   exact ⟨g1,⟨_,g1⟩,fun h1 h2 p k=>k _ p⟩
  ·rw [zX z] at e
   by_cases z2:b=s2.heap.objs.size
   ·rw [z2] at e ⊢
    rw [yC] at e
    cases e
    refine ⟨_,g2,fun n=>?_⟩
    show RelO (List.lookup n [(f,y)]) (if n=f then some u else none)
    rw [jx]
    by_cases w':n=f
    ·rw [zE w',w',beq_self_eq_true]
     exact ry
    ·rw [zN w',beq_eq_false_iff_ne.mpr w']
     exact True.intro
   ·rw [zX z2] at e
    refine (I2.hok b uo e).stay (fun c v hc w'=>g3 c v ?_ w') (fun c w'=>?_) fun c xs w'=>?_
    ·rcases hc with w2|w2
     ·rw [w2];exact z
     ·intro w3
      rw [w3,ea] at w2
      cases w2
    ·have n1:c≠a:=fun w3=>by rw [w3,ea] at w';cases w'
     rw [upEq c n1 (isN c _ w')];exact w'
    ·have n1:c≠a:=fun w3=>by rw [w3,ea] at w';cases w'
     rw [upEq c n1 (isN c _ w')];exact w'
abbrev veLine:List Value:=[.type "ValueError", .type "Exception", .type "BaseException", .type "object"]
def zkt {K:Frag}{h:Heap}{N:Addr}{mN:Str->Option Value}{n:Str}{v:Value}(X:K.In h) (G:h.Ns N mN) (e:nsIn K N n=some (some v)):mN n=some v:=by
 obtain ⟨o,es,ep,ho,hd,_,hf⟩:=G
 unfold nsIn at e
 split at e
 ·rename_i q
  have:=X _ _ q
  rw [ho] at this
  cases this
  cases hd
  split at e
  ·rename_i he
   cases e
   rw [<-hf]
   unfold nsFind findBy
   rw [<-Array.find?_toList,he]
   rfl
  ·split at e<;>cases e
 ·cases e
structure ExOf (K:Frag) (C:Addr):Prop where
 ob:∃nm q N bs bm hdct sn sub ab col dd k0 k1 k2 k3 k5,K.lookup C=some (excClassObj nm q C N bs bm hdct sn sub ab col dd k0 k1 k2 k3 k5 "ValueError.__new__")/\tailIn K veLine bm=true/\nsOkIn K N=true
 kp:keepIn K (.ref C)=true
structure ExMk (K:Frag) (C f:Addr):Prop where
 ob:∃nm q N bs bm hdct sn sub ab col dd k0 k1 k2 k3 k5,K.lookup C=some (excClassObj nm q C N bs bm hdct sn sub ab col dd k0 k1 k2 k3 k5 "ValueError.__new__")/\tailIn K veLine bm=true/\nsOkIn K N=true/\nsIn K N "__init__" = some (some (.ref f))
 fn:isFn K (.ref f)=true
 kp:keepIn K (.ref C)=true
def ExMk.of {K:Frag}{C f:Addr}(x:ExMk K C f):ExOf K C:=by
 obtain ⟨⟨nm,q,N,bs,bm,hdct,sn,sub,ab,col,dd,k0,k1,k2,k3,k5,a,b,c,_⟩,_,k⟩:=x
 exact ⟨⟨nm,q,N,bs,bm,hdct,sn,sub,ab,col,dd,k0,k1,k2,k3,k5,a,b,c⟩,k⟩
def del (H:Hp) (a:Addr):Hp:=fun b=>if b=a then none else H b
def zcO {H:Hp}{a:Addr}:del H a a=none:=zE rfl
def zag {H:Hp}{a b:Addr}(h:b≠a):del H a b=H b:=zN h
def zku {H:Hp}{a:Addr}{o:HO}(h:H a=none):del (upd H a o) a=H:=by
 funext b
 by_cases z:b=a
 ·rw [z,zcO,h]
 ·rw [zag z,zX z]
def zkv {H:Hp}{a b:Addr}{o o':HO}(n:a≠b):upd (upd H a o) b o'=upd (upd H b o') a o:=by
 funext c
 by_cases z:c=a
 ·rw [z,zX n,yC,yC]
 ·by_cases z2:c=b
  ·rw [z2,yC,zX (yA n),yC]
  ·rw [zX z2,zX z,zX z,zX z2]
def Inv.drop {X:Cx}{pins:List (Addr×Obj)}{U:St}{H:Hp}{s:Shared}{a:Addr}{φ:Heap->Prop}(I:Inv X pins U H s) (ha:H a=some (.ext φ)):Inv X pins U (del H a) s:=by
 have ne:∀b u,H b=some u->(∀φ,u ≠ .ext φ)->b≠a:=fun b u e n z=>by
  rw [z,ha] at e
  cases e
  exact n _ rfl
 have t:Inv X pins U (del H a) { s with heap:=s.heap,toks:=s.toks }:=I.un ⟨fun b o e _ _ _=>e,fun b o e _ _ _=>⟨o.slots,e⟩,fun b o e n _=>?_,fun b o e _=>⟨o,e⟩,fun b xs e=>?_,fun b o u e=>?_,fun b ps e=>?_⟩ fun b u e=>?_
 ·exact t
 ·unfold del
  split<;>first|rfl|exact n
 ·rw [zag (ne b _ e fun _ z=>by cases z)];exact e
 ·rw [zag (ne b _ e fun _ z=>by cases z)];exact e
 ·exact ⟨#[],by rw [zag (ne b _ e fun _ z=>by cases z),e];simp⟩
 ·have z:b≠a:=fun z=>by rw [z,zcO] at e;cases e
  rw [zag z] at e
  refine (I.hok b u e).stay (fun _ _ _ q=>q) (fun c q=>?_) fun c xs q=>?_
  ·rw [zag (ne c _ q fun _ z=>by cases z)];exact q
  ·rw [zag (ne c _ q fun _ z=>by cases z)];exact q
section
variable {M:Model}{A:Around}{E:Value->Shared->Prop}{env:Env}{s:Shared}
def zkw {K:Frag}{x:Sem Value}{Q:Flow->Shared->Prop}(hh:A.handled=none)
  (h:wpAny M A x (fun v aj=>∃e C t d,v=.ref e/\K.In aj.heap/\ExOf K C/\aj.heap.get? e=some { cls:=.ref C,dict:=d,data:=.fields #[.ref t,.none,.none,.none,.bool false,.none] }/\E (.ref e) aj) E s):wpAny M A (raiseStmt env (some x) none) Q E s:=by
 unfold raiseStmt
 refine zt (y9 h (fun v aj ar=>?_) fun _ _ x=>x)
 obtain ⟨e,C,tt,dx,rfl,kin,⟨⟨nm,q,N,bs,bm,hdct,sn,sub,ab,col,dd,k0,k1,k2,k3,k5,hC,ht,_⟩,_⟩,he,hE⟩:=ar
 have hC:=kin _ _ hC
 have hbase:bm.contains (.type "BaseException")=true:=(tail_of_in kin ht).hasType (by decide)
 have hcB:(Value.ref C::bm).contains (.type "BaseException")=true:=by rw [List.contains_cons,hbase,Bool.or_true]
 obtain ⟨hp,g,d,tk,os⟩:=aj
 repeat (first|with_reducible refine wpAny_loadPart_at he ?_|with_reducible refine wpAny_loadPart_at hC ?_|(with_reducible refine wpAny_isSubtype_exc hC ?_;rw [hcB])|wp_step)
 exact wpAny_raiseNew_none hh hE
end
section
variable {X:Cx}{CX:CXT}{k:Nat}{f C:Addr}{fd:FuncData}{ps:List Str}{sp:Sp}{E:XK}
def zkx {pins:List (Addr×Obj)}{U:St}{H:Hp}{s:Shared}{Q:VK}{us:List Value}{vs:List V}(M:ExMk X.K C f) (F:FnOk X.prog X.w X.K X.mg X.base CX k f fd ps sp) (hr:Room (k+1) X.A) (hb:Binds X.K fd ps [])
  (hx:Passes CX X E) (I:Inv X pins U H s) (r:Vals vs us) (hz:us.length<=sizeLine)
  (h:∀x t,OwnRec X pins H x->sp (.ref x::vs) (upd H x (exO C t none x)) (fun v H2=>v=.non/\Q (.ref x) H2) E) :
  wpAny (model X.prog X.w) X.A (call (.ref C) us) (EP X pins U Q) X.xe s:=by
 obtain ⟨⟨nm,q,N,bs,bm,hdct,sn,sub,ab,col,dd,k0,k1,k2,k3,k5,hC,ht,hok,hi⟩,hfn,_⟩:=M
 have szl:s.heap.objs.size<=s.heap.objs.size+1:=Nat.le_succ _
 have fr1:H (s.heap.objs.size+1)=none:=I.hok.fresh szl
 have hq:=h (s.heap.objs.size+1) s.heap.objs.size (OwnRec.new I szl fr1)
 let o1:Obj:={ cls:=.type "tuple", data:=.seq us.toArray }
 let o2:Obj:={ cls:=.ref C,data:=.fields #[.ref s.heap.objs.size,.none,.none,.none,.bool false,.none] }
 have e2:((s.heap.push o1).push o2).get? (s.heap.objs.size+1)=some o2:=by
  have:=y8 (s.heap.push o1) (o:=o2) rfl
  rwa [Heap.size_push] at this
 have I1:Inv X pins U H { s with heap:=s.heap.push o1,toks:=s.toks }:=I.kept fun b u q=>yo _ q
 have I2:Inv X pins U (upd H (s.heap.objs.size+1) (exO C s.heap.objs.size none (s.heap.objs.size+1))) { s with heap:=(s.heap.push o1).push o2 } :=
  I1.laid (a:=s.heap.objs.size+1) (o:=exO C s.heap.objs.size none (s.heap.objs.size+1)) (t':=s.toks) (fun b u q=>yo _ q) (Nat.le_of_eq (Heap.size_push _ _)) ⟨e2,⟨_,e2⟩,fun h1 h2 p k=>k _ p⟩
 have r2:Vals (V.ref (s.heap.objs.size+1)::vs) (Value.ref (s.heap.objs.size+1)::us):=.cons rfl r
 have hl:(Value.ref (s.heap.objs.size+1)::us++[]).length=ps.length:=by
  have e:=r2.length
  rw [F.len _ _ _ _ hq] at e
  rw [List.append_nil]
  exact e.symm
 have hbd:=hb { s with heap:=(s.heap.push o1).push o2 } (Value.ref (s.heap.objs.size+1)::us) I2.kIn hl
 rw [List.append_nil] at hbd
 obtain ⟨hp,g,d,tk,os⟩:=s
 refine wpAny_call (zkr (f:=f) PySem.F.excBase_ValueError (tail_of_in I.kIn ht) (I.kIn _ _ hC) (.of_isNs (isNs_of_in I.kIn hok)) (zkt I.kIn (.of_isNs (isNs_of_in I.kIn hok)) hi)
  (fun self=>bind_fn I.kIn self (beq_iff_eq.mp hfn)) hz (codeAny_mono (F.run _ X.stack _ _ ⟨Value.ref (hp.objs.size+1)::us,[]⟩ (Value.ref (hp.objs.size+1)::us) _ _ E (hr.make C us [])
  (I2.env0.make C us []) hbd r2 hq) fun r s' hq'=>?_))
 cases r with
 | error e=>exact hx pins U _ _ e s' I2 hq'
 | ok fl =>
  cases fl with
  | ret u =>
   obtain ⟨v,H',I3,rv,ev,q3⟩:=I2.after hq'
   subst ev
   exact ⟨rv,⟨V.ref (hp.objs.size+1),H',I3,rfl,q3⟩⟩
  | next=>exact hq'.elim
  | brk=>exact hq'.elim
  | cont=>exact hq'.elim
def zeP (C:Addr) (f:Str):Sp:=fun vs H Q _=>∃a t y,vs=[.ref a,y]/\H a=some (exO C t none a)/\∀d,H d=none->Q .non (upd (upd H d (.xd [(f,y)])) a (exO C t (some d) a))
def zky (C:Addr) (f:Str) (te:TE) (Er:XK):TS:=fun _ U H=>te U H fun y H1=>∀d,H1 d=none->Er (.ref C) (some d) (upd H1 d (.xd [(f,y)]))
def zkz {x fld:Str}{e:Expr}{te:TE}{np cpos pos:Pos}{Er:XK}(he:PE X e te) (M:ExMk X.K C f) (F:FnOk X.prog X.w X.K X.mg X.base CX k f fd ps (zeP C fld)) (hr:Room (k+1) X.A) (hg:Gl X x) (hm:X.mg x=some (.ref C))
  (hb:Binds X.K fd ps []) (hx:Passes CX X Er) (ht:Throws X Er) (hc:X.calm=true) (hdb:(x==("__debug__" : Str))=false:=by decide)
  (hs:starEach [e] X.env=(false,eval e X.env)::starEach [] X.env:=by rfl):PS X (.Raise (some (.Call (.Name x np) [e] [] cpos)) none pos) (zky C fld te Er):=by
 intro pins s U H D I h
 rw [arm_exec_Raise]
 refine zt (wpAny_standAt ?_)
 refine zkw (K:=X.K) (I.ok.hd hc) ?_
 refine zt (thn (Q:=EP X pins U fun v H2=>∃a t d,v=.ref a/\OwnRec X pins (del H2 a) a/\H2 a=some (exO C t (some d) a)/\Er (.ref C) (some d) (del H2 a)) ?_ fun u s1 ⟨v,H2,I2,rv,a,t,d,ev,ow,ha,q⟩=>zt (wpAny_standAt (zM ?_)))
 ·refine wpAny_Call_Name_kw (zbF I hg hm ?_ hdb)
  refine PySem.W.callWith_K (h₀:=X.base) I.ok.mod.kin M.kp (spliced_more (thn (he pins s U H _ I h) fun u s1 ⟨y,H1,I1,ry,q⟩=>?_) hs) hs rfl
  refine spliced_none ⟨I1.kIn,?_⟩
  refine zkx (vs:=[y]) M F hr hb hx I1 (.cons ry .nil) (show 1<=sizeLine by decide) fun a t ow=>⟨a,t,y,rfl,yC,fun d hd=>⟨rfl,a,t,d,rfl,?_,yC,?_⟩⟩
  ·exact ⟨zcO,ow.2⟩
  ·have n:d≠a:=fun z=>by rw [z,yC] at hd;cases hd
   rw [zX n] at hd
   have e1:del (upd (upd (upd H1 a (exO C t none a)) d (.xd [(fld,y)])) a (exO C t (some d) a)) a=upd H1 d (.xd [(fld,y)]):=by
    rw [zkv (yA n),zhH]
    exact zku (by rw [zX (yA n)];exact ow.1)
   rw [e1]
   exact q d hd
 ·subst ev
  obtain rfl:u=Value.ref a:=rv
  have he:s1.heap.get? a=some { cls:=.ref C,dict:=some d,data:=.fields #[.ref t,.none,.none,.none,.bool false,.none] }:=(I2.hok a _ ha).1
  exact ⟨a,C,t,some d,rfl,I2.kIn,M.of,he,ht pins U _ s1 a C (some d) (Inv.drop I2 ha) ⟨.none,⟨_,_,he,rfl,rfl,rfl,rfl,rfl⟩,ow,.inl rfl⟩ q⟩
end
def XP (X:Cx) (pins:List (Addr×Obj)) (U:St) (E:XK) (u:Value) (s':Shared):Prop:=∃(a C:Addr) (d:Option Addr) (H':Hp),u=.ref a/\Inv X pins U H' s'/\Fly X pins H' s'.heap a C d/\E (.ref C) d H'
section
variable {X:Cx}{k:Nat}{f C:Addr}{fd:FuncData}{ps:List Str}{sp:Sp}{dvs:List V}{ds:List Value}{E:XK}{x m:Str}{p pos apos:Pos}{e o:Expr}{es:List Expr}{ta:TE}{t:TA}
end
def exC (C:Addr) (d:Option Addr) (a:Addr):HO:=.ext fun h=>∃T:Addr,XO h a (.ref C) d (.ref T)
section
variable {X:Cx}{pins:List (Addr×Obj)}{U:St}{H:Hp}{s:Shared}{a C:Addr}{d:Option Addr}
end
section
variable {X:Cx}{pins:List (Addr×Obj)}{U:St}{H:Hp}{s:Shared}{a C d:Addr}{fs:List (Str×V)}{A:Around}{E:Value->Shared->Prop}
def zeQ (I:Inv X pins U H s) (ha:H a=some (exC C (some d) a)) (hd:H d=some (.xd fs)):∃ox od,InstAt s.heap a ox C (some od)/\∀n,∃o,lookIn n od=some o/\RelO (fs.lookup n) o:=by
 obtain ⟨T,oe,vs,e,hc,hdi,hdt,_⟩:=(show ObjOk X.prog X.w H s.heap a (exC C (some d) a) from I.hok a _ ha).1
 obtain ⟨mA,hn,r⟩:=(show ObjOk X.prog X.w H s.heap d (.xd fs) from I.hok d _ hd)
 obtain ⟨od,ho,hl⟩:=zd6 hn
 refine ⟨oe,od,⟨e,hc,by unfold notCls;rw [hdt],by rw [hdi];exact ho⟩,fun n=>⟨mA n,hl n,r n⟩⟩
end
def ExMk.mk' {K:Frag}{C B N f:Addr}{nm q:Str}{bs:List Value}{hdct:Bool}{sn:List Str}{sub:List Value}{ab:Bool}{col:Option Bool}{dd:Option Addr}{k0 k1 k2 k3 k5:Option Value}{c:Value}{d:Option Addr}{es:Array DictEntry}{n:Nat}{sl:Array (Option Value)}
  (hC:K.lookup C=some (excClassObj nm q C N bs (.ref B::veLine) hdct sn sub ab col dd k0 k1 k2 k3 k5 "ValueError.__new__")) (hB:excIn K B veLine "ValueError.__new__" = true)
  (hN:K.lookup N=some ⟨c,d,.dict es n,sl⟩) (he:(es.all fun e=>match e.key with | .str _ _=>true|_=>false)=true) (hi:nsIn K N "__init__" = some (some (.ref f))) (fn:isFn K (.ref f)=true) (kp:keepIn K (.ref C)=true):ExMk K C f:=by
 refine ⟨⟨nm,q,N,bs,_,hdct,sn,sub,ab,col,dd,k0,k1,k2,k3,k5,hC,?_,?_,hi⟩,fn,kp⟩
 ·unfold excIn at hB
  split at hB
  ·rename_i dd cd sl ho
   split at hB
   ·simp only [jK,beq_iff_eq,Bool.not_eq_true'] at hB
    obtain ⟨⟨_,hok⟩,hni⟩:=hB
    unfold tailIn
    dsimp only
    rw [ho]
    have t0:tailIn K veLine veLine=true:=by unfold tailIn;rw [beq_self_eq_true,Bool.true_or]
    simp only [hok,hni,beq_self_eq_true,Bool.true_and,t0,Bool.or_true]
   ·cases hB
  ·cases hB
 ·unfold nsOkIn
  rw [hN]
  exact he
section
variable {prog:Program}{w:World}{A:Around}{E:Value->Shared->Prop}{h:Heap}{g:Array GenState}{d:Drawn}{t:Nat}{os:OsState}
variable {nm q:Str}{C N:Addr}{bs bm bmB:List Value}{hdct:Bool}{sn:List Str}{sub:List Value}{ab:Bool}{col:Option Bool}{dd:Option Addr}{k0 k1 k2 k3 k5:Option Value}{B newId initId:String}
end
def sRaise0 (C:Addr) (Er:XK):TS:=fun _ _ H=>Er (.ref C) none H
end L2
namespace L2
open PySem PySem.Spec PyProof.Rows PySem.W
def Noted (X:Cx) (pins:List (Addr×Obj)) (H:Hp) (h:Heap) (a C:Addr) (d:Option Addr):Prop :=
 ∃T,XO h a (.ref C) d (.ref T)/\T≠a/\TB h T (rawInt X.env.locals)/\OwnRec X pins H a/\OwnRec X pins H T
def zcP (X:Cx) (pins:List (Addr×Obj)) (H:Hp) (h:Heap) (a C:Addr) (d:Option Addr):Prop:=Fly X pins H h a C d\/Noted X pins H h a C d
def j1 (X:Cx) (E:XK):Prop:=∀(pins:List (Addr×Obj)) (U:St) (H:Hp) (s:Shared) (a C:Addr) (d:Option Addr),Inv X pins U H s->zcP X pins H s.heap a C d->E (.ref C) d H->X.xe (.ref a) s
def j1.one {X:Cx}{E:XK}(t:j1 X E):Throws X E:=fun pins U H s a C d I F q=>t pins U H s a C d I (.inl F) q
def XA (X:Cx) (Er:XK) (e:Value) (s:Shared):Prop:=∃(pins:List (Addr×Obj)) (U:St) (H:Hp) (a C:Addr) (d:Option Addr),e=.ref a/\Inv X pins U H s/\zcP X pins H s.heap a C d/\Er (.ref C) d H
section
variable {X:Cx}{pins:List (Addr×Obj)}{U:St}{H:Hp}{s:Shared}{a C:Addr}{d:Option Addr}{A:Around}{E:Value->Shared->Prop}{Q:Unit->Shared->Prop}{Er:XK}
def zR:j1 (X.wish (XA X Er)) Er:=fun pins U H s a C d I F q=>⟨pins,U,H,a,C,d,rfl,I.unwish,F,q⟩
def zeR (I:Inv X pins U H s) (hfr:A.frames=some X.stack) (hst:X.stack=X.env::X.outer) (hf:X.env.frame=some X.env.locals) (F:zcP X pins H s.heap a C d)
  (h:∀s' T,Inv X pins U H s'->XO s'.heap a (.ref C) d (.ref T)->T≠a->TB s'.heap T (rawInt X.env.locals)->OwnRec X pins H a->OwnRec X pins H T->Q () s'):wpAny (model X.prog X.w) A (noteFrame (.ref a) X.env) Q E s:=by
 rcases F with F|⟨T,x,ne,tb,oa,oT⟩
 ·exact zkm I hfr hst hf F h
 ·obtain ⟨oe,vs,e,_,_,hd,_,h1⟩:=id x
  obtain ⟨ot,ts,et,hdt,h3⟩:=id tb
  unfold noteFrame
  simp only [hf]
  refine zt (j9 e hd h1 ?_)
  rw [zE (show (Value.ref T != Value.none)=true by simp)]
  refine zt (j9 et hdt h3 ?_)
  rw [zE (by simp)]
  exact zM (h s T I x ne tb oa oT)
def zkA {T f:Addr}{fl:Value}(x:XO s.heap a (.ref C) d (.ref T)) (t:TB s.heap T fl) (ne:T≠a)
  (h:∀h',XO h' a (.ref C) d (.ref T)->TB h' T (rawInt f)->(∀b o,b≠T->s.heap.get? b=some o->h'.get? b=some o)->Q () { s with heap:=h' }) {M:Model}:wpAny M A (setFlight (.ref a) (some f)) Q E s:=by
 obtain ⟨oe,vs,e,_,_,hd,_,h1⟩:=id x
 obtain ⟨oT,ts,eT,hdT,h3⟩:=id t
 unfold setFlight
 refine zt (j9 e hd h1 ?_)
 rw [zE (show (Value.ref T != Value.none)=true by simp)]
 refine wpAny_setField eT hdT (Array.getElem?_eq_some_iff.mp h3).1 ?_
 exact h _ (x.keeps fun o q=>(jH _ _ ne).trans q) (t.set3 _) fun b o nb q=>(jH _ _ (yA nb)).trans q
def jD (hst:X.stack=X.env::X.outer) (hf:X.env.frame=some X.env.locals):PassesOwn (model X.prog X.w) X.A X.env (XA X Er):=by
 rintro e s ⟨pins,U,H,a,C,d,rfl,I,F,q⟩
 unfold notedBy
 refine zeR I I.ok.frames hst hf F fun s2 T I2 x2 ne tb2 oa oT=>?_
 unfold cameBackBy
 obtain ⟨oe,vs,e2,_,_,hd,_,h1⟩:=id x2
 refine zt (j9 e2 hd h1 ?_)
 rw [zN (show ¬((Value.ref T==Value.none)=true) by simp),hf]
 refine zkA x2 tb2 ne fun h' x3 tb3 k3=>⟨pins,U,H,a,C,d,rfl,?_,.inr ⟨T,x3,ne,tb3,oa,oT⟩,q⟩
 exact I2.turned (t':=s2.toks) (it:=T) (fun b o nb e=>k3 b o nb e) oT.1 oT.2.2.1 (.inr oT.2.1) oT.2.2.2.1 oT.2.2.2.2
def PSs.throwing {st:List Stmt}{t:TS}(h:PSs (X.wish (XA X Er)) st t) (ht:j1 X Er):PSs X st t:=fun pins s U H D I hw =>
 y9 (h pins s U H D (I.wish _) hw) (fun _ _ q=>q.unwish) fun e s' ⟨pins,U,H,a,C,d,ee,I1,F,q⟩=>ee▸ht pins U H s' a C d I1 F q
def zbP (t:j1 X Er):Passes (CXe X.prog X.w) X Er:=zkl t.one
end
def zkB {P:Program}{w:World}{K:PySem.W.Frag}{mg:Str->Option Value}{base:Heap}{N:List Str}{qual:Str}{scope:Scope}{f:Addr}{cd:Value}{A:Around}{outer:List Env}{s:Shared}{H:Hp}{E:XK} :
  j1 (cxOf (CXe P w) P w K mg base N qual scope f cd A outer s H E) E:=by
 intro pins U H1 s1 a C d I F q
 show wpAny (model P w) (A.deeper (envOfC qual scope s.heap.objs.size f cd)) (leaving (envOfC qual scope s.heap.objs.size f cd) (.ref a)) _ _ s1
 unfold leaving
 refine zt (zeR I I.ok.frames rfl rfl F fun s2 T I2 x ne tb oa oT=>zkn I2 x ne tb oa oT fun s3 I3 x3 tb3=>?_)
 exact ⟨a,C,T,d,H1,rfl,I3.os,I3.bare,I3.base,I3.hok,x3,ne,tb3,⟨oa.2.1,oa.1⟩,⟨oT.2.1,oT.1⟩,q⟩
section
variable {P:Program}{w:World}{K:PySem.W.Frag}{mg:Str->Option Value}{base:Heap}
def Fun.okT {x qual:Str}{st:Stmt}{f:Addr}{fd:FuncData}{N ps:List Str}{k:Nat}{sp:Sp}(F:Fun K x qual st f fd) (S:FnScope N ps (zT st)) (len:∀vs H Q E,sp vs H Q E->vs.length=ps.length)
  (hbody:∀(cdv:Value) (A:Around) (outer:List Env) (s:Shared) (H:Hp) (vs:List V) (Q:VK) (E:XK),Room k (A.deeper (envOfC qual (zT st) s.heap.objs.size f cdv))->sp vs H Q E ->
   ∃t,PSs ((cxOf (CXe P w) P w K mg base N qual (zT st) f cdv A outer s H E).wish (XA (cxOf (CXe P w) P w K mg base N qual (zT st) f cdv A outer s H E) E)) (yV st) t/\t { nx:=fun _ H'=>Q .non H',rt:=Q } (start N vs) H):FnOk P w K mg base (CXe P w) (k+1) f fd ps sp :=
 Fun.okX F S len fun cdv A outer s H vs Q E hr hs=>let ⟨t,h1,h2⟩:=hbody cdv A outer s H vs Q E hr hs;⟨t,PSs.throwing h1 zkB,h2⟩
end
end L2
namespace L2
open PySem PySem.Spec PyProof.Rows PySem.W PySem.Builtin PySem.Builtin.ObjectAttr
section
variable {prog:Program}{w:World}{A:Around}{E:Value->Shared->Prop}{K:Frag}{x C:Addr}{s:Shared}{ox:Obj}{od:Option Obj}{name:Str}{tk:Tok}
structure ExGa (K:Frag) (C:Addr):Prop where
 ga:findIn K (.ref C) "__getattribute__" = some (some (.builtin "BaseException.__getattribute__"))
 hk:findIn K (.ref C) "__getattr__" = some none
 hB:mroIn K C (.type "BaseException")=some true
def zeS {fill expr:Bool}{Q:Value->Shared->Prop}(X:K.In s.heap) (I:InstAt s.heap x ox C od) (G:ExGa K C)
  (h:wpAny (model prog w) A.in1 (Builtin.«object.__getattribute__» ⟨[.ref x,.str name tk],[]⟩) (fun fin s'=>∃v,fin=.done (.ret v)/\handedIn v=true/\Q v s') (fun _ _=>False) s) :
  wpAny (model prog w) A (getAttrBy (.ref x) (.str name tk) fill expr) Q E s:=by
 have L0:=I.type (M:=model prog w)
 have L1:=looks_findIn (M:=model prog w) X G.ga
 have L2:=looks_findIn (M:=model prog w) X G.hk
 have isB:Looks (model prog w) s.heap (isInstance (.ref x) (.type "BaseException")) true:=I.type.andThen (looks_mroIn X G.hB)
 unfold getAttrBy
 refine jp (zt (L0.here (zt (L1.here ?_))))
 dsimp only
 rw [zN (show ¬((onTheHeap (Value.ref C)&&Value.builtin "BaseException.__getattribute__" == Value.builtin "object.__getattribute__")=true) by
  rw [show (Value.builtin "BaseException.__getattribute__" == Value.builtin "object.__getattribute__")=false by decide +kernel,Bool.and_false];exact Bool.false_ne_true)]
 unfold getAttrByItsOwn hookBefore
 rw [zE (show onTheHeap (Value.ref C)=true from rfl)]
 refine zt (L2.here (zt (wpAny_attempt (jp ?_))))
 unfold callGetattribute
 rw [zN (show ¬((expr&&onTheHeap (Value.builtin "BaseException.__getattribute__"))=true) by cases expr<;>exact Bool.false_ne_true)]
 unfold boundAndCalled
 refine zt (wpAny_of_eq (PySem.F.excAttr_ValueError.ga.bind (.ref x)) ?_)
 refine wpAny_call (codeAny_call_builtin PySem.F.excAttr_ValueError.ga.plain PySem.F.entry_bexc_ga (@check_slot (model prog w) _ _ s "BaseException.__getattribute__" "BaseException" "__getattribute__" (.ref x) [.str name tk] [] _ (by decide +kernel) (by decide +kernel) isB (PySem.F.args_bexc_ga (.ref x) (.str name tk)) ?_))
 refine y9 h (fun fin s' ⟨v,ef,hv,q⟩=>?_) fun _ _ z=>z.elim
 subst ef
 show wpAny _ _ (handedOut v) _ _ _
 rw [handedOut_of hv]
 exact zM q
def zkC {v:Value}{Q:Fin->Shared->Prop}(X:K.In s.heap) (I:InstAt s.heap x ox C od) (hf:findObj K C od name=some (.value v)) (h:Q (.done (.ret v)) s) :
  wpAny (model prog w) A (Builtin.«object.__getattribute__» ⟨[.ref x,.str name tk],[]⟩) Q E s:=by
 have L0:=I.type (M:=model prog w)
 have L1:=looks_find (M:=model prog w) X I hf
 exact zt (zM (zt (zM (zt (L0.here (zt (L1.here (zM h))))))))
def zkD {Q:Fin->Shared->Prop} (X:K.In s.heap) (I:InstAt s.heap x ox C od) (hf:findObj K C od "__class__" = some (.bind (.builtin "getset_descriptor.__get__") (.builtin "object.__class__"))) (hm:mroIn K C (.type "object")=some true)
  (h:Q (.done (.ret (.ref C))) s):wpAny (model prog w) A (Builtin.«object.__getattribute__» ⟨[.ref x,.str "__class__" tk],[]⟩) Q E s:=by
 have L0:=I.type (M:=model prog w)
 have L1:=looks_find (M:=model prog w) X I hf
 refine zt (zM (zt (zM (zt (L0.here (zt (L1.here ?_)))))))
 show wpAny _ _ (holding [.builtin "object.__class__"] (call (.builtin "getset_descriptor.__get__") [.builtin "object.__class__", .ref x,.ref C]) >>= ret) _ _ _
 exact zt (jp (wpAny_call (class_get (ox:=ox) (od:=od) X I hm (zM h))))
end
def zkE {K:Frag} {x D:Addr} {ox:Obj} {od:Option Obj} (G:ExGa K D) (hcl:(clsIn K D).isSome=true) (hf:findObj K D od "__class__" = some (.bind (.builtin "getset_descriptor.__get__") (.builtin "object.__class__"))) (hm:mroIn K D (.type "object")=some true) :
  KitX K (.ref x) (.ref D) (fun h=>InstAt h x ox D od):=by
 obtain ⟨cd,hc⟩:=Option.isSome_iff_exists.mp hcl
 unfold clsIn at hc
 split at hc
 ·rename_i c' d' cd' sl' ho
  refine ⟨fun _ _ _ I=>I.type,fun M h X _=>?_,fun h tp dd its n sl X htp=>?_,fun {prog w A E Q s} X I k=>?_⟩
  ·intro A' Q' E' s' k q
   unfold isType loadHead
   exact zt (wpAny_loadPart (k _ _ (X _ _ ho)) (zM q))
  ·refine Bool.eq_false_iff.mpr fun q=>?_
   obtain rfl:D=tp:=Value.ref.inj (beq_iff_eq.mp q)
   have z:=(X _ _ ho).symm.trans htp
   cases z
  ·unfold getAttr? getAttrBy?
   refine zt (wpAny_mkText (zt (wpAny_attempt ?_)))
   exact zeS (s:={ s with toks:=s.toks+1 }) X I G (zkD (s:={ s with toks:=s.toks+1 }) X I hf hm ⟨_,rfl,rfl,zM k⟩)
 ·cases hc
structure ExIs (K:Frag) (C:Addr):Prop where
 g:ExGa K C
 hd:hasDictIn K C=true
 ha:findIn K (.ref C) "__class__" = some (some (.builtin "object.__class__"))
 hn:specialIn K (.builtin "object.__class__") "__get__" = some (some (.builtin "getset_descriptor.__get__"))
 tk:takesIn K (.builtin "object.__class__")=some true
 hm:mroIn K C (.type "object")=some true
section
variable {X:Cx}{pins:List (Addr×Obj)}{U:St}{H:Hp}{s:Shared}{a C d:Addr}{fs:List (Str×V)}{A:Around}{E:Value->Shared->Prop}
def zkF {b:Bool}{f:Str}{v:V}{Q:Value->Shared->Prop}(I:Inv X pins U H s) (ha:H a=some (exC C (some d) a)) (hd:H d=some (.xd fs)) (g:ExGa X.K C) (hh:hasDictIn X.K C=true) (no:findIn X.K (.ref C) f=some none) (l:fs.lookup f=some v)
  (h:∀u s',Inv X pins U H s'->RelV v u->Q u s'):wpAny (model X.prog X.w) A (getAttr (.ref a) f b) Q E s:=by
 obtain ⟨ox,od,J,hl⟩:=zeQ I ha hd
 obtain ⟨o,ho,r⟩:=hl f
 rw [l] at r
 obtain ⟨u,rfl,ru⟩:=RelO.some_of (v:=v) (o:=o) r
 unfold getAttr
 refine zt (wpAny_mkText ?_)
 exact zeS (s:={ s with toks:=s.toks+1 }) I.kIn J g (zkC (s:={ s with toks:=s.toks+1 }) I.kIn J (findObj_own hh no rfl ho) ⟨u,rfl,zd9 ru,h u _ (I.tok _) ru⟩)
def zkG {c:Value}{b:Bool}{Q:Value->Shared->Prop}(I:Inv X pins U H s) (ha:H a=some (exC C (some d) a)) (hd:H d=some (.xd fs)) (k:ExIs X.K C) (e:kitOne X.K (.ref C) c=some b) (h:∀tk,Q (.bool b) { s with toks:=tk }) :
  wpAny (model X.prog X.w) A (call (.builtin "isinstance") [.ref a,c]) Q E s:=by
 obtain ⟨ox,od,J,_⟩:=zeQ I ha hd
 have cl:(clsIn X.K C).isSome=true:=by obtain ⟨cd,hc,_⟩:=any_some k.hd;rw [hc];rfl
 exact kia_one (zkE k.g cl (findObj_data cl k.ha k.hn k.tk) k.hm) I.kIn J e (fun z=>nomatch z) h
end
end L2
namespace L2
open PySem PySem.Spec PyProof.Rows PySem.W
structure Ste (prog:Program) (w:World) (it src:Addr) (xs:Array Value) (St:Nat->Heap->Prop):Prop where
 at_:∀{k h h'},St k h->(∀o,h.get? it=some o->h'.get? it=some o)->(∀o,h.get? src=some o->h'.get? src=some o)->St k h'
 lt:∀{k h},St k h->it<h.objs.size
 item:∀{A:Around} {E:Value->Shared->Prop} {s:Shared} {k:Nat} {x:Value} {Q:Value->Shared->Prop},St k s.heap->xs[k]?=some x->(∀h',St (k+1) h'->Heap.SameBut it s.heap h'->Q x { s with heap:=h' }) ->
  wpAny (model prog w) A (Builtin.SmallTypes.nextOf (.ref it)) Q E s
 stop:∀{A:Around} {E:Value->Shared->Prop} {s:Shared} {k:Nat} {Q:Value->Shared->Prop},A.handled=none->St k s.heap->xs[k]?=none ->
  (∀h' e,Heap.ExtBut it s.heap h'->(∃o,h'.get? e=some o/\o.cls=.type "StopIteration")->E (.ref e) { s with heap:=h' })->wpAny (model prog w) A (Builtin.SmallTypes.nextOf (.ref it)) Q E s
def StT (it t:Addr) (xs:Array Value) (k:Nat) (h:Heap):Prop:=IsTupIter h it t k/\IsTup h t xs
section
variable {prog:Program}{w:World}{A:Around}{E:Value->Shared->Prop}{s:Shared}{z TI TO i1 i2 t1 t2:Addr}{k:Nat}{xs ys:Array Value}{x y a b:Value}{S1 S2:Nat->Heap->Prop}
end
section
variable {X:Cx}{pins:List (Addr×Obj)}{U:St}{H:Hp}{s:Shared}{h':Heap}
def Inv.turnL {ch:List Addr}{t':Nat}(I:Inv X pins U H s) (hc:∀b∈ch,FpOk X pins H b) (k:∀b o,b∉ch->s.heap.get? b=some o->h'.get? b=some o):Inv X pins U H { s with heap:=h',toks:=t' }:=by
 have nch:∀b u,H b=some u->b∉ch:=fun b u e z=>by rw [(hc b z).1] at e;cases e
 refine I.step (g':=s.gens) (d':=s.drawn) (ch:=ch) (fun b hb=>?_) (fun b o _ _ nb e _=>k b o nb e) (fun b o _ _ nb e _=>⟨o.slots,k b o nb e⟩) (fun _ _ _ _ n=>n)
  (fun b o nb e=>⟨o,k b o nb e⟩) (fun _ _ e=>e) (fun _ _ _ e=>e) (fun b ps e=>⟨#[],by rw [e];simp⟩) (fun m hm=>?_) (fun b u e=>?_) I.bare
 ·obtain ⟨_,f1,_,f3,f4,f5⟩:=hc b hb
  exact ⟨f3,f1,f4,f5⟩
 ·obtain ⟨o,es,ep,ho,r⟩:=hm
  exact ⟨o,es,ep,k _ o (fun z=>(hc _ z).2.1 rfl) ho,r⟩
 ·refine (I.hok b u e).stay (fun c v hc' q=>k c v ?_ q) (fun _ q=>q) fun _ _ q=>q
  rcases hc' with z|z
  ·rw [z];exact nch b u e
  ·exact nch c _ z
def Inv.turnN {ch:List Addr}{T:Addr}{o:HO}{t':Nat}(I:Inv X pins U H s) (hc:∀b∈ch,FpOk X pins H b) (k:∀b o,b∉ch->s.heap.get? b=some o->h'.get? b=some o) (hT:s.heap.objs.size<=T)
  (new:ObjOk X.prog X.w (upd H T o) h' T o):Inv X pins U (upd H T o) { s with heap:=h',toks:=t' }:=by
 have fT:H T=none:=I.hok.fresh hT
 have nch:∀b u,H b=some u->b∉ch:=fun b u e z=>by rw [(hc b z).1] at e;cases e
 have nT:∀b u,H b=some u->b≠T:=fun b u e z=>by rw [z,fT] at e;cases e
 refine I.step (g':=s.gens) (d':=s.drawn) (ch:=ch) (fun b hb=>?_) (fun b o _ _ nb e _=>k b o nb e) (fun b o _ _ nb e _=>⟨o.slots,k b o nb e⟩) (fun b u _ e n=>?_)
  (fun b o nb e=>⟨o,k b o nb e⟩) (fun b xs e=>?_) (fun b u v e=>?_) (fun b ps e=>⟨#[],?_⟩) (fun m hm=>?_) (fun b u e=>?_) I.bare
 ·obtain ⟨_,f1,_,f3,f4,f5⟩:=hc b hb
  exact ⟨f3,f1,f4,f5⟩
 ·rw [zX (yz (jb (ym e) hT))];exact n
 ·rw [zX (nT b _ e)];exact e
 ·rw [zX (nT b _ e)];exact e
 ·rw [zX (nT b _ e),e];simp
 ·obtain ⟨o,es,ep,ho,r⟩:=hm
  exact ⟨o,es,ep,k _ o (fun z=>(hc _ z).2.1 rfl) ho,r⟩
 ·by_cases z:b=T
  ·rw [z] at e ⊢
   rw [yC] at e
   cases e
   exact new
  ·rw [zX z] at e
   refine (I.hok b u e).stay (fun c v hc' q=>k c v ?_ q) (fun c q=>by rw [zX (nT c _ q)];exact q) fun c xs q=>by rw [zX (nT c _ q)];exact q
   rcases hc' with z|z
   ·rw [z];exact nch b u e
   ·exact nch c _ z
end
structure Five (z TI TO i1 i2:Addr):Prop where
 TIz:TI≠z
 TOz:TO≠z
 i1z:i1≠z
 i2z:i2≠z
 TITO:TI≠TO
 TIi1:TI≠i1
 TIi2:TI≠i2
 TOi1:TO≠i1
 TOi2:TO≠i2
 i12:i1≠i2
section
variable {prog:Program}{w:World}{A:Around}{E:Value->Shared->Prop}{s:Shared}
end
structure KD (X:Cx) (a:Addr):Prop where
 ob:∃es n,X.K.lookup a=some ⟨.type "dict", none,.dict es n,#[]⟩/\KeysLit X.w.params es.toList
 no:(a==sysModules)=false
section
variable {X:Cx}
def zkH:IxR X (fun x y H Q=>∃a z u v,x=.ref a/\y=.str z/\KD X a/\nsIn X.K a z=some (some u)/\RelV v u/\Q v H):=by
 intro a b pins s U H x y v u Q I rx ry h hs
 obtain ⟨p,z,u',v',rfl,rfl,⟨⟨es,n,hl,hk⟩,_⟩,e,rv,q⟩:=h
 obtain rfl:v=Value.ref p:=rx
 obtain ⟨t,rfl⟩:=ry
 obtain ⟨m,F⟩:=I.fr
 exact topItem_K F I.ok.mod.kin hl hk e ⟨v',H,I.tok _,rv,q⟩ hs
def zkI:OpR X (compareOp .NotIn) (fun x y H Q=>∃a z r,x=.str z/\y=.ref a/\KD X a/\nsIn X.K a z=some r/\Q (.bl (!r.isSome)) H):=by
 intro pins s U H x y v u Q I rx ry h
 obtain ⟨p,z,r,rfl,rfl,⟨⟨es,n,hl,hk⟩,no⟩,e,q⟩:=h
 obtain rfl:u=Value.ref p:=ry
 obtain ⟨t,rfl⟩:=rx
 refine wpAny_notIn_of (strKind_is X.prog X.w z t) no (mapOf_K (prog:=X.prog) I.kIn hl hk) ?_
 rw [find_K hl e]
 exact ⟨.bl (!r.isSome),H,I.tok _,rfl,q⟩
end
end L2
namespace Mi
open PySem L2 PySem.W
inductive PV where
 | non|bl (b:Bool)|int (i:Int)|str (x:Str)|ty (n:String)
 | tup (xs:List PV)|frl (xs:List PV)|ref (n:Nat)|fn (x:Str)|kd (ks:List Str) (xs:List PV)|exo (c:Str) (ks:List Str) (xs:List PV)
inductive SO where
 | lst (xs:List PV)|dic (ks:List Str) (xs:List PV)|ins (c:Str) (ks:List Str) (xs:List PV)|fdi (ks:List Str) (xs:List PV)
abbrev Sto:=List SO
inductive Res (α:Type) where
 | ok (a:α) (st:Sto)|err (c:Str) (ks:List Str) (xs:List PV) (st:Sto)|stuck
abbrev Mo (α:Type):=Sto->Res α
def Res.bind {α β:Type}:Res α->(α->Mo β)->Res β
 | .ok a st,f=>f a st
 | .err c ks xs st,_=>.err c ks xs st
 | .stuck,_=>.stuck
abbrev ze:=List (Option PV)
def KDs (K:Frag) (a:Addr) (ks:List Str) (us:List Value):Prop:=∀z,nsIn K a z=some ((ks.zip us).lookup z)
def FrL (K:Frag) (H:Hp) (a:Addr) (vs:List V):Prop :=
 (∃o,H a=some (.frz o (.lst vs)))\/∃(o:Obj) (its:Array Value) (n:Nat),K.lookup a=some o/\o.cls=.type "list" /\ o.dict=none/\o.data=.seq its n/\its.size<=sizeLine/\Vals vs its.toList
def FrL.sq {K:Frag}{H:Hp}{a:Addr}{vs:List V}(h:FrL K H a vs):SqL K H a vs:=by
 rcases h with ⟨o,h⟩|h
 ·exact .inl (.inr ⟨o,h⟩)
 ·exact .inr h
section
variable (K:Frag) (mg:Str->Option Value)
mutual
def R (ρ:List Addr) (H:Hp):PV->V->Prop
 | .non,v=>v=.non
 | .bl b,v=>v=.bl b
 | .int i,v=>v=.int i
 | .str x,v=>v=.str x
 | .ty n,v=>v=.ty n
 | .tup xs,v=>∃a vs,v=.ref a/\SqT K H a vs/\Rs ρ H xs vs
 | .frl xs,v=>∃a vs,v=.ref a/\FrL K H a vs/\Rs ρ H xs vs
 | .ref n,v=>∃a,v=.ref a/\ρ[n]?=some a
 | .fn x,v=>∃f,v=.ref f/\mg x=some (.ref f)
 | .kd ks xs,v=>∃a us vs,v=.ref a/\KDs K a ks us/\Vals vs us/\Rs ρ H xs vs
 | .exo c ks xs,v=>∃a C d vs,v=.ref a/\mg c=some (.ref C)/\H a=some (exC C (some d) a)/\H d=some (.xd (ks.zip vs))/\Rs ρ H xs vs/\ks.length=vs.length
def Rs (ρ:List Addr) (H:Hp):List PV->List V->Prop
 | [],vs=>vs=[]
 | x::xs,vs=>∃v r,vs=v::r/\R ρ H x v/\Rs ρ H xs r
end
def SoR (ρ:List Addr) (H:Hp):SO->Addr->Prop
 | .lst xs,a=>∃vs,H a=some (.lst vs)/\Rs K mg ρ H xs vs
 | .dic ks xs,a=>∃vs,H a=some (.dK ((ks.map Sum.inr).zip vs))/\Rs K mg ρ H xs vs/\ks.length=vs.length
 | .ins c ks xs,a=>∃C dx vs,mg c=some (.ref C)/\H a=some (.ins C dx (ks.zip vs))/\Rs K mg ρ H xs vs/\ks.length=vs.length
 | .fdi ks xs,a=>∃o vs,H a=some (.frz o (.dK ((ks.map Sum.inr).zip vs)))/\Rs K mg ρ H xs vs/\ks.length=vs.length
structure StR (ρ:List Addr) (H:Hp) (st:Sto):Prop where
 len:ρ.length=st.length
 nd:ρ.Nodup
 at_:∀(n:Nat) so,st[n]?=some so->∃a,ρ[n]?=some a/\SoR K mg ρ H so a
def Imm:HO->Bool
 | .tup _=>true
 | .frz _ _=>true
 | .xd _=>true
 | .ext _=>true
 | _=>false
structure Ext (ρ:List Addr) (H:Hp) (ah:List Addr) (H':Hp):Prop where
 pre:∃δ,ah=ρ++δ
 imm:∀a o,H a=some o->Imm o=true->H' a=some o
def XR (ρ:List Addr) (H:Hp) (c:Str) (ks:List Str) (xs:List PV) (Cv:Value) (d:Option Addr):Prop :=
 ∃C,Cv=.ref C/\mg c=some (.ref C)/\((ks=[]/\d=none)\/∃dd vs,d=some dd/\H dd=some (.xd (ks.zip vs))/\Rs K mg ρ H xs vs/\ks.length=vs.length)
def Out {α:Type}(ρ:List Addr) (H:Hp) (r:Res α) (good:List Addr->Hp->α->Sto->Prop) (E:XK):Prop :=
 match r with
 | .ok x st=>∀ah H',Ext ρ H ah H'->StR K mg ah H' st->good ah H' x st
 | .err c ks xs st=>∀ah H' C d,Ext ρ H ah H'->StR K mg ah H' st->XR K mg ah H' c ks xs C d->E C d H'
 | .stuck=>False
structure EnvR (ρ:List Addr) (H:Hp) (env:ze) (U:St):Prop where
 len:env.length=U.length
 at_:∀(i:Nat) x,env[i]?=some (some x)->∃v,U[i]?=some (some v)/\R K mg ρ H x v
def gV (Q:VK):List Addr->Hp->PV->Sto->Prop:=fun ρ H x _=>∀v,R K mg ρ H x v->Q v H
def gVs (Q:List V->Hp->Prop):List Addr->Hp->List PV->Sto->Prop:=fun ρ H x _=>∀v,Rs K mg ρ H x v->Q v H
def gB (Q:Bool->Hp->Prop):List Addr->Hp->Bool->Sto->Prop:=fun _ H x _=>Q x H
inductive Fl where
 | nx (env:ze)|rt (x:PV)|bk (env:ze)|ct (env:ze)
def gS (D:Ends):List Addr->Hp->Fl->Sto->Prop:=fun ρ H x _ =>
 match x with
 | .nx env=>∀U,EnvR K mg ρ H env U->D.nx U H
 | .rt x=>∀v,R K mg ρ H x v->D.rt v H
 | .bk env=>∀U,EnvR K mg ρ H env U->D.bk U H
 | .ct env=>∀U,EnvR K mg ρ H env U->D.ct U H
end
section
variable {K:Frag}{mg:Str->Option Value}{ρ af ao:List Addr}{H H1 H2:Hp}
def Ext.refl:Ext ρ H ρ H:=⟨⟨[],by simp⟩,fun _ _ h _=>h⟩
def Ext.trans (a:Ext ρ H af H1) (b:Ext af H1 ao H2):Ext ρ H ao H2:=by
 obtain ⟨⟨d,hd⟩,i⟩:=a
 obtain ⟨⟨d',hd'⟩,i'⟩:=b
 exact ⟨⟨d++d',by rw [hd',hd,zbA]⟩,fun a o h m=>i' a o (i a o h m) m⟩
def Ext.get (a:Ext ρ H af H1) {n:Nat}{p:Addr}(h:ρ[n]?=some p):af[n]?=some p:=by
 obtain ⟨⟨d,hd⟩,_⟩:=a
 rw [hd,we (yE.mp h).1]
 exact h
def Ext.sqT (e:Ext ρ H af H1) {a:Addr}{xs:List V}(h:SqT K H a xs):SqT K H1 a xs:=by
 rcases h with (h|⟨o,h⟩)|h
 ·exact .inl (.inl (e.imm _ _ h rfl))
 ·exact .inl (.inr ⟨o,e.imm _ _ h rfl⟩)
 ·exact .inr h
def Ext.frl (e:Ext ρ H af H1) {a:Addr}{xs:List V}(h:FrL K H a xs):FrL K H1 a xs:=by
 rcases h with ⟨o,h⟩|h
 ·exact .inl ⟨o,e.imm _ _ h rfl⟩
 ·exact .inr h
mutual
def R.ext (e:Ext ρ H af H1):∀(x:PV) {v:V},R K mg ρ H x v->R K mg af H1 x v
 | .non,_,h=>h
 | .bl _,_,h=>h
 | .int _,_,h=>h
 | .str _,_,h=>h
 | .ty _,_,h=>h
 | .tup xs,_,h=>by
  obtain ⟨a,vs,h1,h2,h3⟩:=h
  exact ⟨a,vs,h1,e.sqT h2,Rs.ext e xs h3⟩
 | .frl xs,_,h=>by
  obtain ⟨a,vs,h1,h2,h3⟩:=h
  exact ⟨a,vs,h1,e.frl h2,Rs.ext e xs h3⟩
 | .ref n,_,h=>by
  obtain ⟨a,h1,h2⟩:=h
  exact ⟨a,h1,e.get h2⟩
 | .fn _,_,h=>h
 | .kd ks xs,_,h=>by
  obtain ⟨a,us,vs,h1,h2,h4,h3⟩:=h
  exact ⟨a,us,vs,h1,h2,h4,Rs.ext e xs h3⟩
 | .exo c ks xs,_,h=>by
  obtain ⟨a,C,d,vs,h1,h2,h3,h4,h5,h6⟩:=h
  exact ⟨a,C,d,vs,h1,h2,e.imm _ _ h3 rfl,e.imm _ _ h4 rfl,Rs.ext e xs h5,h6⟩
def Rs.ext (e:Ext ρ H af H1):∀(xs:List PV) {vs:List V},Rs K mg ρ H xs vs->Rs K mg af H1 xs vs
 | [],_,h=>h
 | x::xs,_,h=>by
  obtain ⟨v,r,h1,h2,h3⟩:=h
  exact ⟨v,r,h1,R.ext e x h2,Rs.ext e xs h3⟩
end
def EnvR.ext (e:Ext ρ H af H1) {env:ze}{U:St}(h:EnvR K mg ρ H env U):EnvR K mg af H1 env U :=
 ⟨h.len,fun i x hx=>let ⟨v,a,b⟩:=h.at_ i x hx;⟨v,a,R.ext e x b⟩⟩
def Rs.len:∀{xs:List PV}{vs:List V},Rs K mg ρ H xs vs->xs.length=vs.length
 | [],_,h=>by cases h;rfl
 | x::xs,_,h=>by
  obtain ⟨v,r,rfl,_,h3⟩:=h
  simp [Rs.len h3]
def Rs.get:∀{xs:List PV}{vs:List V}{i:Nat}{x:PV},Rs K mg ρ H xs vs->xs[i]?=some x->∃v,vs[i]?=some v/\R K mg ρ H x v
 | [],_,_,_,_,e=>by simp at e
 | x::xs,_,0,_,h,e=>by
  obtain ⟨v,r,rfl,h2,h3⟩:=h
  simp at e
  subst e
  exact ⟨v,by simp,h2⟩
 | x::xs,_,i+1,y,h,e=>by
  obtain ⟨v,r,rfl,h2,h3⟩:=h
  simp at e
  obtain ⟨v',h4,h5⟩:=Rs.get h3 e
  exact ⟨v',by simpa using h4,h5⟩
def Rs.append:∀{xs ys:List PV}{vs ws:List V},Rs K mg ρ H xs vs->Rs K mg ρ H ys ws->Rs K mg ρ H (xs++ys) (vs++ws)
 | [],_,_,_,h,h'=>by cases h;exact h'
 | x::xs,_,_,_,h,h'=>by
  obtain ⟨v,r,rfl,h2,h3⟩:=h
  exact ⟨v,r++_,rfl,h2,Rs.append h3 h'⟩
def Rs.take:∀{xs:List PV}{vs:List V}(n:Nat),Rs K mg ρ H xs vs->Rs K mg ρ H (xs.take n) (vs.take n)
 | [],_,n,h=>by cases h;simp [Rs]
 | x::xs,_,0,h=>by simp [Rs]
 | x::xs,_,n+1,h=>by
  obtain ⟨v,r,rfl,h2,h3⟩:=h
  exact ⟨v,_,rfl,h2,Rs.take n h3⟩
def Rs.drop:∀{xs:List PV}{vs:List V}(n:Nat),Rs K mg ρ H xs vs->Rs K mg ρ H (xs.drop n) (vs.drop n)
 | [],_,n,h=>by cases h;simp [Rs]
 | x::xs,_,0,h=>h
 | x::xs,_,n+1,h=>by
  obtain ⟨v,r,rfl,h2,h3⟩:=h
  exact Rs.drop n h3
def EnvR.set {env:ze}{U:St}{x:PV}{v:V}(h:EnvR K mg ρ H env U) (i:Nat) (r:R K mg ρ H x v):EnvR K mg ρ H (env.set i (some x)) (U.set i (some v)):=by
 refine ⟨by simp [h.len],fun j y hy=>?_⟩
 rw [List.getElem?_set] at hy ⊢
 by_cases hij:i=j
 ·subst hij
  by_cases hl:i<env.length
  ·rw [zE rfl,zE hl] at hy
   rw [zE rfl,zE (by rw [<-h.len];exact hl)]
   cases hy
   exact ⟨v,rfl,r⟩
  ·rw [zE rfl,zN hl] at hy
   cases hy
 ·rw [zN hij] at hy ⊢
  exact h.at_ j y hy
def EnvR.cons {env:ze}{U:St}{x:PV}{v:V}(h:EnvR K mg ρ H env U) (r:R K mg ρ H x v):EnvR K mg ρ H (some x::env) (some v::U):=by
 refine ⟨by simp [h.len],fun j y hy=>?_⟩
 cases j with
 | zero=>simp at hy;subst hy;exact ⟨v,by simp,r⟩
 | succ j=>simp at hy;simpa using h.at_ j y hy
def StR.addr {st:Sto}{n:Nat}{so:SO}(s:StR K mg ρ H st) (e:st[n]?=some so) {a:Addr}(ha:ρ[n]?=some a):SoR K mg ρ H so a:=by
 obtain ⟨b,hb,h⟩:=s.at_ n so e
 rw [ha] at hb
 cases hb
 exact h
def SoR.some {so:SO}{a:Addr}(h:SoR K mg ρ H so a):∃o,H a=some o/\True:=by
 cases so with
 | lst xs=>obtain ⟨vs,h,_⟩:=h;exact ⟨_,h,trivial⟩
 | dic ks xs=>obtain ⟨vs,h,_⟩:=h;exact ⟨_,h,trivial⟩
 | ins c ks xs=>obtain ⟨C,dx,vs,_,h,_⟩:=h;exact ⟨_,h,trivial⟩
 | fdi ks xs=>obtain ⟨o,vs,h,_⟩:=h;exact ⟨_,h,trivial⟩
def StR.in_ {st:Sto}{n:Nat}{a:Addr}(s:StR K mg ρ H st) (h:ρ[n]?=some a):∃so,st[n]?=some so/\SoR K mg ρ H so a:=by
 have hl:n<st.length:=by rw [<-s.len];exact (yE.mp h).1
 refine ⟨st[n],by simp [hl],s.addr (by simp [hl]) h⟩
def SoR.ext' {so:SO}{a:Addr}(e:Ext ρ H af H1) (h:SoR K mg ρ H so a) (k:H1 a=H a):SoR K mg af H1 so a:=by
 cases so with
 | lst xs=>obtain ⟨vs,h1,h2⟩:=h;exact ⟨vs,by rw [k];exact h1,Rs.ext e xs h2⟩
 | dic ks xs=>obtain ⟨vs,h1,h2,h3⟩:=h;exact ⟨vs,by rw [k];exact h1,Rs.ext e xs h2,h3⟩
 | ins c ks xs=>obtain ⟨C,dx,vs,h0,h1,h2,h3⟩:=h;exact ⟨C,dx,vs,h0,by rw [k];exact h1,Rs.ext e xs h2,h3⟩
 | fdi ks xs=>obtain ⟨o,vs,h1,h2,h3⟩:=h;exact ⟨o,vs,by rw [k];exact h1,Rs.ext e xs h2,h3⟩
def Ext.new {p:Addr}{o:HO}(hp:H p=none):Ext ρ H ρ (upd H p o) :=
 ⟨⟨[],by simp⟩,fun a o' h _=>by rw [zX (wg h hp)];exact h⟩
def StR.new {st:Sto}{p:Addr}{o:HO}(s:StR K mg ρ H st) (hp:H p=none):StR K mg ρ (upd H p o) st :=
 ⟨s.len,s.nd,fun n so e=>by
  obtain ⟨a,ha,h⟩:=s.at_ n so e
  obtain ⟨o',ho,_⟩:=h.some
  exact ⟨a,ha,h.ext' (Ext.new hp) (zX (wg ho hp))⟩⟩
def Ext.push {p:Addr}{o:HO}(hp:H p=none):Ext ρ H (ρ++[p]) (upd H p o) :=
 ⟨⟨[p],rfl⟩,fun a o' h _=>by rw [zX (wg h hp)];exact h⟩
def StR.push {st:Sto}{p:Addr}{o:HO}{so:SO}(s:StR K mg ρ H st) (hp:H p=none) (n:SoR K mg (ρ++[p]) (upd H p o) so p):StR K mg (ρ++[p]) (upd H p o) (st++[so]):=by
 refine ⟨by simp [s.len],?_,fun i so' e=>?_⟩
 ·refine List.nodup_append.mpr ⟨s.nd,by simp,fun a ha b hb=>?_⟩
  obtain rfl:b=p:=by simpa using hb
  obtain ⟨n,hn⟩:=List.getElem?_of_mem ha
  obtain ⟨so',_,h⟩:=s.in_ hn
  obtain ⟨o',ho,_⟩:=h.some
  exact wg ho hp
 ·by_cases hi:i<st.length
  ·rw [we hi] at e
   obtain ⟨a,ha,h⟩:=s.at_ i so' e
   obtain ⟨o',ho,_⟩:=h.some
   exact ⟨a,(Ext.push (o:=o) hp).get ha,h.ext' (Ext.push hp) (zX (wg ho hp))⟩
  ·rw [jZ (by omega)] at e
   have hi':i=st.length:=by
    have:=(yE.mp e).1
    simp at this
    omega
   subst hi'
   simp at e
   subst e
   exact ⟨p,by rw [<-s.len];simp,n⟩
def Ext.write {a:Addr}{o o':HO}(ha:H a=some o) (hi:Imm o=false):Ext ρ H ρ (upd H a o') :=
 ⟨⟨[],by simp⟩,fun b u h m=>by
  rw [zX]
  ·exact h
  ·intro z;subst z;rw [ha] at h;cases h;rw [hi] at m;cases m⟩
def StR.write {st:Sto}{n:Nat}{a:Addr}{o':HO}{so:SO}(s:StR K mg ρ H st) (hn:ρ[n]?=some a) (ew:Ext ρ H ρ (upd H a o')) (h:SoR K mg ρ (upd H a o') so a):StR K mg ρ (upd H a o') (st.set n so):=by
 refine ⟨by simp [s.len],s.nd,fun i so' e=>?_⟩
 rw [List.getElem?_set] at e
 by_cases hij:n=i
 ·subst hij
  rw [zE rfl] at e
  split at e
  ·cases e;exact ⟨a,hn,h⟩
  ·cases e
 ·rw [zN hij] at e
  obtain ⟨b,hb,q⟩:=s.at_ i so' e
  have ne:b≠a:=by
   intro z
   subst z
   obtain ⟨h1,h2⟩:=yE.mp hn
   obtain ⟨h3,h4⟩:=yE.mp hb
   have pw:=List.pairwise_iff_getElem.mp s.nd
   rcases Nat.lt_trichotomy n i with c|c|c
   ·exact pw n i h1 h3 c (h2.trans h4.symm)
   ·exact hij c
   ·exact pw i n h3 h1 c (h4.trans h2.symm)
  exact ⟨b,hb,q.ext' ew (zX ne)⟩
section
variable {α β:Type}{E:XK}{good:List Addr->Hp->α->Sto->Prop}
def Out.ext {r:Res α}(h:Out K mg ρ H r good E) (e:Ext ρ H af H1):Out K mg af H1 r good E:=by
 cases r with
 | ok x st=>exact fun ah H' e' s=>h ah H' (e.trans e') s
 | err c ks xs st=>exact fun ah H' C d e' s x=>h ah H' C d (e.trans e') s x
 | stuck=>exact h
def Out.mono {r:Res α}{good':List Addr->Hp->α->Sto->Prop}(h:Out K mg ρ H r good E) (g:∀ah H' x st,Ext ρ H ah H'->StR K mg ah H' st->good ah H' x st->good' ah H' x st):Out K mg ρ H r good' E:=by
 cases r with
 | ok x st=>exact fun ah H' e' s=>g ah H' x st e' s (h ah H' e' s)
 | err c ks xs st=>exact h
 | stuck=>exact h
def Out.bind {r:Res β}{f:β->Mo α}(h:Out K mg ρ H (r.bind f) good E):Out K mg ρ H r (fun ah H' x st=>Out K mg ah H' (f x st) good E) E:=by
 cases r with
 | ok x st=>exact fun ah H' e' s=>Out.ext h e'
 | err c ks xs st=>exact h
 | stuck=>exact h
def Out.then {r:Res β}{f:β->Mo α}{good':List Addr->Hp->β->Sto->Prop}(h:Out K mg ρ H (r.bind f) good E) (g:∀ah H' x st,Ext ρ H ah H'->StR K mg ah H' st->Out K mg ah H' (f x st) good E->good' ah H' x st):Out K mg ρ H r good' E:=h.bind.mono g
def Out.now {x:α}{st:Sto}(h:Out K mg ρ H (.ok x st) good E) (s:StR K mg ρ H st):good ρ H x st:=h ρ H Ext.refl s
end
end
end Mi
namespace Mi
open PySem L2 PySem.W PySem.Spec
abbrev lim:Nat:=1000000
def yQ {n:Nat}(h:n<=lim):n<=sizeLine:=by rw [sizeLine_eq];show n<=16777216;exact yT h (by decide)
section
variable (K:Frag) (mg:Str->Option Value)
def tM (Er:XK) (f:ze->Mo PV):TE:=fun U H Q=>∃env st ρ,EnvR K mg ρ H env U/\StR K mg ρ H st/\Out K mg ρ H (f env st) (gV K mg Q) Er
def tMB (Er:XK) (f:ze->Mo Bool):TT:=fun U H Q=>∃env st ρ,EnvR K mg ρ H env U/\StR K mg ρ H st/\Out K mg ρ H (f env st) (gB Q) Er
def tMA (Er:XK) (f:ze->Mo (List PV)):TA:=fun U H Q=>∃env st ρ,EnvR K mg ρ H env U/\StR K mg ρ H st/\Out K mg ρ H (f env st) (gVs K mg Q) Er
def sM (Er:XK) (f:ze->Mo Fl):TS:=fun D U H=>∃env st ρ,EnvR K mg ρ H env U/\StR K mg ρ H st/\Out K mg ρ H (f env st) (gS K mg D) Er
end
def ME (X:Cx) (Er:XK) (e:Expr) (f:ze->Mo PV):Prop:=PE X e (tM X.K X.mg Er f)
def MT (X:Cx) (Er:XK) (e:Expr) (f:ze->Mo Bool):Prop:=PT X e (tMB X.K X.mg Er f)
def MW (X:Cx) (Er:XK) (e:Expr) (f:ze->Mo Bool):Prop:=PW X e (tMB X.K X.mg Er f)
def MA (X:Cx) (Er:XK) (e:List Expr) (f:ze->Mo (List PV)):Prop:=PA X e (tMA X.K X.mg Er f)
def MS (X:Cx) (Er:XK) (e:Stmt) (f:ze->Mo Fl):Prop:=PS X e (sM X.K X.mg Er f)
def MSs (X:Cx) (Er:XK) (e:List Stmt) (f:ze->Mo Fl):Prop:=PSs X e (sM X.K X.mg Er f)
section
variable {X:Cx}{Er:XK}{e a b c:Expr}{es:List Expr}{pos:Pos}{t t':TE}
def PE.weak (h:PE X e t) (w:∀U H Q,t' U H Q->t U H Q):PE X e t':=fun pins s U H Q I q=>h pins s U H Q I (w U H Q q)
def PT.weak {t t':TT}(h:PT X e t) (w:∀U H Q,t' U H Q->t U H Q):PT X e t':=fun pins s U H Q I q=>h pins s U H Q I (w U H Q q)
def PW.weak {t t':TT}(h:PW X e t) (w:∀U H Q,t' U H Q->t U H Q):PW X e t':=fun wh pins s U H Q I q=>h wh pins s U H Q I (w U H Q q)
def PA.weak {t t':TA}(h:PA X es t) (w:∀U H Q,t' U H Q->t U H Q):PA X es t':=fun pos pins s U H Q I q=>h pos pins s U H Q I (w U H Q q)
def PS.weak {st:Stmt}{t t':TS}(h:PS X st t) (w:∀D U H,t' D U H->t D U H):PS X st t':=fun pins s U H D I q=>h pins s U H D I (w D U H q)
def PSs.weak {st:List Stmt}{t t':TS}(h:PSs X st t) (w:∀D U H,t' D U H->t D U H):PSs X st t':=fun pins s U H D I q=>h pins s U H D I (w D U H q)
def zd (i:Nat):ze->Mo PV:=fun env st=>match env[i]? with
 | some (some x)=>.ok x st
 | _=>.stuck
def mC (x:PV):ze->Mo PV:=fun _ st=>.ok x st
def zj (i:Nat) {x:Str} {pos:Pos} (hN:X.N[i]?=some x:=by rfl) (hv:Vis X.env.scope x:=by first|exact Or.inl rfl|exact Or.inr (Or.inl rfl)|exact Or.inr (Or.inr rfl)) (hd:(x==("__debug__" : Str))=false:=by decide)
  (hcd:(x==("__classdict__" : Str))=false:=by decide):ME X Er (.Name x pos) (zd i):=PE.weak (zdX hN hv hd hcd) fun U H Q ⟨env,st,ρ,re,rs,h⟩=>by
 unfold zd at h
 split at h
 ·rename_i x' hx
  obtain ⟨v,h1,h2⟩:=re.at_ i x' hx
  exact ⟨v,h1,h.now rs v h2⟩
 ·exact h.elim
def zaC {x:PV}{v:V}(hp:PE X e (tC v)) (hr:∀ρ H,R X.K X.mg ρ H x v):ME X Er e (mC x):=PE.weak hp fun U H Q ⟨env,st,ρ,re,rs,h⟩=>h.now rs v (hr ρ H)
def zn {i:Int}{j}:ME X Er (.Constant (.int i) j pos) (mC (.int i)):=zaC zhN fun _ _=>rfl
def zD {x:Str}{j}:ME X Er (.Constant (.str x) j pos) (mC (.str x)):=zaC zhQ fun _ _=>rfl
def zbQ {b:Bool}{j}:ME X Er (.Constant (.bool b) j pos) (mC (.bl b)):=zaC zhO fun _ _=>rfl
def zcQ {j}:ME X Er (.Constant .none j pos) (mC .non):=zaC zhP fun _ _=>rfl
def zkL {x:Str} {p:PV} {v:V} {u:Value} (hm:X.mg x=some u) (r:RelV v u) (hr:∀ρ H,R X.K X.mg ρ H p v) (hg:Gl X x:=by rfl) (hd:(x==("__debug__" : Str))=false:=by decide):ME X Er (.Name x pos) (mC p):=zaC (zcC hg hm r hd) hr
def OpM (K:Frag) (mg:Str->Option Value) (r:R2) (op:PV->PV->Mo PV):Prop:=∀ρ H st x y v w (Q:VK) (E:XK),StR K mg ρ H st->R K mg ρ H x v->R K mg ρ H y w->Out K mg ρ H (op x y st) (gV K mg Q) E->r v w H Q
def zf (op:PV->PV->Mo PV) (fa fb:ze->Mo PV):ze->Mo PV:=fun env st=>(fa env st).bind fun x st1=>(fb env st1).bind fun y st2=>op x y st2
variable {fa fb fc:ze->Mo PV}
def zbR {r:R2}{op:PV->PV->Mo PV}{K:Frag}{mg:Str->Option Value}(hm:OpM K mg r op) {U:St}{H:Hp}{Q:VK}(h:tM K mg Er (zf op fa fb) U H Q):tOp r (tM K mg Er fa) (tM K mg Er fb) U H Q:=by
 obtain ⟨env,st,ρ,re,rs,h⟩:=h
 exact ⟨env,st,ρ,re,rs,h.then fun af H1 x st1 e1 s1 h1 v rv=>⟨env,st1,af,re.ext e1,s1,h1.then fun ao H2 y st2 e2 s2 h2 w rw=>hm ao H2 st2 x y v w Q Er s2 (R.ext e2 x rv) rw h2⟩⟩
def zkM {o:Operator}{r:R2}{op:PV->PV->Mo PV}(ho:OpR X (binaryOp o) r) (hm:OpM X.K X.mg r op) (ha:ME X Er a fa) (hb:ME X Er b fb):ME X Er (.BinOp a o b pos) (zf op fa fb) :=
 PE.weak (ziz ho ha hb) fun U H Q h=>zbR hm h
def zkN {o:CmpOp}{r:R2}{op:PV->PV->Mo PV}(ho:OpR X (compareOp o) r) (hm:OpM X.K X.mg r op) (ha:ME X Er a fa) (hb:ME X Er b fb) (hk:behindInMarks o b=false):ME X Er (.Compare a [o] [b] pos) (zf op fa fb) :=
 PE.weak (ziL ho ha hb hk) fun U H Q h=>zbR hm h
def asB:PV->Mo Bool
 | .bl b,st=>.ok b st
 | _,_=>.stuck
def mB (f:ze->Mo PV):ze->Mo Bool:=fun env st=>(f env st).bind asB
def zkO {K:Frag}{mg:Str->Option Value}{ρ:List Addr}{H:Hp}{x:PV}{st:Sto}{Q:Bool->Hp->Prop}(s:StR K mg ρ H st) (h:Out K mg ρ H (asB x st) (gB Q) Er) {v:V}(r:R K mg ρ H x v):∃k,v=.bl k/\Q k H:=by
 unfold asB at h
 split at h
 ·cases r;exact ⟨_,rfl,h.now s⟩
 ·exact h.elim
def zkP {α:Type}{K:Frag}{mg:Str->Option Value}{ρ:List Addr}{H:Hp}{x:PV}{st:Sto}{f:Bool->Mo α}{good:List Addr->Hp->α->Sto->Prop}(h:Out K mg ρ H ((asB x st).bind f) good Er):∃k,x=.bl k/\Out K mg ρ H (f k st) good Er:=by
 cases x with
 | bl k=>exact ⟨k,rfl,h⟩
 | _=>exact h.elim
def zcR {f:ze->Mo PV}{K:Frag}{mg:Str->Option Value}{U:St}{H:Hp}{Q:Bool->Hp->Prop}(h:tMB K mg Er (mB f) U H Q):tM K mg Er f U H fun x H1=>∃c,x=.bl c/\Q c H1:=by
 obtain ⟨env,st,ρ,re,rs,h⟩:=h
 exact ⟨env,st,ρ,re,rs,h.then fun af H1 x st1 e1 s1 h1 v rv=>zkO s1 h1 rv⟩
def zkQ {o:CmpOp}{r:R2}{op:PV->PV->Mo PV}(ho:OpR X (compareOp o) r) (hm:OpM X.K X.mg r op) (ha:ME X Er a fa) (hb:ME X Er b fb) (hk:behindInMarks o b=false):MT X Er (.Compare a [o] [b] pos) (mB (zf op fa fb)) :=
 PT.weak (zd5 ho ha hb hk) fun U H Q h=>zbR hm (zcR h)
def zcS (h:ME X Er e fa) (he:∀whole,isTrue e X.env whole=(do let v <-whole;standAt e.pos;holding [v] (truthy v)):=by intro _;rfl):MT X Er e (mB fa) :=
 PT.weak (zhS h he) fun U H Q h=>zcR h
def UnM (K:Frag) (mg:Str->Option Value) (r:V->Hp->VK->Prop) (op:PV->Mo PV):Prop:=∀ρ H st x v (Q:VK) (E:XK),StR K mg ρ H st->R K mg ρ H x v->Out K mg ρ H (op x st) (gV K mg Q) E->r v H Q
def jy (op:PV->Mo PV) (fa:ze->Mo PV):ze->Mo PV:=fun env st=>(fa env st).bind op
def zkR {o:UnaryOp}{r:V->Hp->VK->Prop}{op:PV->Mo PV}(ho:UnR X (unaryOp o) r) (hm:UnM X.K X.mg r op) (ha:ME X Er a fa):ME X Er (.UnaryOp o a pos) (jy op fa) :=
 PE.weak (ziA ho ha) fun U H Q ⟨env,st,ρ,re,rs,h⟩=>⟨env,st,ρ,re,rs,h.then fun af H1 x st1 e1 s1 h1 v rv=>hm af H1 st1 x v Q Er s1 rv h1⟩
variable {ga gb:ze->Mo Bool}{rest:List Expr}
def jM (ga gb:ze->Mo Bool):ze->Mo Bool:=fun env st=>(ga env st).bind fun c st1=>if c=true then gb env st1 else .ok false st1
def jn (ga gb:ze->Mo Bool):ze->Mo Bool:=fun env st=>(ga env st).bind fun c st1=>if c=true then .ok true st1 else gb env st1
def za8 (ga:ze->Mo Bool):ze->Mo Bool:=fun env st=>(ga env st).bind fun c st1=>.ok (!c) st1
def zcT (ha:MT X Er a ga):MW X Er (.BoolOp .And [a] pos) ga:=zhW ha
def zbS (ha:MT X Er a ga):MW X Er (.BoolOp .Or [a] pos) ga:=zhX ha
def zbT (ha:MT X Er a ga) (hb:MW X Er (.BoolOp .And (b::rest) pos) gb):MW X Er (.BoolOp .And (a::b::rest) pos) (jM ga gb) :=
 PW.weak (zhY ha hb) fun U H Q ⟨env,st,ρ,re,rs,h⟩=>⟨env,st,ρ,re,rs,h.then fun af H1 k st1 e1 s1 h1=>by
  cases k with
  | true=>exact ⟨env,st1,af,re.ext e1,s1,h1⟩
  | false=>exact h1.now s1⟩
def zbU (ha:MT X Er a ga) (hb:MW X Er (.BoolOp .Or (b::rest) pos) gb):MW X Er (.BoolOp .Or (a::b::rest) pos) (jn ga gb) :=
 PW.weak (zhZ ha hb) fun U H Q ⟨env,st,ρ,re,rs,h⟩=>⟨env,st,ρ,re,rs,h.then fun af H1 k st1 e1 s1 h1=>by
  cases k with
  | false=>exact ⟨env,st1,af,re.ext e1,s1,h1⟩
  | true=>exact h1.now s1⟩
def zah {op:BoolOp}(h:MW X Er (.BoolOp op es pos) ga):MT X Er (.BoolOp op es pos) ga:=PW.pt h
def zkS (ha:MT X Er a ga):MT X Er (.UnaryOp .Not a pos) (za8 ga):=PT.weak (zh0 ha) fun U H Q ⟨env,st,ρ,re,rs,h⟩=>⟨env,st,ρ,re,rs,h.then fun af H1 k st1 e1 s1 h1=>h1.now s1⟩
def zbV (fa fb:ze->Mo PV):ze->Mo PV:=fun env st=>(fa env st).bind fun x st1=>(asB x st1).bind fun c st2=>if c=true then fb env st2 else .ok (.bl false) st2
def zkT {op}(h:ME X Er a fa):ME X Er (.BoolOp op [a] pos) fa:=zh2 h
def zkU (ha:ME X Er a fa) (hb:ME X Er (.BoolOp .And (b::rest) pos) fb):ME X Er (.BoolOp .And (a::b::rest) pos) (zbV fa fb) :=
 PE.weak (zh3 ha hb) fun U H Q ⟨env,st,ρ,re,rs,h⟩=>⟨env,st,ρ,re,rs,h.then fun af H1 x st1 e1 s1 h1 v rv=>by
  obtain ⟨k,rfl,h1⟩:=zkP h1
  cases rv
  refine ⟨k,rfl,?_⟩
  cases k with
  | true=>exact ⟨env,st1,af,re.ext e1,s1,h1⟩
  | false=>exact Out.now (x:=PV.bl false) h1 s1 _ rfl⟩
def zk:ze->Mo (List PV):=fun _ st=>.ok [] st
def zc (f:ze->Mo PV) (fs:ze->Mo (List PV)):ze->Mo (List PV):=fun env st=>(f env st).bind fun x st1=>(fs env st1).bind fun xs st2=>.ok (x::xs) st2
variable {fs:ze->Mo (List PV)}
def zo:MA X Er [] zk:=PA.weak zbI fun U H Q ⟨env,st,ρ,re,rs,h⟩=>h.now rs [] rfl
def zeT (ha:ME X Er e fa) (hr:MA X Er es fs) (hs:starEach (e::es) X.env=(false,eval e X.env)::starEach es X.env:=by rfl):MA X Er (e::es) (zc fa fs) :=
 PA.weak (zbJ ha hr hs) fun U H Q ⟨env,st,ρ,re,rs,h⟩=>⟨env,st,ρ,re,rs,h.then fun af H1 x st1 e1 s1 h1 v rv=>⟨env,st1,af,re.ext e1,s1,h1.then fun ao H2 xs st2 e2 s2 h2 vs rvs =>
  h2.now s2 (v::vs) ⟨v,vs,rfl,R.ext e2 x rv,rvs⟩⟩⟩
def zx (fs:ze->Mo (List PV)):ze->Mo PV:=fun env st=>(fs env st).bind fun xs st1=>if xs.length<=lim then .ok (.tup xs) st1 else .stuck
def yR (fs:ze->Mo (List PV)):ze->Mo PV:=fun env st=>(fs env st).bind fun xs st1=>if xs.length<=lim then .ok (.ref st1.length) (st1++[.lst xs]) else .stuck
def R.tup_of {K:Frag}{mg:Str->Option Value}{ρ:List Addr}{H:Hp}{xs:List PV}{vs:List V}{p:Addr}(r:Rs K mg ρ H xs vs) (hp:H p=none):R K mg ρ (upd H p (.tup vs)) (.tup xs) (.ref p) :=
 ⟨p,vs,rfl,SqT.of yC,Rs.ext (Ext.new hp) xs r⟩
def zF {x1}(h:MA X Er es fs):ME X Er (.Tuple es x1 pos) (zx fs) :=
 PE.weak (zi6 h) fun U H Q ⟨env,st,ρ,re,rs,h⟩=>⟨env,st,ρ,re,rs,h.then fun af H1 xs st1 e1 s1 h1 vs rv=>by
  split at h1
  ·rename_i hl
   exact ⟨by rw [<-rv.len];exact yQ hl,fun p hp=>h1 af _ (Ext.new hp) (s1.new hp) _ (R.tup_of rv hp)⟩
  ·exact h1.elim⟩
def Out.newList {K:Frag}{mg:Str->Option Value}{ρ:List Addr}{H:Hp}{st:Sto}{xs:List PV}{vs:List V}{p:Addr}{Q:VK}(h:Out K mg ρ H (.ok (.ref st.length) (st++[.lst xs])) (gV K mg Q) Er) (s:StR K mg ρ H st) (r:Rs K mg ρ H xs vs) (hp:H p=none):Q (.ref p) (upd H p (.lst vs)) :=
 h (ρ++[p]) _ (Ext.push hp) (s.push hp ⟨vs,yC,Rs.ext (Ext.push hp) xs r⟩) _ ⟨p,rfl,by rw [<-s.len];simp⟩
def jj (h:MA X Er es fs):ME X Er (.List es pos) (yR fs) :=
 PE.weak (zi7 h) fun U H Q ⟨env,st,ρ,re,rs,h⟩=>⟨env,st,ρ,re,rs,h.then fun af H1 xs st1 e1 s1 h1 vs rv=>by
  split at h1
  ·rename_i hl
   exact ⟨by rw [<-rv.len];exact yQ hl,fun p hp=>Out.newList h1 s1 rv hp⟩
  ·exact h1.elim⟩
def zkV {r:R2}{op:PV->PV->Mo PV}(ho:IxR X r) (hm:OpM X.K X.mg r op) (ha:ME X Er a fa) (hb:ME X Er b fb) (hs:PlainIx b:=by exact fun _ _=>rfl):ME X Er (.Subscript a b pos) (zf op fa fb) :=
 PE.weak (zen ho ha hb hs) fun U H Q h=>zbR hm h
end
end Mi
namespace HT
open PySem PySem.Spec PyProof.Rows
section
variable {prog:Program}{w:World}{A:Around}{E:Value->Shared->Prop}{s:Shared}
def getItem_tuple_all {t sl:Addr}{items:Array Value}{vl vu:Value}{lo hi:Option Int}{Q:Value->Shared->Prop}(ht:IsTup s.heap t items) (hs:s.heap.IsSliceOf sl vl vu .none) (pl:IsPart vl lo) (pu:IsPart vu hi)
  (hw:sIx items.size 0 lo=0/\sIx items.size items.size hi=items.size) (h:Q (.ref t) s)
  (hsz:items.size<=sizeLine):wpAny (model prog w) A (getItem (.ref t) (.ref sl)) Q E s:=by
 obtain ⟨os,hos,hcs,hds⟩:=id hs
 have hTs:s.TypeIs (.ref sl) "slice" := ⟨os,hos,hcs⟩
 unfold getItem
 try with_reducible refine jp ?_
 first|refine zt (zM ?_)|skip
 refine zt (wpAny_sequenceKey ht.typeIs (by decide) ?_)
 refine zt (wpAny_callSpecial?_slot (name:=Str.ofString "__getitem__") ht.typeIs PyProof.Rows.slot_tuple_getitem
  (wF PyProof.Rows.slot_tuple_getitem ht.typeIs entry_tuple_getitem ?_ (args_tuple_getitem _ _)))
 show wpAny _ _ (Builtin.Tuple.tupleItemsOf (.ref t) >>= _) _ _ s
 refine zt (tupleItemsOf_ ht ?_)
 refine zt (wpAny_typeOf hTs ?_)
 rw [zE (by decide)]
 refine zt (zek hs pl pu ?_)
 have hyes:(((sIx items.size 0 lo:Nat):Int)==0&&(1:Int)==1&&(sIx items.size items.size hi-sIx items.size 0 lo)==items.size)=true:=by
  rw [hw.1,hw.2];simp
 show wpAny _ _ (if (((sIx items.size 0 lo:Nat):Int)==0&&(1:Int)==1&&(sIx items.size items.size hi-sIx items.size 0 lo)==items.size)=true then _ else _) _ _ s
 rw [zE hyes]
 unfold Builtin.Tuple.tupleIsExact
 refine zt (zt (wpAny_typeOf ht.typeIs (zM ?_)))
 rw [zE (by decide)]
 exact zt (wpAny_rule (zM ⟨_,rfl,zM h⟩))
def cat_tup0 {t b:Addr}{ws:List Value}{Q:Value->Shared->Prop}(ht:IsTup s.heap t #[]) (hb:IsTup s.heap b ws.toArray) (h1:Q (.ref b) s):wpAny (model prog w) A (binaryOp .Add (.ref t) (.ref b)) Q E s:=by
 obtain ⟨⟨cls,dd,data,sl⟩,ho,hc,n,hd⟩:=id ht
 obtain ⟨⟨cls2,dd2,data2,sl2⟩,ho2,hc2,n2,hd2⟩:=id hb
 simp only at hc hd hc2 hd2
 subst hc hd hc2 hd2
 exact concat_meets ⟨_,ho,rfl⟩ ⟨_,ho2,rfl⟩ noFill_tuple_add seq_tuple_add PySem.F.slot_tuple_add PySem.F.entry_tuple_add (PySem.F.args_tuple_add_2 _ _)
   (tuple_addW0 t b #[] ws.toArray n n2 dd dd2 sl sl2 (by simp)) ⟨ho,ho2,h1⟩
end
end HT
namespace Mi
open PySem L2 PySem.W PySem.Spec
section
variable {X:Cx}{Er:XK}{K:Frag}{mg:Str->Option Value}
def BinOk (X:Cx) (o:Operator) (op:PV->PV->Mo PV):Prop:=∃r,OpR X (binaryOp o) r/\OpM X.K X.mg r op
def CmpOk (X:Cx) (o:CmpOp) (op:PV->PV->Mo PV):Prop:=∃r,OpR X (compareOp o) r/\OpM X.K X.mg r op
def IxOk (X:Cx) (op:PV->PV->Mo PV):Prop:=∃r,IxR X r/\OpM X.K X.mg r op
def UnOk (X:Cx) (o:UnaryOp) (op:PV->Mo PV):Prop:=∃r,UnR X (unaryOp o) r/\UnM X.K X.mg r op
variable {a b c e:Expr}{es:List Expr}{pos:Pos}{fa fb fc:ze->Mo PV}{fs:ze->Mo (List PV)}
def zp {o:Operator}{op:PV->PV->Mo PV}(h:BinOk X o op) (ha:ME X Er a fa) (hb:ME X Er b fb):ME X Er (.BinOp a o b pos) (zf op fa fb):=let ⟨_,h1,h2⟩:=h;zkM h1 h2 ha hb
def zcU {o:CmpOp}{op:PV->PV->Mo PV}(h:CmpOk X o op) (ha:ME X Er a fa) (hb:ME X Er b fb) (hk:behindInMarks o b=false:=by first|exact nomark _|with_unfolding_all rfl):ME X Er (.Compare a [o] [b] pos) (zf op fa fb):=let ⟨_,h1,h2⟩:=h;zkN h1 h2 ha hb hk
def yj {o:CmpOp}{op:PV->PV->Mo PV}(h:CmpOk X o op) (ha:ME X Er a fa) (hb:ME X Er b fb) (hk:behindInMarks o b=false:=by first|exact nomark _|with_unfolding_all rfl):MT X Er (.Compare a [o] [b] pos) (mB (zf op fa fb)):=let ⟨_,h1,h2⟩:=h;zkQ h1 h2 ha hb hk
def zU {op:PV->PV->Mo PV}(h:IxOk X op) (ha:ME X Er a fa) (hb:ME X Er b fb) (hs:PlainIx b:=by exact fun _ _=>rfl):ME X Er (.Subscript a b pos) (zf op fa fb):=let ⟨_,h1,h2⟩:=h;zkV h1 h2 ha hb hs
def zkW {o:UnaryOp}{op:PV->Mo PV}(h:UnOk X o op) (ha:ME X Er a fa):ME X Er (.UnaryOp o a pos) (jy op fa):=let ⟨_,h1,h2⟩:=h;zkR h1 h2 ha
def Out.ifp {α:Type}{ρ:List Addr}{H:Hp}{p:Prop} [Decidable p] {r:Res α}{good:List Addr->Hp->α->Sto->Prop}(h:Out K mg ρ H (if p then r else .stuck) good Er):p/\Out K mg ρ H r good Er:=by
 split at h
 ·rename_i hp;exact ⟨hp,h⟩
 ·exact h.elim
def yh {α:Type}(st:Sto) (n:Nat) (k:List PV->Res α):Res α:=match st[n]? with
 | some (.lst xs)=>k xs
 | _=>.stuck
def jz {α:Type}(st:Sto) (n:Nat) (k:List Str->List PV->Res α):Res α:=match st[n]? with
 | some (.dic ks xs)=>k ks xs
 | _=>.stuck
def jr {α:Type}(st:Sto) (n:Nat) (k:Str->List Str->List PV->Res α):Res α:=match st[n]? with
 | some (.ins c ks xs)=>k c ks xs
 | _=>.stuck
def yW {α:Type}{ρ:List Addr}{H:Hp}{st:Sto}{n:Nat}{k:List PV->Res α}{good:List Addr->Hp->α->Sto->Prop}(h:Out K mg ρ H (yh st n k) good Er):∃xs,st[n]?=some (.lst xs)/\Out K mg ρ H (k xs) good Er:=by
 unfold yh at h
 split at h
 ·rename_i xs e;exact ⟨xs,e,h⟩
 ·exact h.elim
def zkX {α:Type}{ρ:List Addr}{H:Hp}{st:Sto}{n:Nat}{k:List Str->List PV->Res α}{good:List Addr->Hp->α->Sto->Prop}(h:Out K mg ρ H (jz st n k) good Er):∃ks xs,st[n]?=some (.dic ks xs)/\Out K mg ρ H (k ks xs) good Er:=by
 unfold jz at h
 split at h
 ·rename_i ks xs e;exact ⟨ks,xs,e,h⟩
 ·exact h.elim
def zeU {α:Type}{ρ:List Addr}{H:Hp}{st:Sto}{n:Nat}{k:Str->List Str->List PV->Res α}{good:List Addr->Hp->α->Sto->Prop}(h:Out K mg ρ H (jr st n k) good Er):∃c ks xs,st[n]?=some (.ins c ks xs)/\Out K mg ρ H (k c ks xs) good Er:=by
 unfold jr at h
 split at h
 ·rename_i c ks xs e;exact ⟨c,ks,xs,e,h⟩
 ·exact h.elim
def opI (C:Int->Int->Bool) (g:Int->Int->Int):PV->PV->Mo PV
 | .int i,.int j,st=>if C i j=true then .ok (.int (g i j)) st else .stuck
 | _,_,_=>.stuck
def za9 {C:Int->Int->Bool}{g:Int->Int->Int}{P:Int->Int->Prop}(hC:∀i j,C i j=true->P i j):OpM K mg (rI P fun i j=>.int (g i j)) (opI C g):=by
 intro ρ H st x y v w Q E s rx ry h
 cases x with
 | int i =>
  cases y with
  | int j =>
   cases rx;cases ry
   obtain ⟨c,h⟩:=Out.ifp h
   exact ⟨i,j,rfl,rfl,hC i j c,h.now s _ rfl⟩
  | _=>exact h.elim
 | _=>exact h.elim
abbrev c0:Int->Int->Bool:=fun _ _=>true
def zkY {g:Int->Int->V}{f:Value->Value->Sem Value}(h:OpR X f (wJ g)):OpR X f (rI (fun _ _=>True) g):=fun pins s U H x y v u Q I rx ry ⟨i,j,h1,h2,_,q⟩=>h pins s U H x y v u Q I rx ry ⟨i,j,h1,h2,q⟩
abbrev jk:=opI c0 fun i j=>i-j
abbrev cMul:Int->Int->Bool:=fun i j=>(decide (-(2 ^ 64)<i)&&decide (i<2 ^ 64))||(decide (-(2 ^ 64)<j)&&decide (j<2 ^ 64))
abbrev zeV:=opI cMul fun i j=>i*j
abbrev cPow:Int->Int->Bool:=fun i j=>decide (0<=j)&&decide (j<=1000000)&&decide (i.natAbs<2 ^ 64)
abbrev jN:=opI cPow fun i j=>i ^ j.toNat
abbrev cNz:Int->Int->Bool:=fun _ j=>decide (j≠0)
def yF (i j:Int):Int:=if 0<j then i%j else i.fmod j
abbrev zH:=opI cNz yF
abbrev cDv:Int->Int->Bool:=fun _ j=>decide (j≠0)&&decide (j.natAbs<2 ^ 200)
def y6 (i j:Int):Int:=if 0<j then i/j else i.fdiv j
abbrev yr:=opI cDv y6
def zkZ (i j:Int):yF i j=i.fmod j:=by
 unfold yF;split
 ·rename_i h;rw [Int.fmod_eq_emod_of_nonneg _ (by omega)]
 ·rfl
def zk0 (i j:Int):y6 i j=i.fdiv j:=by
 unfold y6;split
 ·rename_i h;rw [Int.fdiv_eq_ediv_of_nonneg _ (by omega)]
 ·rfl
def ww:BinOk X .Sub jk:=⟨_,zkY ziC,za9 fun _ _ _=>trivial⟩
def zk1:BinOk X .Mult zeV:=⟨_,ziD,za9 fun i j h=>by simpa [cMul,CMul] using h⟩
def wL:BinOk X .Pow jN:=⟨_,ziF,za9 fun i j h=>by simp [cPow] at h;exact ⟨h.1.1,h.1.2,h.2⟩⟩
def yc:BinOk X .Mod zH:=⟨_,ziE,by
 have h:(fun i j=>V.int (i.fmod j))=fun i j=>V.int (yF i j):=by funext i j;rw [zkZ]
 rw [h];exact za9 fun i j h=>by simpa [cNz] using h⟩
def zk2 {y:Int}(h:y.natAbs<2 ^ 200):y.natAbs.log2<9000:=by
 by_cases h0:y.natAbs=0
 ·rw [h0];decide
 ·have:=(Nat.log2_lt h0).mpr h
  omega
def zk3:OpR X (binaryOp .FloorDiv) (rI (fun _ j=>j≠0/\j.natAbs<2 ^ 200) fun i j=>.int (i.fdiv j)):=L2.opI fun _ _ _ _ _ _ _ hc q=>PyProof.Rows.floordiv_int hc.1 q (.inl (PyProof.noPylong_of_log2 (zk2 hc.2)))
def yX:BinOk X .FloorDiv yr:=⟨_,zk3,by
 have h:(fun i j=>V.int (i.fdiv j))=fun i j=>V.int (y6 i j):=by funext i j;rw [zk0]
 rw [h];exact za9 fun i j h=>by simpa [cDv] using h⟩
def zba:PV->Mo PV
 | .int i,st=>.ok (.int (-i)) st
 | _,_=>.stuck
def zk4:UnOk X .USub zba:=⟨_,ziG,by
 intro ρ H st x v Q E s rx h
 cases x with
 | int i=>cases rx;exact ⟨i,rfl,Out.now (x:=PV.int (-i)) h s _ rfl⟩
 | _=>exact h.elim⟩
def zI:PV->PV->Mo PV
 | .int i,.int j,st=>.ok (.int (i+j)) st
 | .str x,.str y,st=>if x.length+y.length<=lim then .ok (.str (x++y)) st else .stuck
 | .tup xs,.tup ys,st=>if xs.length+ys.length<=lim then .ok (.tup (xs++ys)) st else .stuck
 | .ref n,.ref m,st=>yh st n fun xs=>yh st m fun ys=>if xs.length+ys.length<=lim then .ok (.ref st.length) (st++[.lst (xs++ys)]) else .stuck
 | _,_,_=>.stuck
def zk5 (K:Frag):R2:=fun x y H Q=>∃a b ys,x=.ref a/\y=.ref b/\SqT K H a []/\SqT K H b ys/\Q (.ref b) H
def zk6:OpR X (binaryOp .Add) (zk5 X.K):=by
 intro pins s U H x y v u Q I rx ry h
 obtain ⟨a,b,ys,rfl,rfl,h1,h2,q⟩:=h
 cases rx;cases ry
 obtain ⟨i1,r1,p1,_⟩:=I.tuple h1
 obtain ⟨i2,r2,p2,_⟩:=I.tuple h2
 cases r1
 exact HT.cat_tup0 p1 p2 ⟨.ref b,H,I,rfl,q⟩
def yk:BinOk X .Add zI:=⟨_,ziB.or (ziN.or (zk6.or (zju.or zjR))),by
 intro ρ H st x y v w Q E s rx ry h
 cases x with
 | int i =>
  cases y with
  | int j=>cases rx;cases ry;exact .inl ⟨i,j,rfl,rfl,Out.now (x:=PV.int (i+j)) h s _ rfl⟩
  | _=>exact h.elim
 | str i =>
  cases y with
  | str j =>
   cases rx;cases ry
   obtain ⟨c,h⟩:=Out.ifp h
   exact .inr (.inl ⟨i,j,rfl,rfl,yQ c,h.now s _ rfl⟩)
  | _=>exact h.elim
 | tup xs =>
  cases y with
  | tup ys =>
   obtain ⟨p,vs,rfl,h1,h2⟩:=rx
   obtain ⟨q,ws,rfl,h3,h4⟩:=ry
   obtain ⟨c,h⟩:=Out.ifp h
   cases xs with
   | nil =>
    cases h2
    exact .inr (.inr (.inl ⟨p,q,ws,rfl,rfl,h1,h3,h.now s _ ⟨q,ws,rfl,h3,h4⟩⟩))
   | cons x0 xs0 =>
    refine .inr (.inr (.inr (.inl ⟨p,q,vs,ws,rfl,rfl,h1,h3,?_,?_,fun e=>?_,fun _ l hl=>?_⟩)))
    ·obtain ⟨v0,r0,e0,_⟩:=h2;rw [e0];simp
    ·rw [<-h2.len,<-h4.len];exact yQ c
    ·subst e
     have:ys=[]:=by have:=h4.len;simpa using this
     subst this
     exact h.now s _ ⟨p,vs,rfl,h1,by simpa using h2⟩
    ·exact h ρ _ (Ext.new hl) (s.new hl) _ (R.tup_of (h2.append h4) hl)
  | _=>exact h.elim
 | ref n =>
  cases y with
  | ref m =>
   obtain ⟨p,rfl,hp⟩:=rx
   obtain ⟨q,rfl,hq⟩:=ry
   obtain ⟨xs,e1,h⟩:=yW h
   obtain ⟨ys,e2,h⟩:=yW h
   obtain ⟨c,h⟩:=Out.ifp h
   obtain ⟨vs,h1,h2⟩:=s.addr e1 hp
   obtain ⟨ws,h3,h4⟩:=s.addr e2 hq
   exact .inr (.inr (.inr (.inr ⟨p,q,vs,ws,rfl,rfl,h1,h3,by rw [<-h2.len,<-h4.len];exact yQ c,fun l hl=>Out.newList h s (h2.append h4) hl⟩)))
  | _=>exact h.elim
 | _=>exact h.elim⟩
def opB (g:Int->Int->Bool):PV->PV->Mo PV
 | .int i,.int j,st=>.ok (.bl (g i j)) st
 | _,_,_=>.stuck
def zeW {g:Int->Int->Bool}:OpM K mg (wJ fun i j=>.bl (g i j)) (opB g):=by
 intro ρ H st x y v w Q E s rx ry h
 cases x with
 | int i =>
  cases y with
  | int j=>cases rx;cases ry;exact ⟨i,j,rfl,rfl,Out.now (x:=PV.bl (g i j)) h s _ rfl⟩
  | _=>exact h.elim
 | _=>exact h.elim
abbrev wM:=opB fun i j=>decide (i<j)
abbrev oGt:=opB fun i j=>decide (j<i)
def zbW:CmpOk X .Lt wM:=⟨_,ziI,zeW⟩
def zeX:CmpOk X .Gt oGt:=⟨_,ziJ,zeW⟩
def isNon:PV->Bool
 | .non=>true
 | _=>false
def zcV {ρ:List Addr}{H:Hp}{xs:List PV}{vs:List V}{i:Int}{x:PV}(r:Rs K mg ρ H xs vs) (h:atI xs i=some x):∃v,atI vs i=some v/\R K mg ρ H x v:=by
 unfold atI at h ⊢
 rw [<-r.len]
 cases hj:ixN xs.length i with
 | none=>rw [hj] at h;cases h
 | some j =>
  rw [hj] at h
  obtain ⟨v,h1,h2⟩:=r.get (show xs[j]?=some x from h)
  exact ⟨v,h1,h2⟩
def optR:Option PV->Mo PV
 | some x,st=>.ok x st
 | none,_=>.stuck
def oIx:PV->PV->Mo PV
 | .tup xs,.int i,st=>optR (atI xs i) st
 | .frl xs,.int i,st=>optR (atI xs i) st
 | .str z,.int i,st=>if z.length<=lim then optR ((atI z.cps.toList i).map fun c=>.str ⟨#[c]⟩) st else .stuck
 | .ref n,.int i,st=>yh st n fun xs=>optR (atI xs i) st
 | _,_,_=>.stuck
def wN {ρ:List Addr}{H:Hp}{o:Option PV}{st:Sto}{good}(h:Out K mg ρ H (optR o st) good Er):∃x,o=some x/\Out K mg ρ H (.ok x st) good Er:=by
 cases o with
 | some x=>exact ⟨x,rfl,h⟩
 | none=>exact h.elim
def zk7:IxOk X oIx:=⟨_,zjy,by
 intro ρ H st x y v w Q E s rx ry h
 cases x with
 | tup xs =>
  cases y with
  | int i =>
   cases ry
   obtain ⟨p,vs,rfl,h1,h2⟩:=rx
   obtain ⟨x,e,h⟩:=wN h
   obtain ⟨v,h3,h4⟩:=zcV h2 e
   exact .inr (.inl ⟨p,vs,i,v,rfl,rfl,h1,h3,h.now s _ h4⟩)
  | _=>exact h.elim
 | frl xs =>
  cases y with
  | int i =>
   cases ry
   obtain ⟨p,vs,rfl,h1,h2⟩:=rx
   obtain ⟨x,e,h⟩:=wN h
   obtain ⟨v,h3,h4⟩:=zcV h2 e
   exact .inl ⟨p,vs,i,v,rfl,rfl,h1.sq,h3,h.now s _ h4⟩
  | _=>exact h.elim
 | str z =>
  cases y with
  | int i =>
   cases ry;cases rx
   obtain ⟨c,h⟩:=Out.ifp h
   obtain ⟨x,e,h⟩:=wN h
   cases hc:atI z.cps.toList i with
   | none=>rw [hc] at e;cases e
   | some k =>
    rw [hc] at e
    cases e
    exact .inr (.inr ⟨z,i,k,rfl,rfl,yQ c,hc,h.now s _ rfl⟩)
  | _=>exact h.elim
 | ref n =>
  cases y with
  | int i =>
   cases ry
   obtain ⟨p,rfl,hp⟩:=rx
   obtain ⟨xs,e1,h⟩:=yW h
   obtain ⟨vs,h1,h2⟩:=s.addr e1 hp
   obtain ⟨x,e,h⟩:=wN h
   obtain ⟨v,h3,h4⟩:=zcV h2 e
   exact .inl ⟨p,vs,i,v,rfl,rfl,SqL.of h1,h3,h.now s _ h4⟩
  | _=>exact h.elim
 | _=>exact h.elim⟩
end
mutual
def plain:PV->Bool
 | .non=>true
 | .bl _=>true
 | .int _=>true
 | .str _=>true
 | .tup xs=>plains xs
 | _=>false
def plains:List PV->Bool
 | []=>true
 | x::xs=>plain x&&plains xs
end
mutual
def dep:PV->Nat
 | .tup xs=>deps xs+1
 | _=>0
def deps:List PV->Nat
 | []=>0
 | x::xs=>max (dep x) (deps xs)
end
mutual
def eqP:PV->PV->Bool
 | .non,.non=>true
 | .bl a,.bl b=>a==b
 | .bl a,.int b=>(if a then 1 else 0)==b
 | .int a,.bl b=>a==(if b then 1 else 0)
 | .int a,.int b=>a==b
 | .str a,.str b=>a==b
 | .tup xs,.tup ys=>eqPs xs ys
 | _,_=>false
def eqPs:List PV->List PV->Bool
 | [],[]=>true
 | x::xs,y::ys=>eqP x y&&eqPs xs ys
 | _,_=>false
end
section
variable {X:Cx}{Er:XK}{K:Frag}{mg:Str->Option Value}{ρ:List Addr}{pins:List (Addr×Obj)}{U:L2.St}{H:Hp}{s:Shared}
mutual
def zeY (I:Inv X pins U H s):∀(x y:PV) {v:V},plain x=true->plain y=true->R X.K mg ρ H x v->R X.K mg ρ H y v->eqP x y=true
 | .non,y,v,_,py,rx,ry=>by
  cases rx
  cases y with
  | non=>rfl
  | tup ys=>obtain ⟨_,_,e,_⟩:=ry;cases e
  | bl _=>cases ry
  | int _=>cases ry
  | str _=>cases ry
  | _=>cases py
 | .bl a,y,v,_,py,rx,ry=>by
  cases rx
  cases y with
  | bl b=>cases ry;simp [eqP]
  | tup ys=>obtain ⟨_,_,e,_⟩:=ry;cases e
  | non=>cases ry
  | int _=>cases ry
  | str _=>cases ry
  | _=>cases py
 | .int a,y,v,_,py,rx,ry=>by
  cases rx
  cases y with
  | int b=>cases ry;simp [eqP]
  | tup ys=>obtain ⟨_,_,e,_⟩:=ry;cases e
  | non=>cases ry
  | bl _=>cases ry
  | str _=>cases ry
  | _=>cases py
 | .str a,y,v,_,py,rx,ry=>by
  cases rx
  cases y with
  | str b=>cases ry;simp [eqP]
  | tup ys=>obtain ⟨_,_,e,_⟩:=ry;cases e
  | non=>cases ry
  | bl _=>cases ry
  | int _=>cases ry
  | _=>cases py
 | .tup xs,y,v,px,py,rx,ry=>by
  obtain ⟨a,vs,rfl,h1,h2⟩:=rx
  cases y with
  | tup ys =>
   obtain ⟨b,ws,e,h3,h4⟩:=ry
   cases e
   have:=I.tuple_inj h1 h3
   subst this
   exact same_Ps I xs ys px py h2 h4
  | non=>cases ry
  | bl _=>cases ry
  | int _=>cases ry
  | str _=>cases ry
  | _=>cases py
 | .ty _,_,_,px,_,_,_=>by cases px
 | .frl _,_,_,px,_,_,_=>by cases px
 | .ref _,_,_,px,_,_,_=>by cases px
 | .fn _,_,_,px,_,_,_=>by cases px
 | .kd _ _,_,_,px,_,_,_=>by cases px
 | .exo _ _ _,_,_,px,_,_,_=>by cases px
def same_Ps (I:Inv X pins U H s):∀(xs ys:List PV) {vs:List V},plains xs=true->plains ys=true->Rs X.K mg ρ H xs vs->Rs X.K mg ρ H ys vs->eqPs xs ys=true
 | [],ys,vs,_,py,rx,ry=>by
  cases rx
  cases ys with
  | nil=>rfl
  | cons y ys=>obtain ⟨_,_,e,_⟩:=ry;cases e
 | x::xs,ys,vs,px,py,rx,ry=>by
  obtain ⟨v,r,rfl,h1,h2⟩:=rx
  cases ys with
  | nil=>cases ry
  | cons y ys =>
   obtain ⟨v',r',e,h3,h4⟩:=ry
   cases e
   simp only [plains,jK] at px py
   simp only [eqPs,jK]
   exact ⟨zeY I x y px.1 py.1 h1 h3,same_Ps I xs ys px.2 py.2 h2 h4⟩
end
def eqJp (xs ys:List PV) (j:Nat):Bool:=match xs[j]?,ys[j]? with
 | some x,some y=>eqP x y
 | _,_=>true
def zeZ:∀(xs ys:List PV),((List.range (min xs.length ys.length)).all (eqJp xs ys)&&xs.length==ys.length)=eqPs xs ys
 | [],[]=>rfl
 | [],y::ys=>by simp [eqPs]
 | x::xs,[]=>by simp [eqPs]
 | x::xs,y::ys=>by
  have ih:=zeZ xs ys
  have e1:min (x::xs).length (y::ys).length=min xs.length ys.length+1:=by simp only [jY];omega
  have e2:((x::xs).length==(y::ys).length)=(xs.length==ys.length):=by
   rw [Bool.eq_iff_iff];simp
  rw [e1,e2,List.range_succ_eq_map,List.all_cons,List.all_map]
  have e3:(eqJp (x::xs) (y::ys)∘Nat.succ)=eqJp xs ys:=by
   funext j
   simp [eqJp]
  rw [e3,Bool.and_assoc,ih]
  simp [eqPs,eqJp]
def zcX:∀{xs:List PV}{i:Nat}{x:PV},xs[i]?=some x->dep x<=deps xs
 | [],_,_,e=>by simp at e
 | y::xs,0,x,e=>by simp at e;subst e;simp only [deps];omega
 | y::xs,i+1,x,e=>by
  simp at e
  have:=zcX e
  simp only [deps];omega
def zbX:∀{xs:List PV}{i:Nat}{x:PV},plains xs=true->xs[i]?=some x->plain x=true
 | [],_,_,_,e=>by simp at e
 | y::xs,0,x,p,e=>by simp at e;subst e;simp only [plains,jK] at p;exact p.1
 | y::xs,i+1,x,p,e=>by
  simp at e
  simp only [plains,jK] at p
  exact zbX p.2 e
def zbY (A:Around):A.in1.units=A.units+1:=rfl
def zcY (I:Inv X pins U H s):∀(n:Nat) (x y:PV) {v w:V}{u u':Value}(A:Around),dep x<=n->plain x=true->plain y=true->R X.K mg ρ H x v->R X.K mg ρ H y w->RelV v u->RelV w u'->A.units+n<cLine ->
  SeqAt.EqAt A s u u' (eqP x y)/\SeqAt.RcAt A s u u' (eqP x y)/\SeqAt.RcNeAt A s u u' (!eqP x y):=by
 intro n
 induction n with
 | zero =>
  intro x y v w u u' A hd px py rx ry rv rw hu
  cases x with
  | tup xs=>simp only [dep] at hd;omega
  | non =>
   cases rx;cases rv
   cases y with
   | non=>cases ry;cases rw;exact ⟨.same _,.none_none,.none_none⟩
   | bl b=>cases ry;cases rw;exact ⟨.none_bool b,.none_bool b,.none_bool b⟩
   | int b=>cases ry;obtain ⟨t,rfl⟩:=rw;exact ⟨.none_int b t,.none_int b t,.none_int b t⟩
   | str b=>cases ry;obtain ⟨t,rfl⟩:=rw;exact ⟨.none_str b t,.none_str b t,.none_str b t⟩
   | tup ys =>
    obtain ⟨p,ws,rfl,h1,h2⟩:=ry
    cases rw
    obtain ⟨its,_,pl,_⟩:=I.tuple h1
    exact ⟨.none_tuple pl (by omega),.none_tuple pl (by omega),.none_tuple pl (by omega)⟩
   | _=>cases py
  | bl a =>
   cases rx;cases rv
   cases y with
   | non=>cases ry;cases rw;exact ⟨.bool_none a,.bool_none a,.bool_none a⟩
   | bl b=>cases ry;cases rw;exact ⟨.bool_bool a b,.bool_bool a b,.bool_bool a b⟩
   | int b=>cases ry;obtain ⟨t,rfl⟩:=rw;exact ⟨.bool_int a b t,.bool_int a b t,.bool_int a b t⟩
   | str b=>cases ry;obtain ⟨t,rfl⟩:=rw;exact ⟨.bool_str a b t,.bool_str a b t,.bool_str a b t⟩
   | tup ys =>
    obtain ⟨p,ws,rfl,h1,h2⟩:=ry
    cases rw
    obtain ⟨its,_,pl,_⟩:=I.tuple h1
    exact ⟨.bool_tuple a pl (by omega),.bool_tuple a pl (by omega),.bool_tuple a pl (by omega)⟩
   | _=>cases py
  | int a =>
   cases rx;obtain ⟨t0,rfl⟩:=rv
   cases y with
   | non=>cases ry;cases rw;exact ⟨.int_none a t0,.int_none a t0,.int_none a t0⟩
   | bl b=>cases ry;cases rw;exact ⟨.int_bool a t0 b,.int_bool a t0 b,.int_bool a t0 b⟩
   | int b=>cases ry;obtain ⟨t,rfl⟩:=rw;exact ⟨.int_int a t0 b t,.int_int a t0 b t,.int_int a t0 b t⟩
   | str b=>cases ry;obtain ⟨t,rfl⟩:=rw;exact ⟨.int_str a t0 b t,.int_str a t0 b t,.int_str a t0 b t⟩
   | tup ys =>
    obtain ⟨p,ws,rfl,h1,h2⟩:=ry
    cases rw
    obtain ⟨its,_,pl,_⟩:=I.tuple h1
    exact ⟨.int_tuple a t0 pl (by omega),.int_tuple a t0 pl (by omega),.int_tuple a t0 pl (by omega)⟩
   | _=>cases py
  | str a =>
   cases rx;obtain ⟨t0,rfl⟩:=rv
   cases y with
   | non=>cases ry;cases rw;exact ⟨.str_none a t0,.str_none a t0,.str_none a t0⟩
   | bl b=>cases ry;cases rw;exact ⟨.str_bool a t0 b,.str_bool a t0 b,.str_bool a t0 b⟩
   | int b=>cases ry;obtain ⟨t,rfl⟩:=rw;exact ⟨.str_int a t0 b t,.str_int a t0 b t,.str_int a t0 b t⟩
   | str b=>cases ry;obtain ⟨t,rfl⟩:=rw;exact ⟨.str_str a t0 b t,.str_str a t0 b t,.str_str a t0 b t⟩
   | tup ys =>
    obtain ⟨p,ws,rfl,h1,h2⟩:=ry
    cases rw
    obtain ⟨its,_,pl,_⟩:=I.tuple h1
    exact ⟨.str_tuple a t0 pl (by omega),.str_tuple a t0 pl (by omega),.str_tuple a t0 pl (by omega)⟩
   | _=>cases py
  | _=>cases px
 | succ n ih =>
  intro x y v w u u' A hd px py rx ry rv rw hu
  cases x with
  | tup xs =>
   obtain ⟨a,vs,rfl,h1,h2⟩:=id rx
   cases rv
   obtain ⟨its,r1,p1,_⟩:=I.tuple h1
   cases y with
   | non=>cases ry;cases rw;exact ⟨.tuple_none p1 (by omega),.tuple_none p1 (by omega),.tuple_none p1 (by omega)⟩
   | bl b=>cases ry;cases rw;exact ⟨.tuple_bool b p1 (by omega),.tuple_bool b p1 (by omega),.tuple_bool b p1 (by omega)⟩
   | int b=>cases ry;obtain ⟨t,rfl⟩:=rw;exact ⟨.tuple_int b t p1 (by omega),.tuple_int b t p1 (by omega),.tuple_int b t p1 (by omega)⟩
   | str b=>cases ry;obtain ⟨t,rfl⟩:=rw;exact ⟨.tuple_str b t p1 (by omega),.tuple_str b t p1 (by omega),.tuple_str b t p1 (by omega)⟩
   | tup ys =>
    obtain ⟨b,ws,rfl,h3,h4⟩:=id ry
    cases rw
    obtain ⟨its2,r2,p2,_⟩:=I.tuple h3
    have l1:=h2.len
    have l2:=h4.len
    have l3:=r1.length
    have l4:=r2.length
    have item:∀j (g1:j<its.toArray.size) (g2:j<its2.toArray.size),SeqAt.EqAt A.in1 s its.toArray[j] its2.toArray[j] (eqJp xs ys j):=fun j g1 g2=>by
     have k1:j<xs.length:=by rw [l1,l3];simpa using g1
     have k2:j<ys.length:=by rw [l2,l4];simpa using g2
     obtain ⟨v1,e1,rr1⟩:=h2.get (yn k1)
     obtain ⟨v2,e2,rr2⟩:=h4.get (yn k2)
     obtain ⟨u1,f1,ru1⟩:=r1.get e1
     obtain ⟨u2,f2,ru2⟩:=r2.get e2
     have w1:its.toArray[j]=u1:=by
      obtain ⟨_,z⟩:=yE.mp f1
      simpa using z
     have w2:its2.toArray[j]=u2:=by
      obtain ⟨_,z⟩:=yE.mp f2
      simpa using z
     have ej:eqJp xs ys j=eqP xs[j] ys[j]:=by
      unfold eqJp
      rw [yn k1,yn k2]
     rw [w1,w2,ej]
     have hdj:=zcX (yn k1)
     simp only [dep] at hd
     exact (ih xs[j] ys[j] A.in1 (by omega) (zbX px (yn k1)) (zbX py (yn k2)) rr1 rr2 ru1 ru2 (by rw [zbY];omega)).1
    have eall:((List.range (min its.toArray.size its2.toArray.size)).all (eqJp xs ys)&&its.toArray.size==its2.toArray.size)=eqP (.tup xs) (.tup ys):=by
     have e:=zeZ xs ys
     rw [l1,l2,l3,l4] at e
     simpa [eqP] using e
    have rc:SeqAt.RcAt A s (.ref a) (.ref b) (eqP (.tup xs) (.tup ys)):=by
     rw [<-eall]
     exact SeqAt.RcAt.tuples (show s.heap.IsTuple a its.toArray from p1) (show s.heap.IsTuple b its2.toArray from p2) (by omega) item
    refine ⟨?_,rc,?_⟩
    ·by_cases hab:a=b
     ·subst hab
      rw [zeY I (.tup xs) (.tup ys) px py rx ry]
      exact .same _
     ·exact .of_refs hab rc
    ·rw [<-eall]
     exact SeqAt.RcNeAt.tuples (show s.heap.IsTuple a its.toArray from p1) (show s.heap.IsTuple b its2.toArray from p2) (by omega) item
   | _=>cases py
  | non=>exact ih _ y A (ju _) px py rx ry rv rw (by omega)
  | bl a=>exact ih _ y A (ju _) px py rx ry rv rw (by omega)
  | int a=>exact ih _ y A (ju _) px py rx ry rv rw (by omega)
  | str a=>exact ih _ y A (ju _) px py rx ry rv rw (by omega)
  | _=>cases px
def zS:PV->PV->Mo PV:=fun x y st=>if plain x=true/\plain y=true/\dep x<=150 then .ok (.bl (eqP x y)) st else .stuck
def wx:PV->PV->Mo PV:=fun x y st=>if plain x=true/\plain y=true/\dep x<=150 then .ok (.bl (!eqP x y)) st else .stuck
def ze0 (K:Frag) (mg:Str->Option Value) (f:Bool->Bool):R2:=fun v w H Q=>∃ρ x y,plain x=true/\plain y=true/\dep x<=150/\R K mg ρ H x v/\R K mg ρ H y w/\Q (.bl (f (eqP x y))) H
def zk8 (hu:X.A.units+200<cLine):OpR X (compareOp .Eq) (ze0 X.K X.mg id):=by
 intro pins s U H x y v u Q I rx ry h
 obtain ⟨ρ,a,b,pa,pb,hd,ra,rb,q⟩:=h
 exact PySem.EqBoolInt.of_rc (zcY I 150 a b X.A hd pa pb ra rb rx ry (by omega)).2.1 ⟨.bl _,H,I,rfl,q⟩
def zk9 (hu:X.A.units+200<cLine):OpR X (compareOp .NotEq) (ze0 X.K X.mg not):=by
 intro pins s U H x y v u Q I rx ry h
 obtain ⟨ρ,a,b,pa,pb,hd,ra,rb,q⟩:=h
 exact PySem.EqBoolInt.of_rcne (zcY I 150 a b X.A hd pa pb ra rb rx ry (by omega)).2.2 ⟨.bl _,H,I,rfl,q⟩
def yy (hu:X.A.units+200<cLine):CmpOk X .Eq zS:=⟨_,zk8 hu,fun ρ H st x y v w Q E s rx ry h=>by
 obtain ⟨⟨p1,p2,p3⟩,h⟩:=Out.ifp h
 exact ⟨ρ,x,y,p1,p2,p3,rx,ry,h.now s _ rfl⟩⟩
def zcZ (hu:X.A.units+200<cLine):CmpOk X .NotEq wx:=⟨_,zk9 hu,fun ρ H st x y v w Q E s rx ry h=>by
 obtain ⟨⟨p1,p2,p3⟩,h⟩:=Out.ifp h
 exact ⟨ρ,x,y,p1,p2,p3,rx,ry,h.now s _ rfl⟩⟩
end
section
variable {X:Cx}{Er:XK}{K:Frag}{mg:Str->Option Value}{a b c e:Expr}{es:List Expr}{pos:Pos}{fa fb fc:ze->Mo PV}{fs:ze->Mo (List PV)}
def tMO (K:Frag) (mg:Str->Option Value) (Er:XK) (f:ze->Mo (Option Int)):TO:=fun U H Q=>∃env st ρ,EnvR K mg ρ H env U/\StR K mg ρ H st/\Out K mg ρ H (f env st) (fun _ H' o _=>Q o H') Er
def MO (X:Cx) (Er:XK) (e:Option Expr) (f:ze->Mo (Option Int)):Prop:=PO X e (tMO X.K X.mg Er f)
def pNone:ze->Mo (Option Int):=fun _ st=>.ok none st
def asI:PV->Mo (Option Int)
 | .int i,st=>.ok (some i) st
 | _,_=>.stuck
def pSome (f:ze->Mo PV):ze->Mo (Option Int):=fun env st=>(f env st).bind asI
def PO.weak {o:Option Expr}{t t':TO}(h:PO X o t) (w:∀U H Q,t' U H Q->t U H Q):PO X o t':=fun pins s U H Q I q=>h pins s U H Q I (w U H Q q)
def zbb:MO X Er none pNone:=PO.weak zjn fun U H Q ⟨env,st,ρ,re,rs,h⟩=>h.now rs
def zaD (h:ME X Er e fa):MO X Er (some e) (pSome fa):=PO.weak (zjo h) fun U H Q ⟨env,st,ρ,re,rs,h⟩=>⟨env,st,ρ,re,rs,h.then fun af H1 x st1 e1 s1 h1 v rv=>by
 cases x with
 | int i=>cases rv;exact ⟨i,rfl,Out.now (x:=some i) h1 s1⟩
 | _=>exact h1.elim⟩
def cutP (xs:List PV) (lo hi:Option Int):List PV:=(xs.drop (HT.sIx xs.length 0 lo)).take (HT.sIx xs.length xs.length hi-HT.sIx xs.length 0 lo)
def oSl:PV->Option Int->Option Int->Mo PV
 | .tup xs,lo,hi,st=>.ok (.tup (cutP xs lo hi)) st
 | .frl xs,lo,hi,st=>.ok (.ref st.length) (st++[.lst (cutP xs lo hi)])
 | .ref n,lo,hi,st=>yh st n fun xs=>.ok (.ref st.length) (st++[.lst (cutP xs lo hi)])
 | .str z,lo,hi,st=>if z.length<=lim then .ok (.str (Txt.slice z lo hi)) st else .stuck
 | _,_,_,_=>.stuck
def Rs.cut {ρ:List Addr}{H:Hp}{xs:List PV}{vs:List V}(r:Rs K mg ρ H xs vs) (lo hi:Option Int):Rs K mg ρ H (cutP xs lo hi) (cutV vs lo hi):=by
 unfold cutP cutV
 rw [r.len]
 exact (r.drop _).take _
def zlb (K:Frag):V->Option Int->Option Int->Hp->VK->Prop:=fun x lo hi H Q=>∃a xs,x=.ref a/\SqT K H a xs/\(HT.sIx xs.length 0 lo=0/\HT.sIx xs.length xs.length hi=xs.length)/\Q (.ref a) H
def zlc:SlR X (zlb X.K):=by
 intro pins s U H x v vl vu lo hi sl Q I rx hs pl pu h
 obtain ⟨a,xs,rfl,hx,hw,q⟩:=h
 cases rx
 obtain ⟨its,r,ht,hz⟩:=I.tuple hx
 have hlen:its.toArray.size=xs.length:=by rw [yx];exact r.length.symm
 refine ⟨"tuple", _,PyProof.Rows.slot_tuple_getitem.lookup,ht.typeIs,?_⟩
 exact HT.getItem_tuple_all ht hs pl pu (by rw [hlen];exact hw) ⟨.ref a,H,I,rfl,q⟩ (by rw [hlen];exact hz)
def jE (fa:ze->Mo PV) (fl fu:ze->Mo (Option Int)):ze->Mo PV:=fun env st=>(fa env st).bind fun x st1=>(fl env st1).bind fun l st2=>(fu env st2).bind fun u st3=>oSl x l u st3
def zbc {lo hi:Option Expr}{fl fu:ze->Mo (Option Int)}{p2:Pos}(ha:ME X Er a fa) (hl:MO X Er lo fl) (hu:MO X Er hi fu):ME X Er (.Subscript a (.Slice lo hi none p2) pos) (jE fa fl fu) :=
 PE.weak (zjq (zjs.or (zlc.or (zjF.or zj1))) ha hl hu) fun U H Q ⟨env,st,ρ,re,rs,h⟩=>⟨env,st,ρ,re,rs,h.then fun af H1 x st1 e1 s1 h1 v rv=>⟨env,st1,af,re.ext e1,s1,h1.then fun ao H2 l st2 e2 s2 h2 =>
  ⟨env,st2,ao,(re.ext e1).ext e2,s2,h2.then fun am H3 u st3 e3 s3 h3=>by
  have rv:=R.ext e3 x (R.ext e2 x rv)
  cases x with
  | tup xs =>
   obtain ⟨p,vs,rfl,k1,k2⟩:=rv
   by_cases hw:HT.sIx vs.length 0 l=0/\HT.sIx vs.length vs.length u=vs.length
   ·refine .inr (.inl ⟨p,vs,rfl,k1,hw,Out.now (x:=PV.tup (cutP xs l u)) h3 s3 _ ⟨p,vs,rfl,k1,?_⟩⟩)
    have:cutP xs l u=xs:=by
     unfold cutP
     rw [k2.len,hw.1,hw.2]
     simp [<-k2.len]
    rw [this];exact k2
   ·exact .inl ⟨p,vs,rfl,k1,hw,fun q hq=>h3 am _ (Ext.new hq) (s3.new hq) _ (R.tup_of (k2.cut l u) hq)⟩
  | frl xs =>
   obtain ⟨p,vs,rfl,k1,k2⟩:=rv
   exact .inr (.inr (.inl ⟨p,vs,rfl,k1.sq,fun q hq=>Out.newList (xs:=cutP xs l u) h3 s3 (k2.cut l u) hq⟩))
  | ref n =>
   obtain ⟨p,rfl,hp⟩:=rv
   obtain ⟨xs,k0,h3⟩:=yW h3
   obtain ⟨vs,k1,k2⟩:=s3.addr k0 hp
   exact .inr (.inr (.inl ⟨p,vs,rfl,SqL.of k1,fun q hq=>Out.newList (xs:=cutP xs l u) h3 s3 (k2.cut l u) hq⟩))
  | str z =>
   cases rv
   obtain ⟨k0,h3⟩:=Out.ifp h3
   exact .inr (.inr (.inr ⟨z,rfl,yQ k0,h3.now s3 _ rfl⟩))
  | _=>exact h3.elim⟩⟩⟩
def CallM (K:Frag) (mg:Str->Option Value) (r:List V->Hp->VK->Prop) (op:List PV->Mo PV):Prop:=∀ρ H st xs vs (Q:VK) (E:XK),StR K mg ρ H st->Rs K mg ρ H xs vs->Out K mg ρ H (op xs st) (gV K mg Q) E->r vs H Q
def BltOk (X:Cx) (f:Value) (op:List PV->Mo PV):Prop:=∃r,CallR X f r/\CallM X.K X.mg r op
def zu (op:List PV->Mo PV) (fs:ze->Mo (List PV)):ze->Mo PV:=fun env st=>(fs env st).bind op
def wj {x:Str} {id:String} {op:List PV->Mo PV} {p:Pos} (h:BltOk X (.builtin id) op) (hm:X.mg x=none) (hv:bootBuiltins x=some (.builtin id)) (ha:MA X Er (e::es) fs) (hg:Gl X x:=by rfl) (hn:x ≠ "__name__" := by decide) (hdb:(x==("__debug__" : Str))=false:=by decide)
  (he:starEach (e::es) X.env=(false,eval e X.env)::starEach es X.env:=by rfl) (hpl:(backTo pos (starEach es X.env)).any (·.1)=false:=by rfl):ME X Er (.Call (.Name x p) (e::es) [] pos) (zu op fs):=by
 obtain ⟨r,h1,h2⟩:=h
 exact PE.weak (zjf h1 hg hm hv ha hn hdb he hpl) fun U H Q ⟨env,st,ρ,re,rs,h⟩=>⟨env,st,ρ,re,rs,h.then fun af H1 xs st1 e1 s1 k vs rv=>h2 af H1 st1 xs vs Q Er s1 rv k⟩
def jO {x:Str} {T:String} {op:List PV->Mo PV} {p:Pos} (h:BltOk X (.type T) op) (hm:X.mg x=none) (hv:bootBuiltins x=some (.type T)) (ha:MA X Er (e::es) fs) (hg:Gl X x:=by rfl) (hn:x ≠ "__name__" := by decide) (hdb:(x==("__debug__" : Str))=false:=by decide)
  (he:starEach (e::es) X.env=(false,eval e X.env)::starEach es X.env:=by rfl) (hpl:(backTo pos (starEach es X.env)).any (·.1)=false:=by rfl):ME X Er (.Call (.Name x p) (e::es) [] pos) (zu op fs):=by
 obtain ⟨r,h1,h2⟩:=h
 exact PE.weak (zjg h1 hg hm hv ha hn hdb he hpl) fun U H Q ⟨env,st,ρ,re,rs,h⟩=>⟨env,st,ρ,re,rs,h.then fun af H1 xs st1 e1 s1 k vs rv=>h2 af H1 st1 xs vs Q Er s1 rv k⟩
def zld {x:Str} {n:String} (hm:X.mg x=none) (hv:bootBuiltins x=some (.type n)) (hg:Gl X x:=by rfl) (hn:x ≠ "__name__" := by decide) (hd:(x==("__debug__" : Str))=false:=by decide):ME X Er (.Name x pos) (mC (.ty n)) :=
 zaC (zhR (v:=.ty n) hg hm hv rfl hn hd) fun _ _=>rfl
def Rs.one {ρ:List Addr}{H:Hp}{x:PV}{vs:List V}(r:Rs K mg ρ H [x] vs):∃v,vs=[v]/\R K mg ρ H x v:=by
 obtain ⟨v,r',rfl,h,h'⟩:=r
 cases h'
 exact ⟨v,rfl,h⟩
def Rs.two {ρ:List Addr}{H:Hp}{x y:PV}{vs:List V}(r:Rs K mg ρ H [x,y] vs):∃v w,vs=[v,w]/\R K mg ρ H x v/\R K mg ρ H y w:=by
 obtain ⟨v,r',rfl,h,h'⟩:=r
 obtain ⟨w,rfl,h2⟩:=Rs.one h'
 exact ⟨v,w,rfl,h,h2⟩
def zbZ:List PV->Mo PV
 | [.tup xs],st=>.ok (.int xs.length) st
 | [.frl xs],st=>.ok (.int xs.length) st
 | [.str z],st=>if z.length<=lim then .ok (.int z.length) st else .stuck
 | [.ref n],st=>yh st n fun xs=>.ok (.int xs.length) st
 | _,_=>.stuck
def zle:BltOk X (.builtin "len") zbZ:=⟨_,ziQ,fun ρ H st xs vs Q E s r h=>by
 match xs,r,h with
 | [.tup ys],r,h =>
  obtain ⟨v,rfl,p,ws,rfl,h1,h2⟩:=Rs.one r
  exact ⟨_,ws.length,rfl,.inr ⟨ws,h1,rfl⟩,by rw [<-h2.len];exact Out.now (x:=PV.int ys.length) h s _ rfl⟩
 | [.frl ys],r,h =>
  obtain ⟨v,rfl,p,ws,rfl,h1,h2⟩:=Rs.one r
  exact ⟨_,ws.length,rfl,.inl ⟨ws,h1.sq,rfl⟩,by rw [<-h2.len];exact Out.now (x:=PV.int ys.length) h s _ rfl⟩
 | [.str z],r,h =>
  obtain ⟨v,rfl,rfl⟩:=Rs.one r
  obtain ⟨c,h⟩:=Out.ifp h
  exact ⟨_,z.length,rfl,⟨yQ c,rfl⟩,h.now s _ rfl⟩
 | [.ref n],r,h =>
  obtain ⟨v,rfl,p,rfl,hp⟩:=Rs.one r
  obtain ⟨ys,e,h⟩:=yW h
  obtain ⟨ws,h1,h2⟩:=s.addr e hp
  exact ⟨_,ws.length,rfl,.inl ⟨ws,SqL.of h1,rfl⟩,by rw [<-h2.len];exact h.now s _ rfl⟩
 | [],r,h=>exact h.elim
 | [.non],r,h=>exact h.elim
 | [.bl _],r,h=>exact h.elim
 | [.int _],r,h=>exact h.elim
 | [.ty _],r,h=>exact h.elim
 | [.fn _],r,h=>exact h.elim
 | [.kd _ _],r,h=>exact h.elim
 | [.exo _ _ _],r,h=>exact h.elim
 | x::y::r',r,h=>cases x<;>exact h.elim⟩
def zbd:List PV->Mo PV
 | [.tup xs],st=>.ok (.ref st.length) (st++[.lst xs])
 | [.frl xs],st=>.ok (.ref st.length) (st++[.lst xs])
 | [.ref n],st=>yh st n fun xs=>.ok (.ref st.length) (st++[.lst xs])
 | _,_=>.stuck
def zlf:BltOk X (.type "list") zbd:=⟨_,zjH,fun ρ H st xs vs Q E s r h=>by
 match xs,r,h with
 | [.tup ys],r,h =>
  obtain ⟨v,rfl,p,ws,rfl,h1,h2⟩:=Rs.one r
  exact ⟨p,ws,rfl,.inr h1,fun l hl=>Out.newList (xs:=ys) h s h2 hl⟩
 | [.frl ys],r,h =>
  obtain ⟨v,rfl,p,ws,rfl,h1,h2⟩:=Rs.one r
  exact ⟨p,ws,rfl,.inl h1.sq,fun l hl=>Out.newList (xs:=ys) h s h2 hl⟩
 | [.ref n],r,h =>
  obtain ⟨v,rfl,p,rfl,hp⟩:=Rs.one r
  obtain ⟨ys,e,h⟩:=yW h
  obtain ⟨ws,h1,h2⟩:=s.addr e hp
  exact ⟨p,ws,rfl,.inl (SqL.of h1),fun l hl=>Out.newList (xs:=ys) h s h2 hl⟩
 | [],r,h=>exact h.elim
 | [.non],r,h=>exact h.elim
 | [.bl _],r,h=>exact h.elim
 | [.int _],r,h=>exact h.elim
 | [.str _],r,h=>exact h.elim
 | [.ty _],r,h=>exact h.elim
 | [.fn _],r,h=>exact h.elim
 | [.kd _ _],r,h=>exact h.elim
 | [.exo _ _ _],r,h=>exact h.elim
 | x::y::r',r,h=>cases x<;>exact h.elim⟩
def js:List PV->Mo PV
 | [.tup xs],st=>.ok (.tup xs) st
 | [.frl xs],st=>.ok (.tup xs) st
 | [.ref n],st=>yh st n fun xs=>.ok (.tup xs) st
 | _,_=>.stuck
def wO:BltOk X (.type "tuple") js:=⟨_,zjI,fun ρ H st xs vs Q E s r h=>by
 match xs,r,h with
 | [.tup ys],r,h =>
  obtain ⟨v,rfl,p,ws,rfl,h1,h2⟩:=Rs.one r
  exact ⟨p,ws,rfl,.inr ⟨h1,Out.now (x:=PV.tup ys) h s _ ⟨p,ws,rfl,h1,h2⟩⟩⟩
 | [.frl ys],r,h =>
  obtain ⟨v,rfl,p,ws,rfl,h1,h2⟩:=Rs.one r
  exact ⟨p,ws,rfl,.inl ⟨h1.sq,fun l hl=>h ρ _ (Ext.new hl) (s.new hl) _ (R.tup_of h2 hl)⟩⟩
 | [.ref n],r,h =>
  obtain ⟨v,rfl,p,rfl,hp⟩:=Rs.one r
  obtain ⟨ys,e,h⟩:=yW h
  obtain ⟨ws,h1,h2⟩:=s.addr e hp
  exact ⟨p,ws,rfl,.inl ⟨SqL.of h1,fun l hl=>h ρ _ (Ext.new hl) (s.new hl) _ (R.tup_of h2 hl)⟩⟩
 | [],r,h=>exact h.elim
 | [.non],r,h=>exact h.elim
 | [.bl _],r,h=>exact h.elim
 | [.int _],r,h=>exact h.elim
 | [.str _],r,h=>exact h.elim
 | [.ty _],r,h=>exact h.elim
 | [.fn _],r,h=>exact h.elim
 | [.kd _ _],r,h=>exact h.elim
 | [.exo _ _ _],r,h=>exact h.elim
 | x::y::r',r,h=>cases x<;>exact h.elim⟩
def tyb (T n:String):Option Bool :=
 if T = "int" then (if n = "int" then some true else if n = "bool" \/ n = "str" \/ n = "tuple" \/ n = "dict" \/ n = "list" then some false else none)
 else if T = "bool" then (if n = "int" \/ n = "bool" then some true else if n = "str" \/ n = "tuple" \/ n = "dict" \/ n = "list" then some false else none)
 else if T = "str" then (if n = "str" then some true else if n = "int" \/ n = "bool" \/ n = "tuple" \/ n = "dict" \/ n = "list" then some false else none)
 else if T = "tuple" then (if n = "tuple" then some true else if n = "int" \/ n = "bool" \/ n = "str" \/ n = "dict" \/ n = "list" then some false else none)
 else if T = "list" then (if n = "list" then some true else if n = "int" \/ n = "bool" \/ n = "str" \/ n = "dict" \/ n = "tuple" then some false else none)
 else if T = "dict" then (if n = "dict" then some true else if n = "int" \/ n = "bool" \/ n = "str" \/ n = "list" \/ n = "tuple" then some false else none)
 else if T = "NoneType" then (if n = "int" \/ n = "bool" \/ n = "str" \/ n = "list" \/ n = "tuple" \/ n = "dict" then some false else none)
 else none
def zlg (K:Frag) {T n:String}{b:Bool}(h:tyb T n=some b):PySem.W.kitOne K (.type T) (.type n)=some b:=by
 unfold tyb at h
 split at h
 ·rename_i e;subst e
  split at h
  ·rename_i e;subst e;cases h;first|rfl|kernel_rfl
  ·split at h
   ·rename_i e;cases h;rcases e with e|e|e|e|e<;>subst e<;>first|rfl|kernel_rfl
   ·cases h
 ·split at h
  ·rename_i e;subst e
   split at h
   ·rename_i e;cases h;rcases e with e|e<;>subst e<;>first|rfl|kernel_rfl
   ·split at h
    ·rename_i e;cases h;rcases e with e|e|e|e<;>subst e<;>first|rfl|kernel_rfl
    ·cases h
  ·split at h
   ·rename_i e;subst e
    split at h
    ·rename_i e;subst e;cases h;first|rfl|kernel_rfl
    ·split at h
     ·rename_i e;cases h;rcases e with e|e|e|e|e<;>subst e<;>first|rfl|kernel_rfl
     ·cases h
   ·split at h
    ·rename_i e;subst e
     split at h
     ·rename_i e;subst e;cases h;first|rfl|kernel_rfl
     ·split at h
      ·rename_i e;cases h;rcases e with e|e|e|e|e<;>subst e<;>first|rfl|kernel_rfl
      ·cases h
    ·split at h
     ·rename_i e;subst e
      split at h
      ·rename_i e;subst e;cases h;first|rfl|kernel_rfl
      ·split at h
       ·rename_i e;cases h;rcases e with e|e|e|e|e<;>subst e<;>first|rfl|kernel_rfl
       ·cases h
     ·split at h
      ·rename_i e;subst e
       split at h
       ·rename_i e;subst e;cases h;first|rfl|kernel_rfl
       ·split at h
        ·rename_i e;cases h;rcases e with e|e|e|e|e<;>subst e<;>first|rfl|kernel_rfl
        ·cases h
      ·split at h
       ·rename_i e;subst e
        split at h
        ·rename_i e;cases h;rcases e with e|e|e|e|e|e<;>subst e<;>first|rfl|kernel_rfl
        ·cases h
       ·cases h
end
def spM (K:Frag) (mg:Str->Option Value) (m:List PV->Mo PV):Sp:=fun vs H Q E=>∃xs st ρ,Rs K mg ρ H xs vs/\StR K mg ρ H st/\Out K mg ρ H (m xs st) (gV K mg Q) E
section
variable (P:Program) (w:World) (K:Frag) (mg:Str->Option Value) (base:Heap)
def FOk (x:Str) (k:Nat) (m:List PV->Mo PV):Prop:=∃f fd ps,mg x=some (.ref f)/\keepIn K (.ref f)=true/\Binds K fd ps []/\FnOk P w K mg base (CXe P w) k f fd ps (spM K mg m)
def MOk (c name:Str) (k:Nat) (m:List PV->Mo PV):Prop:=∃C f fd ps,mg c=some (.ref C)/\Cls K C/\Meth K C name f/\Binds K fd ps []/\FnOk P w K mg base (CXe P w) k f fd ps (spM K mg m)
def NOk (c:Str) (k:Nat) (m:List PV->Mo PV):Prop:=∃C f fd ps,mg c=some (.ref C)/\Mk K C f/\Binds K fd ps []/\FnOk P w K mg base (CXe P w) k f fd ps (spM K mg m)
def XOk (c fld:Str):Prop:=∃C f fd,mg c=some (.ref C)/\ExMk K C f/\FnOk P w K mg base (CXe P w) 1 f fd ["self", fld] (zeP C fld)/\Binds K fd ["self", fld] []
end
section
variable {X:Cx}{Er:XK}{K:Frag}{mg:Str->Option Value}{a b c e o:Expr}{es:List Expr}{pos p apos:Pos}{fa fb fc fo:ze->Mo PV}{fs:ze->Mo (List PV)}{k:Nat}{x:Str}{m:List PV->Mo PV}
def zP (C:FOk X.prog X.w X.K X.mg X.base x k m) (hr:Room k X.A) (ht:j1 X Er) (ha:MA X Er (e::es) fs) (hg:Gl X x:=by rfl) (hdb:(x==("__debug__" : Str))=false:=by decide)
  (he:starEach (e::es) X.env=(false,eval e X.env)::starEach es X.env:=by rfl) (hpl:(backTo pos (starEach es X.env)).any (·.1)=false:=by rfl):ME X Er (.Call (.Name x p) (e::es) [] pos) (zu m fs):=by
 obtain ⟨f,fd,ps,hm,hk,hb,F⟩:=C
 exact PE.weak (zja F hr hg hm hk hb .nil (zbP ht) ha hdb he hpl) fun U H Q ⟨env,st,ρ,re,rs,h⟩=>⟨env,st,ρ,re,rs,h.then fun af H1 xs st1 e1 s1 k vs rv=>by
  show spM X.K X.mg m (vs++[]) H1 Q Er
  rw [List.append_nil]
  exact ⟨xs,st1,af,rv,s1,k⟩⟩
def zaE {ρ:List Addr}{H:Hp}{f:Str}:∀{ks:List Str}{xs:List PV}{vs:List V}{x:PV},Rs K mg ρ H xs vs->(ks.zip xs).lookup f=some x->∃v,(ks.zip vs).lookup f=some v/\R K mg ρ H x v
 | [],_,_,_,_,h=>by simp at h
 | k::ks,[],_,_,_,h=>by simp at h
 | k::ks,y::xs,_,x,r,h=>by
  obtain ⟨v,r',rfl,h1,h2⟩:=r
  simp only [List.zip_cons_cons,jx] at h ⊢
  split at h
  ·cases h;exact ⟨v,rfl,h1⟩
  ·exact zaE h2 h
def zc0 {f:Str}{β:Type}:∀{ks:List Str}{vs:List β},f∉ks->(ks.zip vs).lookup f=none
 | [],_,_=>by simp
 | k::ks,[],_=>by simp
 | k::ks,v::vs,h=>by
  simp only [yD,not_or] at h
  simp only [List.zip_cons_cons,jx]
  have:(f==k)=false:=by simpa using h.1
  rw [this]
  exact zc0 h.2
def zlh (X:Cx) (name:Str) (k:Nat) (E:XK) (ta:TE) (t:TA):TE:=fun U H Q=>ta U H fun x H1=>∃a C dx fs f fd ps sp,x=.ref a/\H1 a=some (.ins C dx fs)/\fs.lookup name=none/\Cls X.K C/\Meth X.K C name f/\Binds X.K fd ps []/\FnOk X.prog X.w X.K X.mg X.base (CXe X.prog X.w) k f fd ps sp /\
 t U H1 fun vs H2=>sp (x::vs) H2 Q E
def zli {pl:Sem Bool}{name:Str}{ta:TE}{E:XK}(he:PE X o ta) (hr:Room k X.A) (hx:Passes (CXe X.prog X.w) X E)
  (ht:eval (.Call (.Attribute o name apos) [] [] pos) X.env=(do
   let ov <-eval o X.env
   standAt apos.atName
   let (f,first) <-holding [ov] (getMethod ov name pl)
   callWith pos f first (backTo pos (starEach [] X.env)) (backToKw pos (keywordEach [] X.env))):=by rfl) :
  PE X (.Call (.Attribute o name apos) [] [] pos) (zlh X name k E ta zea):=by
 intro pins s U H Q I h
 refine PySem.W.methodCall_KW (pl:=pl) (thn (he pins s U H _ I h) fun u s1 ⟨x,H1,I1,rx,a,C,dx,fs,f,fd,ps,sp,ex,ea,l,c,hm,hb,F,q⟩=>?_) ht
 subst ex
 obtain rfl:u=Value.ref a:=rx
 refine ziW I1 ea c hm l ?_
 exact PySem.W.callWith_K0 (first:=[.ref a]) I1.kIn hm.kp (zeb (us:=[.ref a]) (vs:=[.ref a]) F hr hb .nil hx I1 (.cons rfl .nil) (by rw [List.append_nil];exact q))
def methAt (name:Str) (tab:Str->Option (List PV->Mo PV)) (o:PV) (st:Sto) (k:Nat->(List PV->Mo PV)->Res PV):Res PV:=match o with
 | .ref n=>jr st n fun c ks _=>if name∈ks then .stuck else match tab c with
  | some m=>k n m
  | none=>.stuck
 | _=>.stuck
def zb0 (name:Str) (tab:Str->Option (List PV->Mo PV)) (fo:ze->Mo PV) (fs:ze->Mo (List PV)):ze->Mo PV:=fun env st=>(fo env st).bind fun o st1=>methAt name tab o st1 fun n m=>(fs env st1).bind fun ys st2=>m (.ref n::ys) st2
def zlj {name:Str}{tab:Str->Option (List PV->Mo PV)}{o:PV}{st:Sto}{kk:Nat->(List PV->Mo PV)->Res PV}{ρ:List Addr}{H:Hp}{good}(h:Out K mg ρ H (methAt name tab o st kk) good Er) :
  ∃n c ks xs m,o=.ref n/\st[n]?=some (.ins c ks xs)/\name∉ks/\tab c=some m/\Out K mg ρ H (kk n m) good Er:=by
 cases o with
 | ref n =>
  obtain ⟨c,ks,xs,e,h⟩:=zeU h
  split at h
  ·exact h.elim
  ·rename_i hn
   cases hc:tab c with
   | none=>rw [hc] at h;exact h.elim
   | some m=>rw [hc] at h;exact ⟨n,c,ks,xs,m,rfl,e,hn,hc,h⟩
 | _=>exact h.elim
def zlk {pl:Sem Bool}{name:Str}{tab:Str->Option (List PV->Mo PV)}(hT:∀c m,tab c=some m->MOk X.prog X.w X.K X.mg X.base c name k m) (ho:ME X Er o fo) (hr:Room k X.A) (ht:j1 X Er)
  (hev:eval (.Call (.Attribute o name apos) [] [] pos) X.env=(do
   let ov <-eval o X.env
   standAt apos.atName
   let (f,first) <-holding [ov] (getMethod ov name pl)
   callWith pos f first (backTo pos (starEach [] X.env)) (backToKw pos (keywordEach [] X.env))):=by rfl) :
  ME X Er (.Call (.Attribute o name apos) [] [] pos) (zb0 name tab fo zk) :=
 PE.weak (zli (pl:=pl) ho hr (zbP ht) hev) fun U H Q ⟨env,st,ρ,re,rs,h⟩=>⟨env,st,ρ,re,rs,h.then fun af H1 x st1 e1 s1 h1 v rv=>by
  obtain ⟨n,c,ks,xs,m,rfl,hn,hk,hc,h1⟩:=zlj h1
  obtain ⟨C,f,fd,ps,hC,cl,hm,hb,F⟩:=hT c m hc
  obtain ⟨p,rfl,hp⟩:=rv
  obtain ⟨C',dx,vs,hC',hH,hR,hl⟩:=s1.addr hn hp
  rw [hC] at hC'
  cases hC'
  exact ⟨p,C,dx,_,f,fd,ps,_,rfl,hH,zc0 hk,cl,hm,hb,F,⟨[.ref n],st1,af,⟨_,_,rfl,⟨p,rfl,hp⟩,rfl⟩,s1,h1⟩⟩⟩
def newI (c:Str) (m:List PV->Mo PV) (ys:List PV):Mo PV:=fun st=>(m (.ref st.length::ys) (st++[.ins c [] []])).bind fun r st2=>if isNon r=true then .ok (.ref st.length) st2 else .stuck
def zll {x:PV}(h:isNon x=true):x=.non:=by cases x<;>first|rfl|cases h
def zlm {cn:Str}{C f:Addr}{ρ:List Addr}{H:Hp}{st:Sto}{ys:List PV}{vs:List V}{Q:VK}(hC:mg cn=some (.ref C)) (s:StR K mg ρ H st) (r:Rs K mg ρ H ys vs) (h:Out K mg ρ H (newI cn m ys st) (gV K mg Q) Er) :
  ∀x dx,H x=none->H dx=none->dx≠x->spM K mg m (.ref x::vs) (upd (upd H dx (.own x)) x (.ins C dx [])) (fun v H2=>v=.non/\Q (.ref x) H2) Er:=fun x dx hx hdx ne=>by
 have hx':upd H dx (.own x) x=none:=by rw [zX (yA ne)];exact hx
 have s1:=s.new (o:=.own x) hdx
 have e1:Ext ρ H ρ (upd H dx (.own x)):=Ext.new hdx
 have e2:Ext ρ H (ρ++[x]) (upd (upd H dx (.own x)) x (.ins C dx [])):=e1.trans (Ext.push hx')
 have s2:StR K mg (ρ++[x]) (upd (upd H dx (.own x)) x (.ins C dx [])) (st++[.ins cn [] []]):=s1.push hx' ⟨C,dx,[],hC,yC,rfl,rfl⟩
 have gx:(ρ++[x])[st.length]?=some x:=by rw [<-s.len];simp
 refine ⟨.ref st.length::ys,_,ρ++[x],⟨_,_,rfl,⟨x,rfl,gx⟩,Rs.ext e2 ys r⟩,s2,Out.then (Out.ext h e2) fun am H3 r3 st3 e3 s3 h3 v rv=>?_⟩
 obtain ⟨hn,h3⟩:=Out.ifp h3
 obtain rfl:=zll hn
 exact ⟨rv,h3.now s3 _ ⟨x,rfl,e3.get gx⟩⟩
def zln {cn:Str} (C:NOk X.prog X.w X.K X.mg X.base cn k m) (hr:Room (k+1) X.A) (ht:j1 X Er) (ha:MA X Er (e::es) fs) (hg:Gl X cn:=by rfl) (hdb:(cn==("__debug__" : Str))=false:=by decide)
  (he:starEach (e::es) X.env=(false,eval e X.env)::starEach es X.env:=by rfl) (hpl:(backTo pos (starEach es X.env)).any (·.1)=false:=by rfl):ME X Er (.Call (.Name cn p) (e::es) [] pos) (zu (newI cn m) fs):=by
 obtain ⟨C,f,fd,ps,hm,M,hb,F⟩:=C
 exact PE.weak (zjc M F hr hg hm hb .nil (zbP ht) ha hdb he hpl) fun U H Q ⟨env,st,ρ,re,rs,h⟩=>⟨env,st,ρ,re,rs,h.then fun af H1 xs st1 e1 s1 k vs rv x dx hx hdx ne=>by
  rw [List.append_nil]
  exact zlm (f:=f) hm s1 rv k x dx hx hdx ne⟩
def fldAt (f:Str) (ins exc:Str->Bool):PV->Mo PV
 | .ref n,st=>jr st n fun c ks xs=>if ins c=true then optR ((ks.zip xs).lookup f) st else .stuck
 | .exo c ks xs,st=>if exc c=true then optR ((ks.zip xs).lookup f) st else .stuck
 | _,_=>.stuck
structure FldF (K:Frag) (mg:Str->Option Value) (f:Str) (ins exc:Str->Bool):Prop where
 i:∀c,ins c=true->∃C,mg c=some (.ref C)/\Cls K C/\NoAttr K C f
 x:∀c,exc c=true->∃C,mg c=some (.ref C)/\ExGa K C/\hasDictIn K C=true/\findIn K (.ref C) f=some none
def zlo (K:Frag) (ta:TE) (f:Str):TE:=fun U H Q=>ta U H fun x H1=>(∃a C dx fs v,x=.ref a/\H1 a=some (.ins C dx fs)/\Cls K C/\NoAttr K C f/\fs.lookup f=some v/\Q v H1) \/
 ∃a C d fs v,x=.ref a/\H1 a=some (exC C (some d) a)/\H1 d=some (.xd fs)/\ExGa K C/\hasDictIn K C=true/\findIn K (.ref C) f=some none/\fs.lookup f=some v/\Q v H1
def zlp {f:Str}{ta:TE}(he:PE X e ta) (hb:attributeBase e f X.env (eval e X.env)=eval e X.env):PE X (.Attribute e f pos) (zlo X.K ta f):=by
 intro pins s U H Q I h
 refine ziY hb (thn (he pins s U H _ I h) fun u s1 ⟨x,H1,I1,rx,h1⟩=>?_)
 rcases h1 with ⟨a,C,dx,fs,v,ex,ea,c,n,l,q⟩|⟨a,C,dx,fs,v,ex,ea,ed,g,hh,no,l,q⟩
 ·subst ex
  obtain rfl:u=Value.ref a:=rx
  exact ziV I1 ea c n l fun u' s2 I2 ru=>⟨v,H1,I2,ru,q⟩
 ·subst ex
  obtain rfl:u=Value.ref a:=rx
  exact zkF I1 ea ed g hh no l fun u' s2 I2 ru=>⟨v,H1,I2,ru,q⟩
def zlq {f:Str}{ins exc:Str->Bool}(F:FldF X.K X.mg f ins exc) (he:ME X Er e fa) (hb:attributeBase e f X.env (eval e X.env)=eval e X.env:=by rfl):ME X Er (.Attribute e f pos) (jy (fldAt f ins exc) fa) :=
 PE.weak (zlp he hb) fun U H Q ⟨env,st,ρ,re,rs,h⟩=>⟨env,st,ρ,re,rs,h.then fun af H1 x st1 e1 s1 h1 v rv=>by
  cases x with
  | ref n =>
   obtain ⟨c,ks,xs,hn,h1⟩:=zeU h1
   obtain ⟨hc,h1⟩:=Out.ifp h1
   obtain ⟨y,hy,h1⟩:=wN h1
   obtain ⟨p,rfl,hp⟩:=rv
   obtain ⟨C',dx,vs,hC',hH,hR,hl⟩:=s1.addr hn hp
   obtain ⟨C,hC,cl,na⟩:=F.i c hc
   rw [hC] at hC'
   cases hC'
   obtain ⟨v,hv,rv⟩:=zaE hR hy
   exact .inl ⟨p,_,dx,_,v,rfl,hH,cl,na,hv,h1.now s1 _ rv⟩
  | exo c ks xs =>
   obtain ⟨hc,h1⟩:=Out.ifp h1
   obtain ⟨y,hy,h1⟩:=wN h1
   obtain ⟨a,C',d,vs,rfl,hC',hH,hd,hR,hl⟩:=rv
   obtain ⟨C,hC,g,hh,no⟩:=F.x c hc
   rw [hC] at hC'
   cases hC'
   obtain ⟨v,hv,rv⟩:=zaE hR hy
   exact .inr ⟨a,_,d,_,v,rfl,hH,hd,g,hh,no,hv,h1.now s1 _ rv⟩
  | _=>exact h1.elim⟩
def soCls:Option SO->Option (String ⊕ (Bool×Str))
 | some (.lst _)=>some (.inl "list")
 | some (.dic _ _)=>some (.inl "dict")
 | some (.ins c _ _)=>some (.inr (false,c))
 | some (.fdi _ _)=>none
 | none=>none
def clsP (st:Sto):PV->Option (String ⊕ (Bool×Str))
 | .non=>some (.inl "NoneType")
 | .bl _=>some (.inl "bool")
 | .int _=>some (.inl "int")
 | .str _=>some (.inl "str")
 | .tup _=>some (.inl "tuple")
 | .ref n=>soCls st[n]?
 | .exo c _ _=>some (.inr (true,c))
 | _=>none
def optB (o:Option Bool):Mo PV:=fun st=>match o with
 | some b=>.ok (.bl b) st
 | none=>.stuck
def zb1 {ρ:List Addr}{H:Hp}{o:Option Bool}{st:Sto}{good}(h:Out K mg ρ H (optB o st) good Er):∃b,o=some b/\Out K mg ρ H (.ok (.bl b) st) good Er:=by
 cases o with
 | some x=>exact ⟨x,rfl,h⟩
 | none=>exact h.elim
structure IsT where
 isx:Str->Bool
 sub:Str->Str->Option Bool
 subT:Str->String->Option Bool
 tyC:String->Str->Option Bool
def isiA (t:IsT) (st:Sto):PV->Option (String ⊕ (Bool×Str))->Mo PV
 | .ty n,some (.inl T),st=>optB (tyb T n) st
 | .ty n,some (.inr (f,c)),st=>if t.isx c=f then optB (t.subT c n) st else .stuck
 | .fn B,some (.inl T),st=>optB (t.tyC T B) st
 | .fn B,some (.inr (f,c)),st=>if t.isx c=f then optB (t.sub c B) st else .stuck
 | _,_,_=>.stuck
def zb2 (t:IsT):List PV->Mo PV
 | [x,y],st=>isiA t st y (clsP st x) st
 | _,_=>.stuck
structure InIs (K:Frag) (C:Addr):Prop where
 cl:Cls K C
 ha:findIn K (.ref C) "__class__" = some (some (.builtin "object.__class__"))
 hn:specialIn K (.builtin "object.__class__") "__get__" = some (some (.builtin "getset_descriptor.__get__"))
 tk:takesIn K (.builtin "object.__class__")=some true
 hm:mroIn K C (.type "object")=some true
structure IsF (K:Frag) (mg:Str->Option Value) (t:IsT):Prop where
 s:∀c B b,t.sub c B=some b->∃C D,mg c=some (.ref C)/\mg B=some (.ref D)/\kitOne K (.ref C) (.ref D)=some b
 tt:∀c n b,t.subT c n=some b->∃C,mg c=some (.ref C)/\kitOne K (.ref C) (.type n)=some b
 u:∀T B b,t.tyC T B=some b->∃D,mg B=some (.ref D)/\kitOne K (.type T) (.ref D)=some b
 x:∀c C,t.isx c=true->mg c=some (.ref C)->((∃B b,t.sub c B=some b)\/∃n b,t.subT c n=some b)->ExIs K C
 i:∀c C,t.isx c=false->mg c=some (.ref C)->((∃B b,t.sub c B=some b)\/∃n b,t.subT c n=some b)->InIs K C
inductive TyA (K:Frag) (H:Hp):V->Value->Prop where
 | of {v:V} {t:Value} (h:TyOf K H v t):TyA K H v t
 | tup {a:Addr} {vs:List V} (h:SqT K H a vs):TyA K H (.ref a) (.type "tuple")
 | exc {a C d:Addr} {fs:List (Str×V)} (ha:H a=some (exC C (some d) a)) (hd:H d=some (.xd fs)) (k:ExIs K C):TyA K H (.ref a) (.ref C)
def zlr {pins:List (Addr×Obj)}{U:L2.St}{H:Hp}{s:Shared}{v:V}{u t c:Value}{b:Bool}{Q:Value->Shared->Prop}{A:Around}{E:Value->Shared->Prop}(I:Inv X pins U H s) (r:RelV v u) (ty:TyA X.K H v t) (e:kitOne X.K t c=some b) (h:∀tk,Q (.bool b) { s with toks:=tk }) :
  wpAny (model X.prog X.w) A (call (.builtin "isinstance") [u,c]) Q E s:=by
 cases ty with
 | of ty=>exact zi0 I r ty e h
 | @tup a vs hq =>
  obtain rfl:u=Value.ref a:=r
  obtain ⟨its,_,p,_⟩:=I.tuple hq
  obtain ⟨o,h1,h2,_⟩:=p
  exact PySem.W.kia_one PySem.W.kitx_tuple I.kIn ⟨o,h1,h2⟩ e (fun z=>nomatch z) h
 | @exc a C d fs ha hd k =>
  obtain rfl:u=Value.ref a:=r
  exact zkG I ha hd k e h
def zls:CallR X (.builtin "isinstance") (fun xs H Q=>∃v w t c b,xs=[v,w]/\TyA X.K H v t/\RelV w c/\(∀c',RelV w c'->c'=c)/\kitOne X.K t c=some b/\Q (.bl b) H):=by
 intro pins s U H xs us Q I r h
 obtain ⟨v,w,t,c,b,rfl,ty,rw,un,e,q⟩:=h
 obtain ⟨u,w',rfl,ru,rw'⟩:=ziO r
 obtain rfl:=un w' rw'
 exact zlr I ru ty e fun tk=>⟨.bl b,H,I.tok _,rfl,q⟩
def ze1 {ρ:List Addr}{H:Hp}{st:Sto}{x:PV}{v:V}{T:String}(s:StR K mg ρ H st) (r:R K mg ρ H x v) (h:clsP st x=some (.inl T)):TyA K H v (.type T):=by
 cases x with
 | non=>cases h;cases r;exact .of .non
 | bl b=>cases h;cases r;exact .of (.bl b)
 | int i=>cases h;cases r;exact .of (.int i)
 | str z=>cases h;cases r;exact .of (.str z)
 | tup xs=>cases h;obtain ⟨a,vs,rfl,h1,_⟩:=r;exact .tup h1
 | frl xs=>cases h
 | ref n =>
  obtain ⟨a,rfl,ha⟩:=r
  have h:soCls st[n]?=some (.inl T):=h
  cases e:st[n]? with
  | none=>rw [e] at h;cases h
  | some so =>
   rw [e] at h
   cases so with
   | lst xs=>cases h;obtain ⟨vs,h1,_⟩:=s.addr e ha;exact .of (.lst h1)
   | dic ks xs=>cases h;obtain ⟨vs,h1,_⟩:=s.addr e ha;exact .of (.dK h1)
   | ins c ks xs=>cases h
   | fdi ks xs=>cases h
 | ty _=>cases h
 | fn _=>cases h
 | kd _ _=>cases h
 | exo _ _ _=>cases h
def ze2 {ρ:List Addr}{H:Hp}{st:Sto}{x:PV}{v:V}{f:Bool}{c:Str}(hx:∀C,f=true->mg c=some (.ref C)->ExIs K C) (hi:∀C,f=false->mg c=some (.ref C)->InIs K C) (s:StR K mg ρ H st) (r:R K mg ρ H x v) (h:clsP st x=some (.inr (f,c))):∃C,mg c=some (.ref C)/\TyA K H v (.ref C):=by
 cases x with
 | ref n =>
  obtain ⟨a,rfl,ha⟩:=r
  have h:soCls st[n]?=some (.inr (f,c)):=h
  cases e:st[n]? with
  | none=>rw [e] at h;cases h
  | some so =>
   rw [e] at h
   cases so with
   | lst xs=>cases h
   | dic ks xs=>cases h
   | fdi ks xs=>cases h
   | ins c' ks xs =>
    cases h
    obtain ⟨C,dx,vs,hC,hH,_⟩:=s.addr e ha
    have q:=hi C rfl hC
    exact ⟨C,hC,.of (.ins hH q.cl q.ha q.hn q.tk q.hm)⟩
 | exo c' ks xs =>
  cases h
  obtain ⟨a,C,d,vs,rfl,hC,hH,hd,_⟩:=r
  exact ⟨C,hC,.exc hH hd (hx C rfl hC)⟩
 | non=>cases h
 | bl _=>cases h
 | int _=>cases h
 | str _=>cases h
 | tup _=>cases h
 | frl _=>cases h
 | ty _=>cases h
 | fn _=>cases h
 | kd _ _=>cases h
def zlt {t:IsT} (F:IsF X.K X.mg t):BltOk X (.builtin "isinstance") (zb2 t):=⟨_,zls,fun ρ H st xs vs Q E s r h=>by
 match xs,r,h with
 | [x,y],r,h =>
  obtain ⟨v,w,rfl,rx,ry⟩:=Rs.two r
  have h:Out X.K X.mg ρ H (isiA t st y (clsP st x) st) (gV X.K X.mg Q) E:=h
  cases hc:clsP st x with
  | none=>rw [hc] at h;cases y<;>exact h.elim
  | some cc =>
   rw [hc] at h
   cases cc with
   | inl T =>
    cases y with
    | ty n =>
     cases ry
     obtain ⟨b,hb,h⟩:=zb1 h
     exact ⟨v,_,_,_,b,rfl,ze1 s rx hc,rfl,fun c' h=>h,zlg X.K hb,h.now s _ rfl⟩
    | fn B =>
     obtain ⟨D,rfl,hD⟩:=ry
     obtain ⟨b,hb,h⟩:=zb1 h
     obtain ⟨D',hD',k⟩:=F.u T B b hb
     rw [hD] at hD'
     cases hD'
     exact ⟨v,_,_,_,b,rfl,ze1 s rx hc,rfl,fun c' h=>h,k,h.now s _ rfl⟩
    | _=>exact h.elim
   | inr fc =>
    obtain ⟨f,c⟩:=fc
    cases y with
    | ty n =>
     cases ry
     obtain ⟨hf,h⟩:=Out.ifp h
     obtain ⟨b,hb,h⟩:=zb1 h
     obtain ⟨C,hC,k⟩:=F.tt c n b hb
     obtain ⟨C',hC',ty⟩:=ze2 (fun C e hC=>F.x c C (hf.trans e) hC (.inr ⟨n,b,hb⟩)) (fun C e hC=>F.i c C (hf.trans e) hC (.inr ⟨n,b,hb⟩)) s rx hc
     rw [hC] at hC'
     cases hC'
     exact ⟨v,_,_,_,b,rfl,ty,rfl,fun c' h=>h,k,h.now s _ rfl⟩
    | fn B =>
     obtain ⟨D,rfl,hD⟩:=ry
     obtain ⟨hf,h⟩:=Out.ifp h
     obtain ⟨b,hb,h⟩:=zb1 h
     obtain ⟨C,D',hC,hD',k⟩:=F.s c B b hb
     rw [hD] at hD'
     cases hD'
     obtain ⟨C',hC',ty⟩:=ze2 (fun C e hC=>F.x c C (hf.trans e) hC (.inl ⟨B,b,hb⟩)) (fun C e hC=>F.i c C (hf.trans e) hC (.inl ⟨B,b,hb⟩)) s rx hc
     rw [hC] at hC'
     cases hC'
     exact ⟨v,_,_,_,b,rfl,ty,rfl,fun c' h=>h,k,h.now s _ rfl⟩
    | _=>exact h.elim
 | [],r,h=>exact h.elim
 | [_],r,h=>exact h.elim
 | _::_::_::_,r,h=>exact h.elim⟩
end
section
variable {X:Cx}{Er:XK}{K:Frag}{mg:Str->Option Value}{a b c e o:Expr}{es:List Expr}{st:Stmt}{sts:List Stmt}{pos p apos pos':Pos}{fa fb fc fo:ze->Mo PV}{fs:ze->Mo (List PV)}{k:Nat}{x:Str}{m:List PV->Mo PV}
variable {g g' gb:ze->Mo Fl}{ga:ze->Mo Bool}
def Out.fl {ρ:List Addr}{H:Hp}{st:Sto}{D:Ends}{fl:Fl}{E:XK}(h:Out K mg ρ H (.ok fl st) (gS K mg D) E) (s:StR K mg ρ H st):gS K mg D ρ H fl st:=h.now s
def yd:ze->Mo Fl:=fun env st=>.ok (.nx env) st
def flowOn (g:ze->Mo Fl):Fl->Mo Fl
 | .nx env,st=>g env st
 | fl,st=>.ok fl st
def zv (g g':ze->Mo Fl):ze->Mo Fl:=fun env st=>(g env st).bind (flowOn g')
def yw:MSs X Er [] yd:=PSs.weak zh6 fun D U H ⟨env,st,ρ,re,rs,h⟩=>h.now rs U re
def zA (h1:MS X Er st g) (h2:MSs X Er sts g'):MSs X Er (st::sts) (zv g g') :=
 PSs.weak (zh7 h1 h2) fun D U H ⟨env,st,ρ,re,rs,h⟩=>⟨env,st,ρ,re,rs,h.then fun af H1 fl st1 e1 s1 h1=>by
  cases fl with
  | nx env1=>exact fun au re1=>⟨env1,st1,af,re1,s1,h1⟩
  | rt v=>exact Out.fl (D:=D) (fl:=.rt v) (E:=Er) h1 s1
  | bk env1=>exact Out.fl (D:=D) (fl:=.bk env1) (E:=Er) h1 s1
  | ct env1=>exact Out.fl (D:=D) (fl:=.ct env1) (E:=Er) h1 s1⟩
def zJ (h1:MS X Er st g):MSs X Er [st] g:=zdY h1
def zC (i:Nat) (f:ze->Mo PV):ze->Mo Fl:=fun env st=>(f env st).bind fun x st1=>.ok (.nx (env.set i (some x))) st1
def zV (i:Nat) {x:Str}(he:ME X Er e fa) (hN:X.N.Nodup) (hi:X.N[i]?=some x:=by rfl) (hx:Loc X.env.scope x:=by first|exact Or.inl rfl|exact Or.inr rfl) (hs:swapsWith e (some (.Name x pos')) pos.line X.env=pure false:=by rfl)
  (hf:X.fn x=true\/X.env.scope.names.lookup x=some .local:=by first|exact .inl rfl|exact .inr rfl|assumption):MS X Er (.Assign [.Name x pos'] e pos) (zC i fa) :=
 PS.weak (zin hN hi hx he hs hf) fun D U H ⟨env,st,ρ,re,rs,h⟩=>⟨env,st,ρ,re,rs,h.then fun af H1 x st1 e1 s1 h1 v rv=>h1.now s1 _ ((re.ext e1).set i rv)⟩
def y7 (f:ze->Mo PV):ze->Mo Fl:=fun env st=>(f env st).bind fun _ st1=>.ok (.nx env) st1
def wP (he:ME X Er e fa) (hs:swapsWith e none pos.line X.env=pure false:=by rfl):MS X Er (.Expr e pos) (y7 fa) :=
 PS.weak (zh9 he hs) fun D U H ⟨env,st,ρ,re,rs,h⟩=>⟨env,st,ρ,re,rs,h.then fun af H1 x st1 e1 s1 h1 v rv=>h1.now s1 _ (re.ext e1)⟩
def zY (f:ze->Mo PV):ze->Mo Fl:=fun env st=>(f env st).bind fun x st1=>.ok (.rt x) st1
def ye (he:ME X Er e fa):MS X Er (.Return (some e) pos) (zY fa) :=
 PS.weak (zib he) fun D U H ⟨env,st,ρ,re,rs,h⟩=>⟨env,st,ρ,re,rs,h.then fun af H1 x st1 e1 s1 h1 v rv=>h1.now s1 _ rv⟩
def ya (t:ze->Mo Bool) (g g':ze->Mo Fl):ze->Mo Fl:=fun env st=>(t env st).bind fun c st1=>if c=true then g env st1 else g' env st1
def yv {A B:List Stmt}(hc:MT X Er c ga) (ha:MSs X Er A g) (hb:MSs X Er B g'):MS X Er (.If c A B pos) (ya ga g g') :=
 PS.weak (zid hc ha hb) fun D U H ⟨env,st,ρ,re,rs,h⟩=>⟨env,st,ρ,re,rs,h.then fun af H1 k st1 e1 s1 h1=>by
  cases k with
  | true=>exact ⟨env,st1,af,re.ext e1,s1,h1⟩
  | false=>exact ⟨env,st1,af,re.ext e1,s1,h1⟩⟩
def putK (f:Str) (x:PV):List Str->List PV->List Str×List PV
 | k::ks,y::ys=>if k=f then (k::ks,x::ys) else (k::(putK f x ks ys).1,y::(putK f x ks ys).2)
 | _,_=>([f],[x])
def ze3 {ρ:List Addr}{H:Hp}{f:Str}{x:PV}{v:V}(r:R K mg ρ H x v):∀{ks:List Str}{xs:List PV}{vs:List V},ks.length=vs.length->Rs K mg ρ H xs vs->∃ws,putF f v (ks.zip vs)=(putK f x ks xs).1.zip ws/\Rs K mg ρ H (putK f x ks xs).2 ws/\(putK f x ks xs).1.length=ws.length
 | [],xs,vs,hl,h=>by
  have:vs=[]:=by cases vs with|nil=>rfl|cons=>simp at hl
  subst this
  have:xs=[]:=by cases xs with|nil=>rfl|cons=>obtain ⟨_,_,e,_⟩:=h;cases e
  subst this
  exact ⟨[v],rfl,⟨v,[],rfl,r,rfl⟩,rfl⟩
 | k::ks,xs,vs,hl,h=>by
  cases vs with
  | nil=>simp at hl
  | cons v0 vs =>
   cases xs with
   | nil=>cases h
   | cons y ys =>
    obtain ⟨v0',r',e,h1,h2⟩:=h
    cases e
    simp only [putK,List.zip_cons_cons,putF]
    by_cases hk:k=f
    ·rw [zE hk,zE hk]
     exact ⟨v::vs,rfl,⟨v,vs,rfl,r,h2⟩,by simpa using hl⟩
    ·rw [zN hk,zN hk]
     obtain ⟨ws,e1,e2,e3⟩:=ze3 r (by simpa using hl) h2
     exact ⟨v0::ws,by rw [e1];rfl,⟨v0,ws,rfl,h1,e2⟩,by simp [e3]⟩
def putAt (f:Str) (ins:Str->Bool) (x:PV):PV->Mo Unit
 | .ref n,st=>jr st n fun c ks xs=>if ins c=true/\ks.length<1000 then .ok () (st.set n (.ins c (putK f x ks xs).1 (putK f x ks xs).2)) else .stuck
 | _,_=>.stuck
def sFld (f:Str) (ins:Str->Bool) (fo fv:ze->Mo PV):ze->Mo Fl:=fun env st=>(fv env st).bind fun x st1=>(fo env st1).bind fun o st2=>(putAt f ins x o st2).bind fun _ st3=>.ok (.nx env) st3
def ze4 {f:Str}{ins exc:Str->Bool}(F:FldF X.K X.mg f ins exc) (ho:ME X Er o fo) (he:ME X Er e fa) (hs:swapsWith e (some (.Attribute o f pos')) pos.line X.env=pure false:=by rfl):MS X Er (.Assign [.Attribute o f pos'] e pos) (sFld f ins fo fa) :=
 PS.weak (ziZ ho he hs) fun D U H ⟨env,st,ρ,re,rs,h⟩=>⟨env,st,ρ,re,rs,h.then fun af H1 x st1 e1 s1 h1 v rv=>⟨env,st1,af,re.ext e1,s1,h1.then fun ao H2 y st2 e2 s2 h2 w rw=>by
  cases y with
  | ref n =>
   cases hn:st2[n]? with
   | none=>simp only [putAt,jr,hn] at h2;exact h2.elim
   | some so =>
    cases so with
    | lst _=>simp only [putAt,jr,hn] at h2;exact h2.elim
    | dic _ _=>simp only [putAt,jr,hn] at h2;exact h2.elim
    | fdi _ _=>simp only [putAt,jr,hn] at h2;exact h2.elim
    | ins c ks xs =>
     simp only [putAt,jr,hn] at h2
     by_cases hc:ins c=true/\ks.length<1000
     ·rw [zE hc] at h2
      obtain ⟨p,rfl,hp⟩:=rw
      obtain ⟨C',dx,vs,hC',hH,hR,hl⟩:=s2.addr hn hp
      obtain ⟨C,hC,cl,na⟩:=F.i c hc.1
      rw [hC] at hC'
      cases hC'
      obtain ⟨ws,k1,k2,k3⟩:=ze3 (f:=f) (R.ext e2 x rv) hl hR
      refine ⟨p,_,dx,_,rfl,hH,cl,na,?_,?_⟩
      ·rw [List.length_zip,<-hl];have:=hc.2;omega
      ·have ew:Ext ao H2 ao (upd H2 p (.ins C' dx (putF f v (ks.zip vs)))):=Ext.write hH rfl
       exact h2 ao _ ew (s2.write hp ew ⟨_,dx,ws,hC,by rw [yC,k1],Rs.ext ew _ k2,k3⟩) U (((re.ext e1).ext e2).ext ew)
     ·rw [zN hc] at h2;exact h2.elim
  | _=>exact h2.elim⟩⟩
def MG (X:Cx) (Er:XK) (e:Expr) (g:PV->ze->Option ze):Prop:=PG X e fun v U H Q=>∃x env env' ρ,R X.K X.mg ρ H x v/\EnvR X.K X.mg ρ H env U/\g x env=some env'/\∀ai,EnvR X.K X.mg ρ H env' ai->Q ai H
def PG.weak {t t':TG}(h:PG X e t) (w:∀v U H Q,t' v U H Q->t v U H Q):PG X e t':=fun pins s U H v u Q I r q=>h pins s U H v u Q I r (w v U H Q q)
def gN (i:Nat):PV->ze->Option ze:=fun x env=>some (env.set i (some x))
def wy (i:Nat) {x:Str}(hN:X.N.Nodup) (hi:X.N[i]?=some x:=by rfl) (hx:Loc X.env.scope x:=by first|exact Or.inl rfl|exact Or.inr rfl) (hf:X.fn x=true\/X.env.scope.names.lookup x=some .local:=by first|exact .inl rfl|exact .inr rfl|assumption):MG X Er (.Name x pos) (gN i) :=
 PG.weak (zae hN hi hx hf) fun v U H Q ⟨x,env,env',ρ,rx,re,hg,q⟩=>by
  cases hg
  exact q _ (re.set i rx)
def g2 (i j:Nat):PV->ze->Option ze
 | .tup [x,y],env=>some ((env.set i (some x)).set j (some y))
 | _,_=>none
def zlu {i j:Nat}{x:PV}{env env':ze}(h:g2 i j x env=some env'):∃y z,x=.tup [y,z]/\env'=(env.set i (some y)).set j (some z):=by
 unfold g2 at h
 split at h
 ·cases h;exact ⟨_,_,rfl,rfl⟩
 ·cases h
def ze5 (i j:Nat) {x y:Str}{kt:Nat}{px py:Pos}(hc:X.calm=true) (hN:X.N.Nodup) (hi:X.N[i]?=some x:=by rfl) (hj:X.N[j]?=some y:=by rfl) (hx:Loc X.env.scope x:=by first|exact Or.inl rfl|exact Or.inr rfl) (hy:Loc X.env.scope y:=by first|exact Or.inl rfl|exact Or.inr rfl)
  (hf:X.fn x=true\/X.env.scope.names.lookup x=some .local:=by first|exact .inl rfl|exact .inr rfl|assumption) (hf':X.fn y=true\/X.env.scope.names.lookup y=some .local:=by first|exact .inl rfl|exact .inr rfl|assumption):MG X Er (.Tuple [.Name x px,.Name y py] kt pos) (g2 i j) :=
 PG.weak (zik (n:=2) hc (zdZ (zae hN hi hx hf) (zdZ (zae hN hj hy hf') zii))) fun v U H Q ⟨x,env,env',ρ,rx,re,hg,q⟩=>by
  obtain ⟨y,z,rfl,rfl⟩:=zlu hg
  obtain ⟨a,vs,rfl,h1,h2⟩:=rx
  obtain ⟨u,w,rfl,r1,r2⟩:=Rs.two h2
  exact ⟨a,_,rfl,h1,rfl,u,[w],rfl,w,[],rfl,rfl,q _ ((re.set i r1).set j r2)⟩
def g3 (i j k:Nat):PV->ze->Option ze
 | .tup [x,y,z],env=>some (((env.set i (some x)).set j (some y)).set k (some z))
 | _,_=>none
def sTo (g:PV->ze->Option ze) (f:ze->Mo PV):ze->Mo Fl:=fun env st=>(f env st).bind fun x st1=>match g x env with
 | some env'=>.ok (.nx env') st1
 | none=>.stuck
def zlv {tg:Expr}{gt:PV->ze->Option ze}(hg:MG X Er tg gt) (he:ME X Er e fa) (hs:swapsWithSole [tg] e pos.line X.env=pure false:=by rfl) (hw:swappedStores [tg] e X.env=pure none:=by rfl)
  (h1:(assignEach [tg] X.env).map (·.2)=[assign tg X.env]:=by rfl):MS X Er (.Assign [tg] e pos) (sTo gt fa) :=
 PS.weak (zd1 he hg hs hw h1) fun D U H ⟨env,st,ρ,re,rs,h⟩=>⟨env,st,ρ,re,rs,h.then fun af H1 x st1 e1 s1 h1 v rv=>by
  cases hx:gt x env with
  | none=>simp only [hx] at h1;exact h1.elim
  | some env' =>
   simp only [hx] at h1
   exact ⟨x,env,env',af,rv,re.ext e1,hx,fun ai r'=>Out.now (x:=Fl.nx env') h1 s1 ai r'⟩⟩
inductive Sq where
 | im (xs:List PV)|rf (n:Nat)
def Walk (K:Frag) (mg:Str->Option Value) (J:It) (ρ:List Addr) (H:Hp):Sq->Prop
 | .im xs=>(∀i ah H',Ext ρ H ah H'->i<xs.length->J.go i H')/\(∀i ah H',Ext ρ H ah H'->xs.length<=i->J.stop i H') /\
  ∀i ah H' st v H2,Ext ρ H ah H'->StR K mg ah H' st->i<xs.length->J.yld i H' v H2->∃x,xs[i]?=some x/\Ext ah H' ah H2/\StR K mg ah H2 st/\R K mg ah H2 x v
 | .rf n=>∃a,ρ[n]?=some a/\J=Itl K a
def MI (X:Cx) (Er:XK) (tg iter:Expr) (src:ze->Mo Sq):Prop:=PI X tg iter fun U H R=>∃env st ρ,EnvR X.K X.mg ρ H env U/\StR X.K X.mg ρ H st/\Out X.K X.mg ρ H (src env st) (fun ah H' q st'=>∀J,Walk X.K X.mg J ah H' q->R J H') Er
def forL (g:PV->ze->Option ze) (body:ze->Mo Fl):List PV->ze->Mo Fl
 | [],env,st=>.ok (.nx env) st
 | x::xs,env,st=>match g x env with
  | none=>.stuck
  | some env1=>(body env1 st).bind fun fl st2=>match fl with
   | .nx e=>forL g body xs e st2
   | .ct e=>forL g body xs e st2
   | .bk e=>.ok (.nx e) st2
   | .rt v=>.ok (.rt v) st2
def forR (g:PV->ze->Option ze) (body:ze->Mo Fl) (n:Nat):Nat->Nat->ze->Mo Fl
 | 0,_,_,_=>.stuck
 | m+1,i,env,st=>yh st n fun xs=>match xs[i]? with
  | none=>.ok (.nx env) st
  | some x=>match g x env with
   | none=>.stuck
   | some env1=>(body env1 st).bind fun fl st2=>match fl with
    | .nx e=>forR g body n m (i+1) e st2
    | .ct e=>forR g body n m (i+1) e st2
    | .bk e=>.ok (.nx e) st2
    | .rt v=>.ok (.rt v) st2
def forS (g:PV->ze->Option ze) (body:ze->Mo Fl):Sq->ze->Mo Fl
 | .im xs=>forL g body xs
 | .rf n=>forR g body n (lim+1) 0
def jd (src:ze->Mo Sq) (g:PV->ze->Option ze) (body:ze->Mo Fl):ze->Mo Fl:=fun env st=>(src env st).bind fun q st1=>forS g body q env st1
def wz {tg iter:Expr}{src:ze->Mo Sq}{gt:PV->ze->Option ze}(hp:PassesOwn (model X.prog X.w) X.A X.env X.xe) (hc:X.calm=true) (hi:MI X Er tg iter src) (hg:MG X Er tg gt) (hb:MSs X Er sts gb)
  (hs:∀x,foldedSetIterable iter X.env x=pure x:=by intro _;rfl):MS X Er (.For tg iter sts [] pos) (jd src gt gb) :=
 PS.weak (zd2 hp hc hi hg hb hs) fun D U H ⟨env,st,ρ,re,rs,h⟩=>⟨env,st,ρ,re,rs,h.then fun aq H0 q st0 e0 s0 h0 J wk=>by
  cases q with
  | im xs =>
   obtain ⟨w1,w2,w3⟩:=wk
   refine ⟨fun i m U H=>m=xs.length-i/\i<=xs.length/\∃env st ρ,EnvR X.K X.mg ρ H env U/\StR X.K X.mg ρ H st/\Ext aq H0 ρ H/\Out X.K X.mg ρ H (forL gt gb (xs.drop i) env st) (gS X.K X.mg D) Er,⟨xs.length,by simp,ju _,env,st0,aq,re.ext e0,s0,Ext.refl,h0⟩,?_⟩
   rintro i m U H ⟨rfl,hi,env,st,ρ,re,rs,ex,h⟩
   by_cases hlt:i<xs.length
   ·refine .inr ⟨w1 i ρ H ex hlt,_,fun ai H' p'=>⟨xs.length-(i+1),by omega,rfl,hlt,p'⟩,fun v H' y=>?_⟩
    obtain ⟨x,hx,ex2,s2,rx⟩:=w3 i ρ H st v H' ex rs hlt y
    have hd:xs.drop i=x::xs.drop (i+1):=by
     rw [jJ hlt]
     have:=(yE.mp hx).2
     rw [this]
    rw [hd] at h
    cases hgx:gt x env with
    | none=>simp only [forL,hgx] at h;exact h.elim
    | some env1 =>
     simp only [forL,hgx] at h
     refine ⟨x,env,env1,ρ,rx,re.ext ex2,hgx,fun au r1=>⟨env1,st,ρ,r1,s2,Out.then (Out.ext h ex2) fun am H3 fl st3 e3 s3 h3=>?_⟩⟩
     cases fl with
     | nx e=>exact fun aA r4=>⟨e,st3,am,r4,s3,(ex.trans ex2).trans e3,h3⟩
     | ct e=>exact fun aA r4=>⟨e,st3,am,r4,s3,(ex.trans ex2).trans e3,h3⟩
     | bk e=>exact Out.fl (D:=D) (fl:=.nx e) (E:=Er) h3 s3
     | rt v=>exact Out.fl (D:=D) (fl:=.rt v) (E:=Er) h3 s3
   ·have e:i=xs.length:=by omega
    subst e
    rw [List.drop_length] at h
    exact .inl ⟨w2 _ ρ H ex (yg _),Out.now (x:=Fl.nx env) h rs U re⟩
  | rf n =>
   obtain ⟨a,ha,rfl⟩:=wk
   refine ⟨fun i m U H=>∃env st ρ,EnvR X.K X.mg ρ H env U/\StR X.K X.mg ρ H st/\ρ[n]?=some a/\Out X.K X.mg ρ H (forR gt gb n m i env st) (gS X.K X.mg D) Er,⟨lim+1,env,st0,aq,re.ext e0,s0,ha,h0⟩,?_⟩
   rintro i m U H ⟨env,st,ρ,re,rs,ha,h⟩
   cases m with
   | zero=>exact h.elim
   | succ m =>
    obtain ⟨xs,hn,h⟩:=yW h
    obtain ⟨vs,hH,hR⟩:=rs.addr hn ha
    cases hx:xs[i]? with
    | none =>
     simp only [hx] at h
     have:vs.length<=i:=by rw [<-hR.len];exact za2.mp hx
     exact .inl ⟨⟨vs,SqL.of hH,this⟩,Out.now (x:=Fl.nx env) h rs U re⟩
    | some x =>
     simp only [hx] at h
     obtain ⟨v,hv,rv⟩:=hR.get hx
     refine .inr ⟨⟨vs,v,SqL.of hH,hv⟩,_,fun ai H' p'=>⟨m,jL m,p'⟩,fun v' H' y=>?_⟩
     obtain ⟨e1,y⟩:=y
     subst e1
     have e2:=y vs (SqL.of hH)
     rw [hv] at e2
     cases e2
     cases hgx:gt x env with
     | none=>simp only [hgx] at h;exact h.elim
     | some env1 =>
      simp only [hgx] at h
      refine ⟨x,env,env1,ρ,rv,re,hgx,fun au r1=>⟨env1,st,ρ,r1,rs,Out.then h fun am H3 fl st3 e3 s3 h3=>?_⟩⟩
      cases fl with
      | nx e=>exact fun aA r4=>⟨e,st3,am,r4,s3,e3.get ha,h3⟩
      | ct e=>exact fun aA r4=>⟨e,st3,am,r4,s3,e3.get ha,h3⟩
      | bk e=>exact Out.fl (D:=D) (fl:=.nx e) (E:=Er) h3 s3
      | rt v=>exact Out.fl (D:=D) (fl:=.rt v) (E:=Er) h3 s3⟩
end
section
variable {X:Cx}{Er:XK}{K:Frag}{mg:Str->Option Value}{a b c e o tg:Expr}{es:List Expr}{st:Stmt}{sts:List Stmt}{pos p apos pos':Pos}{fa fb fc fo:ze->Mo PV}{fs:ze->Mo (List PV)}{k:Nat}{x:Str}{m:List PV->Mo PV}
variable {g g' gb:ze->Mo Fl}{ga:ze->Mo Bool}
def PI.weak {t t':TI}(h:PI X tg e t) (w:∀U H Q,t' U H Q->t U H Q):PI X tg e t':=fun pins s U H Q I q=>h pins s U H Q I (w U H Q q)
def zlw (K:Frag) (tl:TE):TI:=fun U H R=>tl U H fun x H1=>(∃a,x=.ref a/\(∃xs,SqL K H1 a xs)/\R (Itl K a) H1)\/(∃a,x=.ref a/\(∃xs,SqT K H1 a xs)/\R (Itt K a) H1)\/∃z,x=.str z/\R (Its z) H1
def zlx {l:Expr}{tl:TE}(hl:PE X l tl):PI X tg l (zlw X.K tl):=by
 intro pins s U H R I h
 refine thn (hl pins s U H _ I h) fun v s1 ⟨x,H1,I1,r1,q1⟩=>?_
 have fin:∀b∈[s1.heap.objs.size],FpOk X pins H1 b:=fun b hb=>by
  have e:b=s1.heap.objs.size:=by simpa using hb
  subst e
  exact I1.fpOk (yg _) (I1.hok.fresh (yg _))
 rcases q1 with ⟨a,e,⟨xs,hq⟩,q⟩|⟨a,e,⟨xs,hq⟩,q⟩|⟨z,rfl,q⟩
 ·subst e
  cases r1
  obtain ⟨its,rv,p,hz⟩:=I1.list hq
  exact wpAny_pyIter_list p.isList ⟨s1.heap.objs.size,[s1.heap.objs.size],_,_,H1,rfl,I1.kept (t':=s1.toks) (fun b o e=>yo _ e),zir a _,⟨_,y8 _ rfl,rfl,rfl⟩,fin,q⟩
 ·subst e
  cases r1
  obtain ⟨its,rv,p,hz⟩:=I1.tuple hq
  exact wpAny_pyIter_tuple (show s1.heap.IsTuple a its.toArray from p) ⟨s1.heap.objs.size,[s1.heap.objs.size],_,_,H1,rfl,I1.kept (t':=s1.toks) (fun b o e=>yo _ e),zis a _,⟨_,y8 _ rfl,rfl,rfl⟩,fin,q⟩
 ·obtain ⟨t,rfl⟩:=r1
  cases ha:z.cps.all (·<128) with
  | false=>exact wpAny_pyIter_wide ha ⟨s1.heap.objs.size,[s1.heap.objs.size],_,_,H1,rfl,I1.kept (t':=s1.toks) (fun b o e=>yo _ e),zeA z t _ "str_iterator" (.inr rfl),⟨_,y8 _ rfl,rfl,rfl⟩,fin,q⟩
  | true=>exact wpAny_pyIter_ascii ha ⟨s1.heap.objs.size,[s1.heap.objs.size],_,_,H1,rfl,I1.kept (t':=s1.toks) (fun b o e=>yo _ e),zeA z t _ "str_ascii_iterator" (.inl rfl),⟨_,y8 _ rfl,rfl,rfl⟩,fin,q⟩
def zly {ρ:List Addr}{H:Hp}{a:Addr}{xs:List PV}{vs:List V}(h:SqT K H a vs) (r:Rs K mg ρ H xs vs):Walk K mg (Itt K a) ρ H (.im xs):=by
 refine ⟨fun i ah H' e hi=>?_,fun i ah H' e hi=>⟨vs,e.sqT h,by rw [<-r.len];exact hi⟩,fun i ah H' st v H2 e s hi y=>?_⟩
 ·obtain ⟨v,hv,_⟩:=r.get (yn hi)
  exact ⟨vs,v,e.sqT h,hv⟩
 ·obtain ⟨e1,y⟩:=y
  subst e1
  obtain ⟨v',hv,rv⟩:=r.get (yn hi)
  have:=y vs (e.sqT h)
  rw [hv] at this
  cases this
  exact ⟨_,yn hi,Ext.refl,s,R.ext e _ rv⟩
def zlz {ρ:List Addr}{H:Hp}{a:Addr}{xs:List PV}{vs:List V}(h:FrL K H a vs) (r:Rs K mg ρ H xs vs):Walk K mg (Itl K a) ρ H (.im xs):=by
 have hs:∀{ah H'},Ext ρ H ah H'->SqL K H' a vs:=fun e=>(e.frl h).sq
 refine ⟨fun i ah H' e hi=>?_,fun i ah H' e hi=>⟨vs,hs e,by rw [<-r.len];exact hi⟩,fun i ah H' st v H2 e s hi y=>?_⟩
 ·obtain ⟨v,hv,_⟩:=r.get (yn hi)
  exact ⟨vs,v,hs e,hv⟩
 ·obtain ⟨e1,y⟩:=y
  subst e1
  obtain ⟨v',hv,rv⟩:=r.get (yn hi)
  have:=y vs (hs e)
  rw [hv] at this
  cases this
  exact ⟨_,yn hi,Ext.refl,s,R.ext e _ rv⟩
def signs (z:Str):List PV:=z.cps.toList.map fun c=>.str ⟨#[c]⟩
def zlA {ρ:List Addr}{H:Hp}(z:Str):Walk K mg (Its z) ρ H (.im (signs z)):=by
 have hl:(signs z).length=z.cps.size:=by simp [signs]
 refine ⟨fun i ah H' e hi=>by rw [hl] at hi;exact hi,fun i ah H' e hi=>by rw [hl] at hi;exact hi,fun i ah H' st v H2 e s hi y=>?_⟩
 obtain ⟨e1,c,hc,e2⟩:=y
 subst e1 e2
 refine ⟨.str ⟨#[c]⟩,?_,Ext.refl,s,rfl⟩
 simp [signs,hc]
def nums (lo:Int) (n:Nat):List PV:=(List.range n).map fun i=>.int (lo+(i:Nat))
def zlB {ρ:List Addr}{H:Hp}(lo:Int) (n:Nat):Walk K mg (Itr lo n) ρ H (.im (nums lo n)):=by
 have hl:(nums lo n).length=n:=by simp [nums]
 refine ⟨fun i ah H' e hi=>by rw [hl] at hi;exact hi,fun i ah H' e hi=>by rw [hl] at hi;exact hi,fun i ah H' st v H2 e s hi y=>?_⟩
 obtain ⟨e1,e2⟩:=y
 subst e1 e2
 rw [hl] at hi
 exact ⟨.int (lo+i),by simp [nums,hi],Ext.refl,s,rfl⟩
def seqOf:PV->Mo Sq
 | .tup xs,st=>.ok (.im xs) st
 | .frl xs,st=>.ok (.im xs) st
 | .str z,st=>.ok (.im (signs z)) st
 | .ref n,st=>yh st n fun _=>.ok (.rf n) st
 | _,_=>.stuck
def yY (f:ze->Mo PV):ze->Mo Sq:=fun env st=>(f env st).bind seqOf
def zak (h:ME X Er e fa):MI X Er tg e (yY fa):=PI.weak (zlx h) fun U H Q ⟨env,st,ρ,re,rs,h⟩=>⟨env,st,ρ,re,rs,h.then fun af H1 x st1 e1 s1 h1 v rv=>by
 cases x with
 | tup xs =>
  obtain ⟨a,vs,rfl,k1,k2⟩:=rv
  exact .inr (.inl ⟨a,rfl,⟨vs,k1⟩,Out.now (x:=Sq.im xs) h1 s1 _ (zly k1 k2)⟩)
 | frl xs =>
  obtain ⟨a,vs,rfl,k1,k2⟩:=rv
  exact .inl ⟨a,rfl,⟨vs,k1.sq⟩,Out.now (x:=Sq.im xs) h1 s1 _ (zlz k1 k2)⟩
 | str z =>
  cases rv
  exact .inr (.inr ⟨z,rfl,Out.now (x:=Sq.im (signs z)) h1 s1 _ (zlA z)⟩)
 | ref n =>
  obtain ⟨a,rfl,ha⟩:=rv
  obtain ⟨xs,hn,h1⟩:=yW h1
  obtain ⟨vs,k1,k2⟩:=s1.addr hn ha
  exact .inl ⟨a,rfl,⟨vs,SqL.of k1⟩,h1.now s1 _ ⟨a,ha,rfl⟩⟩
 | _=>exact h1.elim⟩
abbrev cR (j:Int):Bool:=decide (-(2 ^ 62)<=j)&&decide (j<2 ^ 62)
def zal:List PV->Mo Sq
 | [.int j],st=>if cR j=true then .ok (.im (nums 0 j.toNat)) st else .stuck
 | _,_=>.stuck
def zlC:List PV->Mo Sq
 | [.int i,.int j],st=>if cR i=true/\cR j=true then .ok (.im (nums i (j-i).toNat)) st else .stuck
 | _,_=>.stuck
def zlD {ρ:List Addr}{H:Hp}{xs:List PV}{st:Sto}{good:List Addr->Hp->Sq->Sto->Prop}(h:Out K mg ρ H (zal xs st) good Er):∃j,xs=[.int j] /\ -(2 ^ 62)<=j/\j<2 ^ 62/\Out K mg ρ H (.ok (.im (nums 0 j.toNat)) st) good Er:=by
 unfold zal at h
 split at h
 ·obtain ⟨c,h⟩:=Out.ifp h
  simp [cR] at c
  exact ⟨_,rfl,c.1,c.2,h⟩
 ·exact h.elim
def iRng1 (fs:ze->Mo (List PV)):ze->Mo Sq:=fun env st=>(fs env st).bind zal
def iRng2 (fs:ze->Mo (List PV)):ze->Mo Sq:=fun env st=>(fs env st).bind zlC
def wQ {a:Expr} (hm:X.mg "range" = none) (ha:MA X Er [a] fs) (hg:Gl X "range" := by rfl) (hs:starEach [a] X.env=[(false,eval a X.env)]:=by rfl):MI X Er tg (.Call (.Name "range" p) [a] [] pos) (iRng1 fs) :=
 PI.weak (ziv hg hm ha hs) fun U H Q ⟨env,st,ρ,re,rs,h⟩=>⟨env,st,ρ,re,rs,h.then fun af H1 xs st1 e1 s1 h1 vs rv=>by
  obtain ⟨j,rfl,c1,c2,h1⟩:=zlD h1
  obtain ⟨v,rfl,rfl⟩:=Rs.one rv
  exact ⟨j,rfl,c1,c2,h1.now s1 _ (zlB 0 j.toNat)⟩⟩
def whileF (t:ze->Mo Bool) (b:ze->Mo Fl):Nat->ze->Mo Fl
 | 0,_,_=>.stuck
 | n+1,env,st=>(t env st).bind fun c st1=>if c=true then (b env st1).bind fun fl st2=>match fl with
   | .nx e=>whileF t b n e st2
   | .ct e=>whileF t b n e st2
   | .bk e=>.ok (.nx e) st2
   | .rt v=>.ok (.rt v) st2
  else .ok (.nx env) st1
def zb3 (t:ze->Mo Bool) (b:ze->Mo Fl):ze->Mo Fl:=whileF t b lim
def zc1 (hp:PassesOwn (model X.prog X.w) X.A X.env X.xe) (hc:MT X Er c ga) (hb:MSs X Er sts gb):MS X Er (.While c sts [] pos) (zb3 ga gb) :=
 PS.weak (ziq hp hc hb) fun D U H ⟨env,st,ρ,re,rs,h⟩=>by
  refine ⟨fun m U H=>∃env st ρ,EnvR X.K X.mg ρ H env U/\StR X.K X.mg ρ H st/\Out X.K X.mg ρ H (whileF ga gb m env st) (gS X.K X.mg D) Er,⟨lim,env,st,ρ,re,rs,h⟩,?_⟩
  rintro m U H ⟨env,st,ρ,re,rs,h⟩
  cases m with
  | zero=>exact h.elim
  | succ m =>
   refine ⟨env,st,ρ,re,rs,Out.then h fun af H1 k st1 e1 s1 h1=>?_⟩
   cases k with
   | true =>
    change (if true=true then _ else D.nx U H1)
    rw [zE rfl]
    refine ⟨_,fun ai H' p'=>⟨m,jL m,p'⟩,env,st1,af,re.ext e1,s1,Out.then h1 fun am H3 fl st3 e3 s3 h3=>?_⟩
    cases fl with
    | nx e=>exact fun aA r4=>⟨e,st3,am,r4,s3,h3⟩
    | ct e=>exact fun aA r4=>⟨e,st3,am,r4,s3,h3⟩
    | bk e=>exact Out.fl (D:=D) (fl:=.nx e) (E:=Er) h3 s3
    | rt v=>exact Out.fl (D:=D) (fl:=.rt v) (E:=Er) h3 s3
   | false =>
    have z:D.nx U H1:=Out.fl (D:=D) (fl:=.nx env) (E:=Er) h1 s1 U (re.ext e1)
    exact z
def zc2 (cn fld:Str) (f:ze->Mo PV):ze->Mo Fl:=fun env st=>(f env st).bind fun x st1=>.err cn [fld] [x] st1
def zlE {cn fld:Str} {np cpos:Pos} (C:XOk X.prog X.w X.K X.mg X.base cn fld) (he:ME X Er e fa) (hr:Room 2 X.A) (ht:j1 X Er) (hc:X.calm=true) (hg:Gl X cn:=by rfl) (hdb:(cn==("__debug__" : Str))=false:=by decide)
  (hs:starEach [e] X.env=(false,eval e X.env)::starEach [] X.env:=by rfl):MS X Er (.Raise (some (.Call (.Name cn np) [e] [] cpos)) none pos) (zc2 cn fld fa):=by
 obtain ⟨C,f,fd,hm,M,F,hb⟩:=C
 exact PS.weak (zkz he M F hr hg hm hb (zbP ht) ht.one hc hdb hs) fun D U H ⟨env,st,ρ,re,rs,h⟩=>⟨env,st,ρ,re,rs,h.then fun af H1 x st1 e1 s1 h1 v rv d hd=>by
  exact h1 af _ _ _ (Ext.new hd) (s1.new hd) ⟨C,rfl,hm,.inr ⟨d,[v],rfl,yC,⟨v,[],rfl,R.ext (Ext.new hd) x rv,rfl⟩,rfl⟩⟩⟩
def sRaise0 (cn:Str):ze->Mo Fl:=fun _ st=>.err cn [] [] st
def noErr {α:Type}:Res α->Res α
 | .err _ _ _ _=>.stuck
 | r=>r
def wR {α β:Type}{ρ:List Addr}{H:Hp}{r:Res β}{f:β->Mo α}{good:List Addr->Hp->α->Sto->Prop}{good':List Addr->Hp->β->Sto->Prop}{E E':XK}(h:Out K mg ρ H ((noErr r).bind f) good E) (g:∀ah H' x st,Ext ρ H ah H'->StR K mg ah H' st->Out K mg ah H' (f x st) good E->good' ah H' x st):Out K mg ρ H r good' E':=by
 cases r with
 | ok x st=>exact fun ah H' e s=>g ah H' x st e s (Out.ext h e)
 | err=>exact h.elim
 | stuck=>exact h.elim
def kdAt (ks:List Str) (ps:List PV):PV->Mo PV
 | .str z,st=>optR ((ks.zip ps).lookup z) st
 | _,_=>.stuck
def KdF (X:Cx) (name:Str) (ks:List Str) (ps:List PV) (full:Bool):Prop:=∃O,X.mg name=some (.ref O)/\KD X O/\(∀z q,(ks.zip ps).lookup z=some q->∃u v,nsIn X.K O z=some (some u)/\RelV v u/\∀ρ H,R X.K X.mg ρ H q v)/\(full=true->∀z,(ks.zip ps).lookup z=none->nsIn X.K O z=some none)
def zlF {name:Str} {ks:List Str} {ps:List PV} {full:Bool} (F:KdF X name ks ps full) (hb:ME X Er b fb) (hs:PlainIx b:=by exact fun _ _=>rfl) (hg:Gl X name:=by rfl) (hd:(name==("__debug__" : Str))=false:=by decide):ME X Er (.Subscript (.Name name p) b pos) (jy (kdAt ks ps) fb):=by
 obtain ⟨O,hm,kd,hl,_⟩:=F
 refine PE.weak (zen zkH (zcC (v:=.ref O) hg hm rfl hd) hb hs) fun U H Q ⟨env,st,ρ,re,rs,h⟩=>⟨env,st,ρ,re,rs,h.then fun af H1 x st1 e1 s1 h1 v rv=>?_⟩
 cases x with
 | str z =>
  cases rv
  obtain ⟨q,hq,h1⟩:=wN h1
  obtain ⟨u,v,h2,h3,h4⟩:=hl z q hq
  exact ⟨O,z,u,v,rfl,rfl,kd,h2,h3,h1.now s1 _ (h4 _ _)⟩
 | _=>exact h1.elim
def kdIn (neg:Bool) (ks:List Str) (ps:List PV) (full:Bool):PV->Mo PV
 | .str z,st=>if ((ks.zip ps).lookup z).isSome=true\/full=true then .ok (.bl (neg.xor ((ks.zip ps).lookup z).isSome)) st else .stuck
 | _,_=>.stuck
def zlG {name:Str}{ks:List Str}{ps:List PV}{full:Bool}{O:Addr}(hl:∀z q,(ks.zip ps).lookup z=some q->∃u v,nsIn X.K O z=some (some u)/\RelV v u/\∀ρ H,R X.K X.mg ρ H q v) (hf:full=true->∀z,(ks.zip ps).lookup z=none->nsIn X.K O z=some none) {z:Str}(h:((ks.zip ps).lookup z).isSome=true\/full=true):∃r,nsIn X.K O z=some r/\r.isSome=((ks.zip ps).lookup z).isSome:=by
 cases hq:(ks.zip ps).lookup z with
 | some q=>obtain ⟨u,v,h2,_⟩:=hl z q hq;exact ⟨_,h2,rfl⟩
 | none =>
  rw [hq] at h
  rcases h with h|h
  ·cases h
  ·exact ⟨none,hf h z hq,rfl⟩
def zlH {name:Str} {ks:List Str} {ps:List PV} {full:Bool} (F:KdF X name ks ps full) (ha:ME X Er a fa) (hg:Gl X name:=by rfl) (hd:(name==("__debug__" : Str))=false:=by decide) (hk:behindInMarks .NotIn (.Name name p)=false:=by with_unfolding_all rfl):MT X Er (.Compare a [.NotIn] [.Name name p] pos) (mB (jy (kdIn true ks ps full) fa)):=by
 obtain ⟨O,hm,kd,hl,hf⟩:=F
 refine PT.weak (zd5 zkI ha (zcC (v:=.ref O) hg hm rfl hd) hk) fun U H Q h=>?_
 obtain ⟨env,st,ρ,re,rs,h⟩:=zcR h
 refine ⟨env,st,ρ,re,rs,h.then fun af H1 x st1 e1 s1 h1 v rv=>?_⟩
 cases x with
 | str z =>
  cases rv
  obtain ⟨q,h1⟩:=Out.ifp h1
  obtain ⟨r,h2,h3⟩:=zlG (name:=name) hl hf q
  have:=Out.now h1 s1 _ rfl
  exact ⟨O,z,r,rfl,rfl,kd,h2,by rw [h3];simpa using this⟩
 | _=>exact h1.elim
def yZ:PV->PV->Mo PV
 | .ref n,y,st=>yh st n fun xs=>if xs.length<lim then .ok .non (st.set n (.lst (xs++[y]))) else .stuck
 | _,_,_=>.stuck
def zlI:PV->PV->Mo PV
 | .ref n,.ref k,st=>yh st n fun xs=>yh st k fun ys=>if xs.length+ys.length<=lim then .ok .non (st.set n (.lst (xs++ys))) else .stuck
 | _,_,_=>.stuck
def R.refL {ρ:List Addr}{H:Hp}{st:Sto}{n:Nat}{xs:List PV}{v:V}(s:StR K mg ρ H st) (r:R K mg ρ H (.ref n) v) (h:st[n]?=some (.lst xs)):∃a vs,v=.ref a/\ρ[n]?=some a/\H a=some (.lst vs)/\Rs K mg ρ H xs vs:=by
 obtain ⟨a,rfl,ha⟩:=r
 obtain ⟨vs,h1,h2⟩:=s.addr h ha
 exact ⟨a,vs,rfl,ha,h1,h2⟩
def recL:PV->Mo PV
 | .ref n,st=>yh st n fun _=>.ok (.ref n) st
 | _,_=>.stuck
def yP (op:PV->PV->Mo PV) (fo fv:ze->Mo PV):ze->Mo PV:=fun env st=>(fo env st).bind fun o st1=>(recL o st1).bind fun o st1=>(fv env st1).bind fun y st2=>op o y st2
def zc3 {α:Type}{ρ:List Addr}{H:Hp}{x:PV}{st:Sto}{f:PV->Mo α}{good:List Addr->Hp->α->Sto->Prop}(h:Out K mg ρ H ((recL x st).bind f) good Er):∃n xs,x=.ref n/\st[n]?=some (.lst xs)/\Out K mg ρ H (f (.ref n) st) good Er:=by
 cases x with
 | ref n =>
  unfold recL yh at h
  cases hn:st[n]? with
  | none=>simp only [hn] at h;exact h.elim
  | some so =>
   cases so with
   | lst xs=>simp only [hn] at h;exact ⟨n,xs,rfl,hn,h⟩
   | _=>simp only [hn] at h;exact h.elim
 | _=>exact h.elim
def zam {cpos:Pos} (ho:ME X Er o fo) (he:ME X Er e fa) (hbase:attributeBase o "append" X.env (eval o X.env)=eval o X.env:=by rfl)
  (hfew:((backTo cpos (starEach [e] X.env)).all (fun x=>!x.1)&&(backToKw cpos (keywordEach [] X.env)).all (fun x=>x.1.isSome)&&decide ([e].length+([]:List Keyword).length+(if ([]:List Keyword).isEmpty then 0 else 1)<30))=true:=by rfl)
  (hline:(apos.endLine==cpos.line)=true:=by rfl) (hs:starEach [e] X.env=(false,eval e X.env)::starEach [] X.env:=by rfl) (hpl:(backTo cpos (starEach [] X.env)).any (·.1)=false:=by rfl):ME X Er (.Call (.Attribute o "append" apos) [e] [] cpos) (yP yZ fo fa) :=
 PE.weak (zcE PySem.F.plainAttrs_list PySem.F.slot_list_append PySem.F.type_list_append zjM ho (zbJ he zbI hs) hbase hfew hline hs hpl) fun U H Q ⟨env,st,ρ,re,rs,h⟩=>⟨env,st,ρ,re,rs,h.then fun af H1 x st1 e1 s1 h1 v rv=>by
  obtain ⟨n,xs,rfl,hn,h1⟩:=zc3 h1
  obtain ⟨p,vs,rfl,hp,k1,k2⟩:=R.refL s1 rv hn
  refine ⟨.inl ⟨rfl,vs,SqL.of k1⟩,env,st1,af,re.ext e1,s1,h1.then fun ao H2 y st2 e2 s2 h2 w rw=>?_⟩
  obtain ⟨xs2,hn2,h2⟩:=yW h2
  obtain ⟨c,h2⟩:=Out.ifp h2
  obtain ⟨p',vs2,e3,hp2,k3,k4⟩:=R.refL s2 (R.ext e2 _ rv) hn2
  cases e3
  have ew:Ext ao H2 ao (upd H2 p (.lst (vs2++[w]))):=Ext.write k3 rfl
  refine ⟨p,vs2,w,rfl,rfl,k3,?_,h2 ao _ ew (s2.write hp2 ew ⟨vs2++[w],yC,Rs.ext ew _ (k4.append ⟨w,[],rfl,rw,rfl⟩)⟩) _ rfl⟩
  rw [<-k4.len,sizeLine_eq];have:xs2.length<1000000:=c;omega⟩
end
def endOf:Fl->Mo PV
 | .rt v,st=>.ok v st
 | .nx _,st=>.ok .non st
 | _,_=>.stuck
def yp (np nN:Nat) (g:ze->Mo Fl):List PV->Mo PV:=fun xs st=>if xs.length=np then (g (xs.map some++List.replicate (nN-np) none) st).bind endOf else .stuck
section
variable {P:Program}{w:World}{K:Frag}{mg:Str->Option Value}{base:Heap}
abbrev cxD (P:Program) (w:World) (K:Frag) (mg:Str->Option Value) (base:Heap) (N:List Str) (qual:Str) (scope:Scope) (f:Addr) (cd:Value) (A:Around) (outer:List Env) (s:Shared) (H:Hp) (E:XK):Cx :=
 (cxOf (CXe P w) P w K mg base N qual scope f cd A outer s H E).wish (XA (cxOf (CXe P w) P w K mg base N qual scope f cd A outer s H E) E)
def zlJ {N:List Str}{np:Nat}{ρ:List Addr}{H:Hp}{xs:List PV}{vs:List V}(r:Rs K mg ρ H xs vs) (h:xs.length=np):EnvR K mg ρ H (xs.map some++List.replicate (N.length-np) none) (L2.start N vs):=by
 have hl:=r.len
 refine ⟨by simp [L2.start,<-hl,h],fun i x hx=>?_⟩
 by_cases hi:i<xs.length
 ·rw [we (by simpa using hi)] at hx
  simp only [jt] at hx
  cases hq:xs[i]? with
  | none=>rw [hq] at hx;cases hx
  | some y =>
   rw [hq] at hx
   cases hx
   obtain ⟨v,hv,rv⟩:=r.get hq
   refine ⟨v,?_,rv⟩
   unfold L2.start
   rw [we (by simp;omega)]
   simp [hv]
 ·rw [jZ (by simpa using hi)] at hx
  rw [List.getElem?_replicate] at hx
  split at hx<;>cases hx
def zb4 {x qual:Str}{sm:Stmt}{f:Addr}{fd:FuncData}{N ps:List Str}{k:Nat}{g:ze->Mo Fl}(F:Fun K x qual sm f fd) (S:FnScope N ps (zT sm))
  (hb:∀(cdv:Value) (A:Around) (outer:List Env) (s:Shared) (H:Hp) (E:XK),Room k (A.deeper (PyProof.Rows.envOfC qual (zT sm) s.heap.objs.size f cdv))->MSs (cxD P w K mg base N qual (zT sm) f cdv A outer s H E) E (yV sm) g) :
  FnOk P w K mg base (CXe P w) (k+1) f fd ps (spM K mg (yp ps.length N.length g)):=by
 refine F.okT S (fun vs H Q E h=>?_) fun cdv A outer s H vs Q E hr h=>⟨_,hb cdv A outer s H E hr,?_⟩
 ·obtain ⟨xs,st,ρ,r,_,h⟩:=h
  obtain ⟨hl,_⟩:=Out.ifp h
  rw [<-r.len];exact hl
 ·obtain ⟨xs,st,ρ,r,rs,h⟩:=h
  obtain ⟨hl,h⟩:=Out.ifp h
  refine ⟨_,st,ρ,zlJ r hl,rs,h.then fun af H1 fl st1 e1 s1 h1=>?_⟩
  cases fl with
  | rt v=>exact fun u ru=>Out.now (x:=v) h1 s1 u ru
  | nx e=>exact fun ai _=>Out.now (x:=PV.non) h1 s1 _ rfl
  | _=>exact h1.elim
def fok {x:Str}{f:Addr}{fd:FuncData}{ps:List Str}{k:Nat}{m:List PV->Mo PV}{sm:Stmt}{qual nm:Str}(hm:mg x=some (.ref f)) (F:Fun K nm qual sm f fd) (hb:Binds K fd ps []) (h:FnOk P w K mg base (CXe P w) k f fd ps (spM K mg m)):FOk P w K mg base x k m:=⟨f,fd,ps,hm,F.kp,hb,h⟩
end
section
variable {X:Cx}{Er:XK}{P:Program}{w:World}{K:Frag}{mg:Str->Option Value}{base:Heap}{pos:Pos}{x:Str}{st:Stmt}
def zy {k:Nat}{A:Around}(hr:Room k A):A.units+200<cLine:=by have:=hr.un;omega
def zc4:ze->Mo Fl:=fun _ _=>.stuck
def FnF (K:Frag) (mg:Str->Option Value) (x:Str) (sm:Stmt) (ps:List Str):Prop:=∃f fd,mg x=some (.ref f)/\Fun K x x sm f fd/\Binds K fd ps []
def MtF (K:Frag) (mg:Str->Option Value) (c name qual:Str) (sm:Stmt) (ps:List Str):Prop:=∃C f fd,mg c=some (.ref C)/\Cls K C/\Meth K C name f/\Fun K name qual sm f fd/\Binds K fd ps []
def NwF (K:Frag) (mg:Str->Option Value) (c qual:Str) (sm:Stmt) (ps:List Str):Prop:=∃C f fd,mg c=some (.ref C)/\Mk K C f/\Fun K "__init__" qual sm f fd/\Binds K fd ps []
def XnF (K:Frag) (mg:Str->Option Value) (c fld qual:Str) (sm:Stmt):Prop:=∃C f fd,mg c=some (.ref C)/\ExMk K C f/\ExCls K C fld/\Fun K "__init__" qual sm f fd/\Binds K fd ["self", fld] []
def FnF.ok {sm:Stmt}{N ps:List Str}{k:Nat}{g:ze->Mo Fl}(h:FnF K mg x sm ps) (S:FnScope N ps (zT sm))
  (hb:∀(f:Addr) (cdv:Value) (A:Around) (outer:List Env) (s:Shared) (H:Hp) (E:XK),Room k (A.deeper (PyProof.Rows.envOfC x (zT sm) s.heap.objs.size f cdv))->MSs (cxD P w K mg base N x (zT sm) f cdv A outer s H E) E (yV sm) g) :
  FOk P w K mg base x (k+1) (yp ps.length N.length g):=by
 obtain ⟨f,fd,hm,F,b⟩:=h
 exact fok hm F b (zb4 F S (hb f))
def MtF.ok {c name qual:Str}{sm:Stmt}{N ps:List Str}{k:Nat}{g:ze->Mo Fl}(h:MtF K mg c name qual sm ps) (S:FnScope N ps (zT sm))
  (hb:∀(f:Addr) (cdv:Value) (A:Around) (outer:List Env) (s:Shared) (H:Hp) (E:XK),Room k (A.deeper (PyProof.Rows.envOfC qual (zT sm) s.heap.objs.size f cdv))->MSs (cxD P w K mg base N qual (zT sm) f cdv A outer s H E) E (yV sm) g) :
  MOk P w K mg base c name (k+1) (yp ps.length N.length g):=by
 obtain ⟨C,f,fd,hm,cl,mt,F,b⟩:=h
 exact ⟨C,f,fd,ps,hm,cl,mt,b,zb4 F S (hb f)⟩
def NwF.ok {c qual:Str}{sm:Stmt}{N ps:List Str}{k:Nat}{g:ze->Mo Fl}(h:NwF K mg c qual sm ps) (S:FnScope N ps (zT sm))
  (hb:∀(f:Addr) (cdv:Value) (A:Around) (outer:List Env) (s:Shared) (H:Hp) (E:XK),Room k (A.deeper (PyProof.Rows.envOfC qual (zT sm) s.heap.objs.size f cdv))->MSs (cxD P w K mg base N qual (zT sm) f cdv A outer s H E) E (yV sm) g) :
  NOk P w K mg base c (k+1) (yp ps.length N.length g):=by
 obtain ⟨C,f,fd,hm,mk,F,b⟩:=h
 exact ⟨C,f,fd,ps,hm,mk,b,zb4 F S (hb f)⟩
def XnF.ok {c fld qual:Str} {sm:Stmt} (h:XnF K mg c fld qual sm) (S:FnScope ["self", fld] ["self", fld] (zT sm))
  (hb:∀(C f:Addr) (cdv:Value) (A:Around) (outer:List Env) (s:Shared) (H:Hp) (E:XK),ExCls K C fld->PSs (cxOf (CXe P w) P w K mg base ["self", fld] qual (zT sm) f cdv A outer s H E) (yV sm) (zeO K (zbE 0) (zbE 1) fld)) :
  XOk P w K mg base c fld:=by
 obtain ⟨C,f,fd,hm,M,xc,F,b⟩:=h
 refine ⟨C,f,fd,hm,M,F.okX S (fun vs H Q E h=>?_) (fun cdv A outer s H vs Q E hr h=>⟨_,hb C f cdv A outer s H E xc,?_⟩),b⟩
 ·obtain ⟨a,t,y,rfl,_⟩:=h;rfl
 ·obtain ⟨a,t,y,rfl,ha,q⟩:=h
  exact ⟨y,rfl,.ref a,rfl,a,C,t,rfl,ha,xc,fun d hd=>q d hd⟩
def zaF {p:Addr} {oc:Value} {od:Option Addr} {its:Array Value} {n:Nat} {sl:Array (Option Value)} {xs:List PV} {vs:List V} (hl:K.lookup p=some ⟨oc,od,.seq its n,sl⟩) (hc:oc=.type "tuple") (hz:its.size<=1000) (hv:Vals vs its.toList) (hr:∀ρ H,Rs K mg ρ H xs vs):∀ρ H,R K mg ρ H (.tup xs) (.ref p) :=
 fun ρ H=>⟨p,vs,rfl,.inr ⟨_,its,n,hl,hc,rfl,by rw [sizeLine_eq];omega,hv⟩,hr ρ H⟩
def wS:bootBuiltins "len" = some (.builtin "len"):=by decide +kernel
def zlK:bootBuiltins "isinstance" = some (.builtin "isinstance"):=by decide +kernel
def ze6:bootBuiltins "str" = some (.type "str"):=by decide +kernel
def wA:bootBuiltins "tuple" = some (.type "tuple"):=by decide +kernel
def ze7:bootBuiltins "list" = some (.type "list"):=by decide +kernel
end
def FOk.mono {P:Program}{w:World}{K:Frag}{mg:Str->Option Value}{base:Heap}{x:Str}{j k:Nat}{m:List PV->Mo PV}(h:FOk P w K mg base x j m) (hjk:j<=k):FOk P w K mg base x k m:=by
 obtain ⟨f,fd,ps,h1,h2,h3,h4⟩:=h
 exact ⟨f,fd,ps,h1,h2,h3,h4.mono hjk⟩
def MOk.mono {P:Program}{w:World}{K:Frag}{mg:Str->Option Value}{base:Heap}{c x:Str}{j k:Nat}{m:List PV->Mo PV}(h:MOk P w K mg base c x j m) (hjk:j<=k):MOk P w K mg base c x k m:=by
 obtain ⟨C,f,fd,ps,h1,h2,h3,h4,h5⟩:=h
 exact ⟨C,f,fd,ps,h1,h2,h3,h4,h5.mono hjk⟩
def spLaw (K:Frag):Sp:=fun vs H Q _=>∃(a:Addr) (ns:List Int),vs=[.ref a]/\SqL K H a (ns.map V.int)/\Only H/\ns.length<=63/\∀H',Q (.bl true) H'
def ze8 {K:Frag}{mg:Str->Option Value}{ρ:List Addr}{H:Hp}:∀ns:List Int,Rs K mg ρ H (ns.map PV.int) (ns.map V.int)
 | []=>rfl
 | n::ns=>⟨_,_,rfl,rfl,ze8 ns⟩
def zlL {K:Frag}{H:Hp}{a:Addr}{vs:List V}(h:SqL K H a vs) (o:Only H):FrL K H a vs:=by
 rcases h with (h|⟨ob,h⟩)|h
 ·rcases o a with z|⟨ob,xs,z⟩
  ·rw [h] at z;cases z
  ·rw [h] at z;cases z
 ·exact .inl ⟨ob,h⟩
 ·exact .inr h
def zlM {P:Program}{w:World}{K:Frag}{mg:Str->Option Value}{base:Heap}{k:Nat}{f:Addr}{fd:FuncData}{ps:List Str}{m:List PV->Mo PV}(F:FnOk P w K mg base (CXe P w) k f fd ps (spM K mg m)) (h:∀ns:List Int,ns.length<=63->∃st,m [.frl (ns.map PV.int)] []=.ok (.bl true) st):FnOk P w K mg base (CXe P w) k f fd ps (spLaw K) :=
 F.imp fun vs H Q E ⟨a,ns,e,hs,ho,hl,q⟩=>by
  subst e
  obtain ⟨st,hm⟩:=h ns hl
  refine ⟨[.frl (ns.map PV.int)],[],[],⟨_,[],rfl,⟨a,_,rfl,zlL hs ho,ze8 ns⟩,rfl⟩,⟨rfl,List.nodup_nil,fun n so e=>by simp at e⟩,?_⟩
  rw [hm]
  intro ah H' _ _ v rv
  cases rv
  exact q H'
def walkM {l:PySem.W.OpenLaw}{k:Nat}{x:Str}{q:Program}{loose:List Str}{XP:(Str->Option Value)->Heap->Prop}{YP:World->Heap->Prop}{d:DefRec}{K:Params->PySem.W.Frag}(hn:l.most=some 63) (hdf:d.params.defaults=[]) (hr:Room k callerA)
  (hY:∀(w:World) (h:Heap),YP w h->(K w.params).In h)
  (F:∀(w:World) (mg:Str->Option Value) (fa:Addr) (h:Heap),(K w.params).In h->h.Ns mainGlobals mg->mg d.name=some (.ref fa) ->
   ∃fd:FuncData,(∀(s:Shared) (u:Value),BindsTo s fd ⟨[u],[]⟩ [(x,u)])/\∀base:Heap,(K w.params).In base->base.Ns mainGlobals mg->FnOk l.prog w (K w.params) mg base (CXe l.prog w) k fa fd [x] (spLaw (K w.params))) :
  PySem.W.WalkO q loose XP YP l.row.toRowW d [] (fun f vs=>PySem.call f vs) :=
 L2.zjW (n:=63) (k:=k) (x:=x) (CX:=fun w=>CXe l.prog w) (sp:=fun w=>spLaw (K w.params)) hn (by decide) hdf hr hY F (fun _ _ a ns hl ho hS=>⟨a,ns,rfl,hS,ho,hl,fun _=>rfl⟩) fun w H s e s' ⟨_,_,_,_,_,_,_,_,_,_,_,_,_,_,_,z⟩=>z
section
variable {α β:Type}{env:ze}{st st1:Sto}{fa fb fc fo fv:ze->Mo PV}{fs:ze->Mo (List PV)}{ga gb:ze->Mo Bool}{g g':ze->Mo Fl}{op op':PV->PV->Mo PV}{o1:PV->Mo PV}{m:List PV->Mo PV}
@[simp] def zL (a:α) (f:α->Mo β):(Res.ok a st).bind f=f a st:=(rfl)
@[simp] def zqk (f:α->Mo β):(Res.stuck:Res α).bind f=.stuck:=(rfl)
@[simp] def zql (p:Prop) [Decidable p] (a b:Res α) (f:α->Mo β):(if p then a else b).bind f=if p then a.bind f else b.bind f:=by split<;>rfl
@[simp] def zlN (i:Nat):zd i env st=(match env[i]? with|some (some x)=>.ok x st|_=>.stuck):=(rfl)
@[simp] def zqm (x:PV):mC x env st=.ok x st:=(rfl)
@[simp] def zlO:zf op fa fb env st=(fa env st).bind fun x st1=>(fb env st1).bind fun y st2=>op x y st2:=(rfl)
@[simp] def zlP:jy o1 fa env st=(fa env st).bind o1:=(rfl)
@[simp] def zlQ:mB fa env st=(fa env st).bind asB:=(rfl)
@[simp] def zc5 (b:Bool):asB (.bl b) st=.ok b st:=(rfl)
@[simp] def ze9:jM ga gb env st=(ga env st).bind fun c st1=>if c=true then gb env st1 else .ok false st1:=(rfl)
@[simp] def zfa:jn ga gb env st=(ga env st).bind fun c st1=>if c=true then .ok true st1 else gb env st1:=(rfl)
@[simp] def zlR:za8 ga env st=(ga env st).bind fun c st1=>.ok (!c) st1:=(rfl)
@[simp] def zfb:zbV fa fb env st=(fa env st).bind fun x st1=>(asB x st1).bind fun c st2=>if c=true then fb env st2 else .ok (.bl false) st2:=(rfl)
@[simp] def zqn:zk env st=.ok [] st:=(rfl)
@[simp] def zlS:zc fa fs env st=(fa env st).bind fun x st1=>(fs env st1).bind fun xs st2=>.ok (x::xs) st2:=(rfl)
@[simp] def zlT:zx fs env st=(fs env st).bind fun xs st1=>if xs.length<=lim then .ok (.tup xs) st1 else .stuck:=(rfl)
@[simp] def zlU:yR fs env st=(fs env st).bind fun xs st1=>if xs.length<=lim then .ok (.ref st1.length) (st1++[.lst xs]) else .stuck:=(rfl)
@[simp] def zlV (fl fu:ze->Mo (Option Int)):jE fa fl fu env st=(fa env st).bind fun x st1=>(fl env st1).bind fun l st2=>(fu env st2).bind fun u st3=>oSl x l u st3:=(rfl)
@[simp] def zqo:pNone env st=.ok none st:=(rfl)
@[simp] def zlW:pSome fa env st=(fa env st).bind asI:=(rfl)
@[simp] def zlX (i:Int):asI (.int i) st=.ok (some i) st:=(rfl)
@[simp] def zlY:zu m fs env st=(fs env st).bind m:=(rfl)
@[simp] def zqp (C:Int->Int->Bool) (f:Int->Int->Int) (i j:Int):opI C f (.int i) (.int j) st=if C i j=true then .ok (.int (f i j)) st else .stuck:=(rfl)
@[simp] def zqq (f:Int->Int->Bool) (i j:Int):opB f (.int i) (.int j) st=.ok (.bl (f i j)) st:=(rfl)
@[simp] def zqr (i j:Int):zI (.int i) (.int j) st=.ok (.int (i+j)) st:=(rfl)
@[simp] def zlZ (x y:Str):zI (.str x) (.str y) st=if x.length+y.length<=lim then .ok (.str (x++y)) st else .stuck:=(rfl)
@[simp] def zqs (x:PV):optR (some x) st=.ok x st:=(rfl)
@[simp] def zl0 (xs:List PV) (l u:Option Int):oSl (.tup xs) l u st=.ok (.tup (cutP xs l u)) st:=(rfl)
@[simp] def zqt (xs:List PV) (l u:Option Int):oSl (.frl xs) l u st=.ok (.ref st.length) (st++[.lst (cutP xs l u)]):=(rfl)
@[simp] def zqu (x y:PV):zS x y st=if plain x=true/\plain y=true/\dep x<=150 then .ok (.bl (eqP x y)) st else .stuck:=(rfl)
@[simp] def zqv (x y:PV):wx x y st=if plain x=true/\plain y=true/\dep x<=150 then .ok (.bl (!eqP x y)) st else .stuck:=(rfl)
@[simp] def zl1:yd env st=.ok (.nx env) st:=(rfl)
@[simp] def zfc:zv g g' env st=(g env st).bind (flowOn g'):=(rfl)
@[simp] def zl2:flowOn g (.nx env) st=g env st:=(rfl)
@[simp] def zl3 (x:PV):flowOn g (.rt x) st=.ok (.rt x) st:=(rfl)
@[simp] def zl4 (i:Nat):zC i fa env st=(fa env st).bind fun x st1=>.ok (.nx (env.set i (some x))) st1:=(rfl)
@[simp] def zl5:y7 fa env st=(fa env st).bind fun _ st1=>.ok (.nx env) st1:=(rfl)
@[simp] def zl6:zY fa env st=(fa env st).bind fun x st1=>.ok (.rt x) st1:=(rfl)
@[simp] def zfd:ya ga g g' env st=(ga env st).bind fun c st1=>if c=true then g env st1 else g' env st1:=(rfl)
@[simp] def zqw (c f:Str):zc2 c f fa env st=(fa env st).bind fun x st1=>.err c [f] [x] st1:=(rfl)
@[simp] def zl7 (x:PV):endOf (.rt x) st=.ok x st:=(rfl)
@[simp] def zqx (e:ze):endOf (.nx e) st=.ok .non st:=(rfl)
@[simp] def zan:yY fa env st=(fa env st).bind seqOf:=(rfl)
@[simp] def zbf (src:ze->Mo Sq) (gt:PV->ze->Option ze):jd src gt g env st=(src env st).bind fun q st1=>forS gt g q env st1:=(rfl)
@[simp] def zl8 (gt:PV->ze->Option ze) (xs:List PV):forS gt g (.im xs) env st=forL gt g xs env st:=(rfl)
@[simp] def zqy (gt:PV->ze->Option ze):forL gt g [] env st=.ok (.nx env) st:=(rfl)
@[simp] def zqz (x:PV) (xs:List PV):plains (x::xs)=(Mi.plain x&&plains xs):=(rfl)
@[simp] def zqA (x:PV) (xs:List PV):deps (x::xs)=max (dep x) (deps xs):=(rfl)
@[simp] def zc6 (a:α):noErr (Res.ok a st)=.ok a st:=(rfl)
@[simp] def zqB:isNon .non=true:=(rfl)
def yt {n:Nat}{xs:List PV}(h:st[n]?=some (.lst xs)) (k:List PV->Res α):yh st n k=k xs:=by unfold yh;rw [h]
def zfe {n:Nat}{c:Str}{ks:List Str}{xs:List PV}(h:st[n]?=some (.ins c ks xs)) (k:Str->List Str->List PV->Res α):jr st n k=k c ks xs:=by unfold jr;rw [h]
@[simp] def zqC (xs:List PV) (k:List PV->Res α):yh (st++[.lst xs]) st.length k=k xs:=yt (by simp) k
def zl9 {name:Str}{tab:Str->Option (List PV->Mo PV)}{n:Nat}{c:Str}{ks:List Str}{xs:List PV}{m:List PV->Mo PV}(h:st[n]?=some (.ins c ks xs)) (hk:name∉ks) (ht:tab c=some m) (k:Nat->(List PV->Mo PV)->Res PV):methAt name tab (.ref n) st k=k n m:=by
 unfold methAt
 simp only [zfe h,zN hk,ht]
@[simp] def zma (f:Str) (i x:Str->Bool) (n:Nat):fldAt f i x (.ref n) st=jr st n fun c ks xs=>if i c=true then optR ((ks.zip xs).lookup f) st else .stuck:=(rfl)
@[simp] def zqD (ks:List Str) (ps:List PV) (z:Str):kdAt ks ps (.str z) st=optR ((ks.zip ps).lookup z) st:=(rfl)
@[simp] def zqE (f:Str) (i:Str->Bool):Mi.sFld f i fo fv env st=(fv env st).bind fun x st1=>(fo env st1).bind fun o st2=>(putAt f i x o st2).bind fun _ st3=>.ok (.nx env) st3:=(rfl)
@[simp] def zmb:yP op fo fv env st=(fo env st).bind fun o st1=>(recL o st1).bind fun o st1=>(fv env st1).bind fun y st2=>op o y st2:=(rfl)
@[simp] def zmc (n:Nat):recL (.ref n) st=yh st n fun _=>.ok (.ref n) st:=(rfl)
@[simp] def zmd (a b:String):(Str.ofString a=Str.ofString b)↔a=b:=by
 constructor
 ·intro h
  rw [Str.ofString_eq_byList] at h
  have h1:(a.toList.map Char.toNat)=(b.toList.map Char.toNat):=by
   have:=congrArg (fun z=>z.cps.toList) h
   simpa [Str.ofStringByList] using this
  apply String.ext_iff.mpr
  exact (List.map_inj_right (fun c d e=>Char.toNat_inj.mp e)).mp h1
 ·intro h;rw [h]
def zbg (n:Nat):whileF ga g (n+1) env st=(ga env st).bind fun c st1=>if c=true then (g env st1).bind fun fl st2=>match fl with
   | .nx e=>whileF ga g n e st2
   | .ct e=>whileF ga g n e st2
   | .bk e=>.ok (.nx e) st2
   | .rt v=>.ok (.rt v) st2
  else .ok (.nx env) st1:=rfl
@[simp] def zme:lim=1000000:=(rfl)
@[simp] def zqF (f:Str) (i:Str->Bool) (x:PV) (n:Nat):Mi.putAt f i x (.ref n) st=jr st n fun c ks xs=>if i c=true/\ks.length<1000 then .ok () (st.set n (.ins c (putK f x ks xs).1 (putK f x ks xs).2)) else .stuck:=(rfl)
end
section
variable {K:Frag}{mg:Str->Option Value}{h:Heap}{x:Str}{f C:Addr}{oc:Value}{od an:Option Addr}{osl:Array (Option Value)}{kV doc pm cdv ct:Value}{sm:Stmt}{ps:List Str}
def zbh (X:K.In h) (G:h.Ns mainGlobals mg) (a:nsIn K mainGlobals x=some (some (.ref f))) (l:K.lookup f=some ⟨oc,od,.func (fnOf x x (jC sm) (yV sm) (zT sm) .none kV doc pm an cdv ct),osl⟩) (c:codeIn K cdv x=true) (k:keepIn K (.ref f)=true)
  (b:∀(kV doc pm:Value) (an:Option Addr) (cdv ct:Value) (us:List Value),us.length=ps.length->bindArgs (fnOf x x (jC sm) (yV sm) (zT sm) .none kV doc pm an cdv ct) ⟨us,[]⟩=pure (ps.zip us)):FnF K mg x sm ps :=
 ⟨f,_,mg_of X G a,wK l c k,(wK l c k).binds b⟩
def zmf {c name qual:Str} (X:K.In h) (G:h.Ns mainGlobals mg) (aC:nsIn K mainGlobals c=some (some (.ref C))) (pg:plainGet K C Str.empty=true) (hd:hasDictIn K C=true) (po:plainOver K C=true) (sa:findIn K (.ref C) "__setattr__" = some (some (.builtin "object.__setattr__")))
  (a:findIn K (.ref C) name=some (some (.ref f))) (i:isFn K (.ref f)=true) (l:K.lookup f=some ⟨oc,od,.func (fnOf name qual (jC sm) (yV sm) (zT sm) .none kV doc pm an cdv ct),osl⟩) (cd:codeIn K cdv qual=true) (k:keepIn K (.ref f)=true)
  (b:∀(kV doc pm:Value) (an:Option Addr) (cdv ct:Value) (us:List Value),us.length=ps.length->bindArgs (fnOf name qual (jC sm) (yV sm) (zT sm) .none kV doc pm an cdv ct) ⟨us,[]⟩=pure (ps.zip us)):MtF K mg c name qual sm ps :=
 ⟨C,f,_,mg_of X G aC,⟨pg,hd,po,sa⟩,⟨a,i,k⟩,wK l cd k,(wK l cd k).binds b⟩
def zmg {c qual:Str}(X:K.In h) (G:h.Ns mainGlobals mg) (aC:nsIn K mainGlobals c=some (some (.ref C))) (mk:makesIn K C=true) (kc:keepIn K (.ref C)=true)
  (a:findIn K (.ref C) "__init__" = some (some (.ref f))) (i:isFn K (.ref f)=true) (l:K.lookup f=some ⟨oc,od,.func (fnOf "__init__" qual (jC sm) (yV sm) (zT sm) .none kV doc pm an cdv ct),osl⟩) (cd:codeIn K cdv qual=true) (k:keepIn K (.ref f)=true)
  (b:∀(kV doc pm:Value) (an:Option Addr) (cdv ct:Value) (us:List Value),us.length=ps.length->bindArgs (fnOf "__init__" qual (jC sm) (yV sm) (zT sm) .none kV doc pm an cdv ct) ⟨us,[]⟩=pure (ps.zip us)):NwF K mg c qual sm ps :=
 ⟨C,f,_,mg_of X G aC,⟨mk,a,i,kc⟩,wK l cd k,(wK l cd k).binds b⟩
def zmh {cd:ClassData}(h:clsIn K C=some cd) (v:valLine cd.mro=true):lineIn K C=true:=by unfold lineIn;rw [h];exact v
def zmi {c fld qual:Str}{B N:Addr}{nm q:Str}{bs:List Value}{hdct:Bool}{sn:List Str}{sub:List Value}{ab:Bool}{col:Option Bool}{dd:Option Addr}{k0 k1 k2 k3 k5:Option Value}{cc:Value}{d:Option Addr}{es:Array DictEntry}{n:Nat}{sl:Array (Option Value)}{cd0:ClassData}
  (X:K.In h) (G:h.Ns mainGlobals mg) (aC:nsIn K mainGlobals c=some (some (.ref C)))
  (hC:K.lookup C=some (excClassObj nm q C N bs (.ref B::veLine) hdct sn sub ab col dd k0 k1 k2 k3 k5 "ValueError.__new__")) (hB:excIn K B veLine "ValueError.__new__" = true)
  (hN:K.lookup N=some ⟨cc,d,.dict es n,sl⟩) (he:(es.all fun e=>match e.key with | .str _ _=>true|_=>false)=true) (hi:nsIn K N "__init__" = some (some (.ref f))) (fn:isFn K (.ref f)=true) (kp:keepIn K (.ref C)=true)
  (sa:findIn K (.ref C) "__setattr__" = some (some (.builtin "object.__setattr__"))) (hcl:clsIn K C=some cd0) (hl:valLine cd0.mro=true) (no:takerIn K C fld=some none) (hdI:hasDictIn K C=true)
  (l:K.lookup f=some ⟨oc,od,.func (fnOf "__init__" qual (jC sm) (yV sm) (zT sm) .none kV doc pm an cdv ct),osl⟩) (cdd:codeIn K cdv qual=true) (k:keepIn K (.ref f)=true)
  (b:∀(kV doc pm:Value) (an:Option Addr) (cdv ct:Value) (us:List Value),us.length=[("self" : Str),fld].length->bindArgs (fnOf "__init__" qual (jC sm) (yV sm) (zT sm) .none kV doc pm an cdv ct) ⟨us,[]⟩=pure ([("self" : Str),fld].zip us)):XnF K mg c fld qual sm :=
 ⟨C,f,_,mg_of X G aC,ExMk.mk' hC hB hN he hi fn kp,⟨sa,zmh hcl hl,no,hdI⟩,wK l cdd k,(wK l cdd k).binds b⟩
def zff {c fld:Str} (X:K.In h) (G:h.Ns mainGlobals mg) (aC:nsIn K mainGlobals c=some (some (.ref C))) (pg:plainGet K C Str.empty=true) (hd:hasDictIn K C=true) (po:plainOver K C=true) (sa:findIn K (.ref C) "__setattr__" = some (some (.builtin "object.__setattr__"))) (na:findIn K (.ref C) fld=some none) :
  ∃C,mg c=some (.ref C)/\Cls K C/\NoAttr K C fld:=⟨C,mg_of X G aC,⟨pg,hd,po,sa⟩,na⟩
def zfg {c fld:Str} (X:K.In h) (G:h.Ns mainGlobals mg) (aC:nsIn K mainGlobals c=some (some (.ref C))) (ga:findIn K (.ref C) "__getattribute__" = some (some (.builtin "BaseException.__getattribute__"))) (hk:findIn K (.ref C) "__getattr__" = some none) (hB:mroIn K C (.type "BaseException")=some true)
  (hd:hasDictIn K C=true) (no:findIn K (.ref C) fld=some none):∃C,mg c=some (.ref C)/\ExGa K C/\hasDictIn K C=true/\findIn K (.ref C) fld=some none:=⟨C,mg_of X G aC,⟨ga,hk,hB⟩,hd,no⟩
def zmj {α:Type}{P:α->Prop}:∀p∈([]:List α),P p:=fun _ h=>nomatch h
def all_cons {α:Type}{P:α->Prop}{a:α}{l:List α}(h:P a) (t:∀p∈l,P p):∀p∈a::l,P p:=fun p hp=>by
 rcases yD.mp hp with rfl|hp
 ·exact h
 ·exact t p hp
def zfh {α β:Type} [BEq α] [LawfulBEq α] {a:α}{b:β}:∀{l:List (α×β)},l.lookup a=some b->(a,b)∈l
 | [],h=>by simp at h
 | (c,d)::l,h=>by
  rw [jx] at h
  split at h
  ·rename_i e;cases h;rw [eq_of_beq e];simp
  ·exact jh _ (zfh h)
def wm {O t t2:Addr} {wd k1 k2 y:Str} {u1 u2:Tok} {n n2:Nat} {od2:Option Addr} {sl sl2:Array (Option Value)} (X:K.In h) (G:h.Ns mainGlobals mg) (e:nsIn K O wd=some (some (.ref t))) (l1:K.lookup t=some ⟨.type "tuple", od,.seq #[.ref t2,.ref f] n,sl⟩)
  (l2:K.lookup t2=some ⟨.type "tuple", od2,.seq #[.str k1 u1,.str k2 u2] n2,sl2⟩) (a:nsIn K mainGlobals y=some (some (.ref f))):∃u v,nsIn K O wd=some (some u)/\RelV v u/\∀ρ H,R K mg ρ H (.tup [.tup [.str k1,.str k2],.fn y]) v:=by
 refine ⟨_,.ref t,e,rfl,zaF (xs:=[.tup [.str k1,.str k2],.fn y]) (vs:=[.ref t2,.ref f]) l1 rfl (by simp) (.cons rfl (.cons rfl .nil)) fun ρ H=>?_⟩
 exact ⟨_,_,rfl,zaF (xs:=[.str k1,.str k2]) (vs:=[.str k1,.str k2]) l2 rfl (by simp) (.cons ⟨_,rfl⟩ (.cons ⟨_,rfl⟩ .nil)) (fun ρ H=>⟨_,_,rfl,rfl,_,_,rfl,rfl,rfl⟩) ρ H,_,_,rfl,⟨f,rfl,mg_of X G a⟩,rfl⟩
def zbi {O t t2:Addr} {wd k1 y:Str} {u1:Tok} {n n2:Nat} {od2:Option Addr} {sl sl2:Array (Option Value)} (X:K.In h) (G:h.Ns mainGlobals mg) (e:nsIn K O wd=some (some (.ref t))) (l1:K.lookup t=some ⟨.type "tuple", od,.seq #[.ref t2,.ref f] n,sl⟩)
  (l2:K.lookup t2=some ⟨.type "tuple", od2,.seq #[.str k1 u1] n2,sl2⟩) (a:nsIn K mainGlobals y=some (some (.ref f))):∃u v,nsIn K O wd=some (some u)/\RelV v u/\∀ρ H,R K mg ρ H (.tup [.tup [.str k1],.fn y]) v:=by
 refine ⟨_,.ref t,e,rfl,zaF (xs:=[.tup [.str k1],.fn y]) (vs:=[.ref t2,.ref f]) l1 rfl (by simp) (.cons rfl (.cons rfl .nil)) fun ρ H=>?_⟩
 exact ⟨_,_,rfl,zaF (xs:=[.str k1]) (vs:=[.str k1]) l2 rfl (by simp) (.cons ⟨_,rfl⟩ .nil) (fun ρ H=>⟨_,_,rfl,rfl,rfl⟩) ρ H,_,_,rfl,⟨f,rfl,mg_of X G a⟩,rfl⟩
end
def zmk {P:Program}{w:World}{K:Frag}{mg:Str->Option Value}{x y:Str}{sm:Stmt}{fa:Addr}{k:Nat}{m:List PV->Mo PV}(h:FnF K mg x sm [y]) (hmg:mg x=some (.ref fa))
  (hb:∀(kV doc pm:Value) (an:Option Addr) (cdv ct:Value) (u:Value),bindArgs (fnOf x x (jC sm) (yV sm) (zT sm) .none kV doc pm an cdv ct) ⟨[u],[]⟩=pure [(y,u)])
  (hok:∀(f:Addr) (fd:FuncData),Fun K x x sm f fd->∀base:Heap,FnOk P w K mg base (CXe P w) k f fd [y] (spM K mg m)) (hp:∀ns:List Int,ns.length<=63->∃st,m [.frl (ns.map PV.int)] []=.ok (.bl true) st) :
  ∃fd:FuncData,(∀(s:Shared) (u:Value),BindsTo s fd ⟨[u],[]⟩ [(y,u)])/\∀base:Heap,K.In base->base.Ns mainGlobals mg->FnOk P w K mg base (CXe P w) k fa fd [y] (spLaw K):=by
 obtain ⟨f,fd,hm,F,_⟩:=h
 rw [hmg] at hm
 cases hm
 refine ⟨fd,fun s u=>?_,fun base _ _=>zlM (hok fa fd F base) hp⟩
 obtain ⟨oc,od,kV,doc,pm,an,cdv,ct,osl,rfl,_⟩:=F.ex
 exact .of_eq (hb kV doc pm an cdv ct u)
def zml {K:Frag}{mg:Str->Option Value}{h:Heap}{x:Str}(X:K.In h) (G:h.Ns mainGlobals mg) (a:nsIn K mainGlobals x=some none):mg x=none:=mg_none_of X G a
section
variable {X:Cx}{Er:XK}{K:Frag}{mg:Str->Option Value}{a b c e o:Expr}{es:List Expr}{pos p apos pos':Pos}{fa fb fc fo:ze->Mo PV}{fs:ze->Mo (List PV)}
abbrev kz (ks:List Str) (vs:List V):List (Key×V):=(ks.map Sum.inr).zip vs
def zc7 {z:Str}:∀{ks:List Str}{vs:List V},valV (kz ks vs) (Sum.inr z)=(ks.zip vs).lookup z
 | [],_=>by simp [kz,valV]
 | k::ks,[]=>by simp [kz,valV]
 | k::ks,v::vs=>by
  have ih:=zc7 (z:=z) (ks:=ks) (vs:=vs)
  by_cases h:k=z
  ·subst h
   rw [show kz (k::ks) (v::vs)=(Sum.inr k,v)::kz ks vs from rfl,zbM rfl]
   simp [jx]
  ·rw [show kz (k::ks) (v::vs)=(Sum.inr k,v)::kz ks vs from rfl,zbN (by simpa using h),ih]
   have:(z==k)=false:=by simpa using fun q=>h q.symm
   simp [jx,this]
def zfi {z:Str}:∀{ks:List Str}{vs:List V},ks.length=vs.length->((kz ks vs).any fun kv=>decide (kv.1=Sum.inr z))=ks.contains z
 | [],_,_=>by simp [kz]
 | k::ks,[],h=>by simp at h
 | k::ks,v::vs,h=>by
  have ih:=zfi (z:=z) (ks:=ks) (vs:=vs) (by simpa using h)
  rw [show kz (k::ks) (v::vs)=(Sum.inr k,v)::kz ks vs from rfl,List.any_cons,ih,List.contains_cons]
  congr 1
  by_cases hz:k=z
  ·subst hz;simp
  ·have:(z==k)=false:=by simpa using fun q=>hz q.symm
   simp [hz,this]
def repl {α:Type}(z:Str) (x:α):List Str->List α->List α
 | k::ks,y::ys=>(if k=z then x else y)::repl z x ks ys
 | _,ys=>ys
def jP (z:Str) (x:PV) (ks:List Str) (xs:List PV):List Str×List PV:=if ks.contains z=true then (ks,repl z x ks xs) else (ks++[z],xs++[x])
def zfj {z:Str}{v:V}:∀{ks:List Str}{vs:List V},(kz ks vs).map (fun kv=>if kv.1=Sum.inr z then (kv.1,v) else kv)=kz ks (repl z v ks vs)
 | [],_=>by simp [kz]
 | k::ks,[]=>by simp [kz,repl]
 | k::ks,w::vs=>by
  rw [show kz (k::ks) (w::vs)=(Sum.inr k,w)::kz ks vs from rfl,ji,zfj,show repl z v (k::ks) (w::vs)=(if k=z then v else w)::repl z v ks vs from rfl,show ∀u us,kz (k::ks) (u::us)=(Sum.inr k,u)::kz ks us from fun _ _=>rfl]
  by_cases h:k=z
  ·subst h;simp
  ·rw [zN (by simpa using h),zN h]
def zfk {ρ:List Addr}{H:Hp}{z:Str}{x:PV}{v:V}(r:R K mg ρ H x v):∀{ks:List Str}{xs:List PV}{vs:List V},Rs K mg ρ H xs vs->Rs K mg ρ H (repl z x ks xs) (repl z v ks vs)
 | [],xs,vs,h=>by cases xs<;>cases vs<;>exact h
 | k::ks,[],vs,h=>by cases h;exact rfl
 | k::ks,y::ys,vs,h=>by
  obtain ⟨w,ws,rfl,h1,h2⟩:=h
  refine ⟨_,_,rfl,?_,zfk r h2⟩
  split
  ·exact r
  ·exact h1
def zfl {α:Type}{z:Str}{x:α}:∀{ks:List Str}{xs:List α},(repl z x ks xs).length=xs.length
 | [],xs=>by cases xs<;>rfl
 | k::ks,[]=>rfl
 | k::ks,y::ys=>by simp [repl,zfl (ks:=ks)]
def zfm {ρ:List Addr}{H:Hp}{z:Str}{x:PV}{v:V}(r:R K mg ρ H x v) {ks:List Str}{xs:List PV}{vs:List V}(hl:ks.length=vs.length) (h:Rs K mg ρ H xs vs):∃ws,L2.putK (kz ks vs) (Sum.inr z) v=kz (jP z x ks xs).1 ws/\Rs K mg ρ H (jP z x ks xs).2 ws/\(jP z x ks xs).1.length=ws.length:=by
 unfold L2.putK jP
 rw [zfi hl]
 by_cases hc:ks.contains z=true
 ·rw [zE hc,zE hc]
  exact ⟨repl z v ks vs,zfj,zfk r h,by rw [zfl];exact hl⟩
 ·rw [zN hc,zN hc]
  refine ⟨vs++[v],?_,h.append ⟨v,[],rfl,r,rfl⟩,by simp [hl]⟩
  show _=(List.map Sum.inr (ks++[z])).zip (vs++[v])
  rw [wI,List.zip_append (by simpa using hl)]
  rfl
def zfn:ze->Mo PV:=fun _ st=>.ok (.ref st.length) (st++[.dic [] []])
def zmm:ME X Er (.Dict [] [] pos) zfn:=PE.weak zkd fun U H Q ⟨env,st,ρ,re,rs,h⟩=>fun q hq =>
 h (ρ++[q]) _ (Ext.push hq) (rs.push hq ⟨[],yC,rfl,rfl⟩) _ ⟨q,rfl,by rw [<-rs.len];simp⟩
def zfo:PV->PV->Mo PV
 | .ref n,.str z,st=>jz st n fun ks xs=>optR ((ks.zip xs).lookup z) st
 | _,_,_=>.stuck
def zq:PV->PV->Mo PV
 | .ref n,.str z,st=>zfo (.ref n) (.str z) st
 | x,y,st=>oIx x y st
def zmn:R2:=fun x y H Q=>∃a v,x=.ref a/\DGet H a y (some v)/\Q v H
def zmo (hu:X.A.units+1<cLine):IxR X zmn:=by
 intro value slice pins s U H x y v u Q I rx ry h hs
 obtain ⟨a,w,rfl,g,q⟩:=h
 obtain rfl:v=Value.ref a:=rx
 exact PyProof.Rows.tail_any (zj9 I g) PySem.F.slot_dict_getitem.lookup (zj4 hu I g ry fun w' s' I' rw'=>⟨w,H,I',rw',q⟩) hs
def R.refD {ρ:List Addr}{H:Hp}{st:Sto}{n:Nat}{ks:List Str}{xs:List PV}{v:V}(s:StR K mg ρ H st) (r:R K mg ρ H (.ref n) v) (h:st[n]?=some (.dic ks xs)):∃a vs,v=.ref a/\ρ[n]?=some a/\H a=some (.dK (kz ks vs))/\Rs K mg ρ H xs vs/\ks.length=vs.length:=by
 obtain ⟨a,rfl,ha⟩:=r
 obtain ⟨vs,h1,h2,h3⟩:=s.addr h ha
 exact ⟨a,vs,rfl,ha,h1,h2,h3⟩
def zfp {H:Hp}{a:Addr}{ks:List Str}{vs:List V}{z:Str}(h:H a=some (.dK (kz ks vs))):DGet H a (.str z) ((ks.zip vs).lookup z):=by
 have g:=DGet.k (k:=Sum.inr z) h
 rw [zc7] at g
 exact g
def zW (hu:X.A.units+200<cLine):IxOk X zq:=by
 obtain ⟨r,h1,h2⟩:=zk7 (X:=X)
 refine ⟨_,h1.or (zmo (by omega)),fun ρ H st x y v w Q E s rx ry h=>?_⟩
 by_cases hx:∃n z,x=.ref n/\y=.str z
 ·obtain ⟨n,z,rfl,rfl⟩:=hx
  obtain ⟨ks,xs,e,h⟩:=zkX (show Out X.K X.mg ρ H (jz st n fun ks xs=>optR ((ks.zip xs).lookup z) st) (gV X.K X.mg Q) E from h)
  obtain ⟨q,hq,h⟩:=wN h
  obtain ⟨a,vs,rfl,_,k1,k2,_⟩:=R.refD s rx e
  cases ry
  obtain ⟨v,hv,rv⟩:=zaE k2 hq
  refine .inr ⟨a,v,rfl,?_,h.now s _ rv⟩
  have g:=zfp (z:=z) k1
  rw [hv] at g
  exact g
 ·refine .inl (h2 ρ H st x y v w Q E s rx ry ?_)
  have:zq x y st=oIx x y st:=by
   unfold zq
   split
   ·rename_i n z;exact absurd ⟨n,z,rfl,rfl⟩ hx
   ·rfl
  rw [this] at h
  exact h
def zaG (z x:PV):PV->Mo Unit
 | .ref n,st=>match z with
  | .str z=>jz st n fun ks xs=>if ks.length<lim then .ok () (st.set n (.dic (jP z x ks xs).1 (jP z x ks xs).2)) else .stuck
  | _=>.stuck
 | _,_=>.stuck
def zbj (fo fi fv:ze->Mo PV):ze->Mo Fl:=fun env st=>(fv env st).bind fun x st1=>(fo env st1).bind fun o st2=>(fi env st2).bind fun z st3=>(zaG z x o st3).bind fun _ st4=>.ok (.nx env) st4
def zmp {i value:Expr}{fi fv:ze->Mo PV}(hu:X.A.units+200<cLine) (ho:ME X Er o fo) (hi:ME X Er i fi) (hv:ME X Er value fv) (hs:swapsWith value (some (.Subscript o i pos')) pos.line X.env=pure false:=by rfl):MS X Er (.Assign [.Subscript o i pos'] value pos) (zbj fo fi fv) :=
 PS.weak (zkb (by omega) ho hi hv hs) fun D U H ⟨env,st,ρ,re,rs,h⟩=>⟨env,st,ρ,re,rs,h.then fun af H1 x st1 e1 s1 h1 v rv=>⟨env,st1,af,re.ext e1,s1,h1.then fun ao H2 y st2 e2 s2 h2 w rw=>⟨env,st2,ao,(re.ext e1).ext e2,s2,h2.then fun am H3 zz st3 e3 s3 h3 u ru=>by
  cases y with
  | ref n =>
   cases zz with
   | str z =>
    cases hn:st3[n]? with
    | none=>simp only [zaG,jz,hn] at h3;exact h3.elim
    | some so =>
     cases so with
     | lst _=>simp only [zaG,jz,hn] at h3;exact h3.elim
     | ins _ _ _=>simp only [zaG,jz,hn] at h3;exact h3.elim
     | fdi _ _=>simp only [zaG,jz,hn] at h3;exact h3.elim
     | dic ks xs =>
      simp only [zaG,jz,hn] at h3
      by_cases hc:ks.length<lim
      ·rw [zE hc] at h3
       obtain ⟨a,vs,e4,ha,k1,k2,k3⟩:=R.refD s3 (R.ext e3 _ rw) hn
       subst e4
       cases ru
       obtain ⟨ws,q1,q2,q3⟩:=zfm (z:=z) (R.ext e3 x (R.ext e2 x rv)) k3 k2
       have hlen:(kz ks vs).length<sizeLine:=by
        have:(kz ks vs).length=ks.length:=by simp [kz,k3]
        rw [this,sizeLine_eq]
        have:ks.length<1000000:=hc
        omega
       have g:=DPut.k (k:=Sum.inr z) (v:=v) k1 hlen
       have ew:Ext am H3 am (upd H3 a (.dK (L2.putK (kz ks vs) (Sum.inr z) v))):=Ext.write k1 rfl
       refine ⟨a,_,rfl,g,h3 am _ ew (s3.write ha ew ⟨ws,by rw [yC,q1],Rs.ext ew _ q2,q3⟩) U ((((re.ext e1).ext e2).ext e3).ext ew)⟩
      ·rw [zN hc] at h3;exact h3.elim
   | _=>exact h3.elim
  | _=>exact h3.elim⟩⟩⟩
end
open Classical in
noncomputable def eIn (K:Frag) (mg:Str->Option Value) (ρ:List Addr) (H:Hp) (ys:List PV) (x:PV) (u:Value):Bool:=decide (∃y v,y∈ys/\R K mg ρ H y v/\RelV v u/\eqP y x=true)
section
variable {X:Cx}{Er:XK}{K:Frag}{mg:Str->Option Value}{ρ:List Addr}{pins:List (Addr×Obj)}{U:L2.St}{H:Hp}{s:Shared}
def okIn (x:PV) (ys:List PV):Prop:=Mi.plain x=true/\plains ys=true/\deps ys<=150
instance (x:PV) (ys:List PV):Decidable (okIn x ys):=by unfold okIn;infer_instance
def Rs.mem:∀{xs:List PV}{vs:List V}{us:List Value}{u:Value},Rs K mg ρ H xs vs->Vals vs us->u∈us->∃y v,y∈xs/\R K mg ρ H y v/\RelV v u
 | [],_,_,_,h,hv,hu=>by cases h;cases hv;cases hu
 | x::xs,_,_,u,h,hv,hu=>by
  obtain ⟨v,r,rfl,h1,h2⟩:=h
  cases hv with
  | cons r1 r2 =>
   rcases yD.mp hu with rfl|hu
   ·exact ⟨x,v,by simp,h1,r1⟩
   ·obtain ⟨y,w,q1,q2,q3⟩:=Rs.mem h2 r2 hu
    exact ⟨y,w,by simp [q1],q2,q3⟩
def Rs.mem':∀{xs:List PV}{vs:List V}{us:List Value}{y:PV},Rs K mg ρ H xs vs->Vals vs us->y∈xs->∃u v,u∈us/\R K mg ρ H y v/\RelV v u
 | [],_,_,_,_,_,hy=>by cases hy
 | x::xs,_,_,y,h,hv,hy=>by
  obtain ⟨v,r,rfl,h1,h2⟩:=h
  cases hv with
  | cons r1 r2 =>
   rcases yD.mp hy with rfl|hy
   ·exact ⟨_,v,by simp,h1,r1⟩
   ·obtain ⟨u,w,q1,q2,q3⟩:=Rs.mem' h2 r2 hy
    exact ⟨u,w,by simp [q1],q2,q3⟩
def zmq {ys:List PV}{y:PV}(h:plains ys=true) (hy:y∈ys):Mi.plain y=true:=by
 obtain ⟨i,hi⟩:=List.getElem?_of_mem hy
 exact zbX h hi
def zmr {ys:List PV}{y:PV}(hy:y∈ys):dep y<=deps ys:=by
 obtain ⟨i,hi⟩:=List.getElem?_of_mem hy
 exact zcX hi
open Classical in
def zb5 (I:Inv X pins U H s) {A:Around}(hu:A.units+200<cLine) {ys:List PV}{vs:List V}{us:List Value}{x:PV}{w:V}{v:Value}(ok:okIn x ys) (ry:Rs X.K mg ρ H ys vs) (rv:Vals vs us) (rx:R X.K mg ρ H x w) (rw:RelV w v) :
  (∀u∈us,SeqAt.EqAt A.in1 s u v (eIn X.K mg ρ H ys x u))/\us.any (eIn X.K mg ρ H ys x)=ys.any fun y=>eqP y x:=by
 obtain ⟨px,py,hd⟩:=ok
 have one:∀y v' u,y∈ys->R X.K mg ρ H y v'->RelV v' u->SeqAt.EqAt A.in1 s u v (eqP y x):=fun y v' u hy r1 r2 =>
  (zcY I 150 y x A.in1 (yT (zmr hy) hd) (zmq py hy) px r1 rx r2 rw (by rw [zbY];omega)).1
 refine ⟨fun u hu'=>?_,?_⟩
 ·obtain ⟨y,v',q1,q2,q3⟩:=Rs.mem ry rv hu'
  by_cases h:∃y v,y∈ys/\R X.K mg ρ H y v/\RelV v u/\eqP y x=true
  ·have e:eIn X.K mg ρ H ys x u=true:=by simpa [eIn] using h
   obtain ⟨y2,v2,z1,z2,z3,z4⟩:=h
   rw [e,<-z4]
   exact one y2 v2 u z1 z2 z3
  ·have e:eIn X.K mg ρ H ys x u=false:=by unfold eIn;exact jw h
   rw [e]
   have:eqP y x=false:=by
    cases hq:eqP y x with
    | false=>rfl
    | true=>exact absurd ⟨y,v',q1,q2,q3,hq⟩ h
   rw [<-this]
   exact one y v' u q1 q2 q3
 ·rw [Bool.eq_iff_iff]
  simp only [List.any_eq_true]
  constructor
  ·rintro ⟨u,hu',he⟩
   have h:∃y v,y∈ys/\R X.K mg ρ H y v/\RelV v u/\eqP y x=true:=by unfold eIn at he;exact of_decide_eq_true he
   obtain ⟨y,v',z1,_,_,z4⟩:=h
   exact ⟨y,z1,z4⟩
  ·rintro ⟨y,hy,he⟩
   obtain ⟨u,v',q1,q2,q3⟩:=Rs.mem' ry rv hy
   exact ⟨u,q1,by unfold eIn;exact zaZ ⟨y,v',hy,q2,q3,he⟩⟩
def yM (neg:Bool):PV->PV->Mo PV
 | x,.tup ys,st=>if okIn x ys then .ok (.bl (neg.xor (ys.any fun y=>eqP y x))) st else .stuck
 | x,.frl ys,st=>if okIn x ys then .ok (.bl (neg.xor (ys.any fun y=>eqP y x))) st else .stuck
 | x,.ref n,st=>match st[n]?,x with
  | some (.lst ys),x=>if okIn x ys then .ok (.bl (neg.xor (ys.any fun y=>eqP y x))) st else .stuck
  | some (.dic ks xs),.str z=>.ok (.bl (neg.xor ((ks.zip xs).lookup z).isSome)) st
  | _,_=>.stuck
 | .str ⟨⟨[c]⟩⟩,.str z,st=>.ok (.bl (neg.xor (decide (c∈z.cps.toList)))) st
 | _,_,_=>.stuck
def zc8 (K:Frag) (mg:Str->Option Value) (neg:Bool):R2:=fun v w H Q =>
 (∃ρ x ys vs p,okIn x ys/\w=.ref p/\(SqL K H p vs\/SqT K H p vs)/\Rs K mg ρ H ys vs/\R K mg ρ H x v/\Q (.bl (neg.xor (ys.any fun y=>eqP y x))) H) \/
 (∃p o,w=.ref p/\DGet H p v o/\Q (.bl (neg.xor o.isSome)) H)\/∃(c:Nat) (z:Str),v=.str ⟨#[c]⟩/\w=.str z/\Q (.bl (neg.xor (decide (c∈z.cps.toList)))) H
def zms (hu:X.A.units+200<cLine):OpR X (compareOp .In) (zc8 X.K X.mg false):=by
 intro pins s U H x y v u Q I rx ry h
 rcases h with ⟨ρ,a,ys,vs,p,ok,rfl,hq,rys,ra,q⟩|⟨p,o,rfl,g,q⟩|⟨c,z,rfl,rfl,q⟩
 ·obtain rfl:u=Value.ref p:=ry
  rcases hq with hq|hq
  ·obtain ⟨its,r,pl,_⟩:=I.list hq
   obtain ⟨f1,f2⟩:=zb5 I hu ok rys r ra rx
   refine SeqAt.in_listAt (eIn X.K X.mg ρ H ys a) pl.isList (fun w hw=>f1 w (by simpa using hw)) ⟨.bl _,H,I,rfl,?_⟩
   rw [show its.toArray.any (eIn X.K X.mg ρ H ys a)=its.any (eIn X.K X.mg ρ H ys a) by simp,f2]
   simpa using q
  ·obtain ⟨its,r,pl,_⟩:=I.tuple hq
   obtain ⟨f1,f2⟩:=zb5 I hu ok rys r ra rx
   refine SeqAt.in_tupleAt (eIn X.K X.mg ρ H ys a) pl (fun w hw=>f1 w (by simpa using hw)) ⟨.bl _,H,I,rfl,?_⟩
   rw [show its.toArray.any (eIn X.K X.mg ρ H ys a)=its.any (eIn X.K X.mg ρ H ys a) by simp,f2]
   simpa using q
 ·obtain rfl:u=Value.ref p:=ry
  exact zj5 (by omega) I g rx fun s' I'=>⟨.bl o.isSome,H,I',rfl,by simpa using q⟩
 ·exact zj2 pins s U H _ _ v u Q I rx ry ⟨c,z,rfl,rfl,by simpa using q⟩
def zmt (hu:X.A.units+200<cLine):OpR X (compareOp .NotIn) (zc8 X.K X.mg true):=by
 intro pins s U H x y v u Q I rx ry h
 rcases h with ⟨ρ,a,ys,vs,p,ok,rfl,hq,rys,ra,q⟩|⟨p,o,rfl,g,q⟩|⟨c,z,rfl,rfl,q⟩
 ·obtain rfl:u=Value.ref p:=ry
  rcases hq with hq|hq
  ·obtain ⟨its,r,pl,_⟩:=I.list hq
   obtain ⟨f1,f2⟩:=zb5 I hu ok rys r ra rx
   refine SeqAt.notIn_listAt (eIn X.K X.mg ρ H ys a) pl.isList (fun w hw=>f1 w (by simpa using hw)) ⟨.bl _,H,I,rfl,?_⟩
   rw [show its.toArray.any (eIn X.K X.mg ρ H ys a)=its.any (eIn X.K X.mg ρ H ys a) by simp,f2]
   simpa using q
  ·obtain ⟨its,r,pl,_⟩:=I.tuple hq
   obtain ⟨f1,f2⟩:=zb5 I hu ok rys r ra rx
   refine SeqAt.notIn_tupleAt (eIn X.K X.mg ρ H ys a) pl (fun w hw=>f1 w (by simpa using hw)) ⟨.bl _,H,I,rfl,?_⟩
   rw [show its.toArray.any (eIn X.K X.mg ρ H ys a)=its.any (eIn X.K X.mg ρ H ys a) by simp,f2]
   simpa using q
 ·obtain rfl:u=Value.ref p:=ry
  exact zj6 (by omega) I g rx fun s' I'=>⟨.bl (!o.isSome),H,I',rfl,by simpa using q⟩
 ·refine L2.zjG pins s U H _ _ v u Q I rx ry ⟨_,_,rfl,rfl,?_⟩
  rw [StrLaws.found_one]
  simpa using q
def zfq {neg:Bool}:OpM K mg (zc8 K mg neg) (yM neg):=by
 intro ρ H st x y v w Q E s rx ry h
 cases y with
 | tup ys =>
  obtain ⟨p,vs,rfl,k1,k2⟩:=ry
  obtain ⟨ok,h⟩:=Out.ifp (show Out K mg ρ H (if okIn x ys then .ok (.bl (neg.xor (ys.any fun y=>eqP y x))) st else .stuck) (gV K mg Q) E from by cases x<;>exact h)
  exact .inl ⟨ρ,x,ys,vs,p,ok,rfl,.inr k1,k2,rx,h.now s _ rfl⟩
 | frl ys =>
  obtain ⟨p,vs,rfl,k1,k2⟩:=ry
  obtain ⟨ok,h⟩:=Out.ifp (show Out K mg ρ H (if okIn x ys then .ok (.bl (neg.xor (ys.any fun y=>eqP y x))) st else .stuck) (gV K mg Q) E from by cases x<;>exact h)
  exact .inl ⟨ρ,x,ys,vs,p,ok,rfl,.inl k1.sq,k2,rx,h.now s _ rfl⟩
 | ref n =>
  cases hn:st[n]? with
  | none=>exfalso;cases x<;>(simp only [yM,hn] at h;exact h)
  | some so =>
   cases so with
   | lst ys =>
    obtain ⟨p,vs,rfl,_,k1,k2⟩:=R.refL s ry hn
    obtain ⟨ok,h⟩:=Out.ifp (show Out K mg ρ H (if okIn x ys then .ok (.bl (neg.xor (ys.any fun y=>eqP y x))) st else .stuck) (gV K mg Q) E from by cases x<;>(simp only [yM,hn] at h;exact h))
    exact .inl ⟨ρ,x,ys,vs,p,ok,rfl,.inl (SqL.of k1),k2,rx,h.now s _ rfl⟩
   | dic ks xs =>
    obtain ⟨p,vs,rfl,_,k1,k2,k3⟩:=R.refD s ry hn
    cases x with
    | str z =>
     simp only [yM,hn] at h
     cases rx
     refine .inr (.inl ⟨p,_,rfl,zfp k1,?_⟩)
     have e:((ks.zip vs).lookup z).isSome=((ks.zip xs).lookup z).isSome:=by
      cases hq:(ks.zip xs).lookup z with
      | some q=>obtain ⟨v,hv,_⟩:=zaE k2 hq;rw [hv];rfl
      | none =>
       have:z∉ks:=by
        intro hz
        obtain ⟨i,hi⟩:=List.getElem?_of_mem hz
        have hl:i<xs.length:=by rw [k2.len,<-k3];exact (yE.mp hi).1
        have:=List.lookup_eq_none_iff.mp hq (z,xs[i]) (List.mem_iff_getElem?.mpr ⟨i,by simp [List.getElem?_zip_eq_some,hi,hl]⟩)
        simp at this
       rw [zc0 this];rfl
     rw [e]
     exact h.now s _ rfl
    | _=>simp only [yM,hn] at h;exact h.elim
   | ins c ks xs=>exfalso;cases x<;>(simp only [yM,hn] at h;exact h)
   | fdi ks xs=>exfalso;cases x<;>(simp only [yM,hn] at h;exact h)
 | str z =>
  cases x with
  | str q =>
   obtain ⟨⟨l⟩⟩:=q
   match l,rx,h with
   | [c],rx,h=>cases rx;cases ry;exact .inr (.inr ⟨c,z,rfl,rfl,Out.now (x:=PV.bl _) h s _ rfl⟩)
   | [],rx,h=>exact h.elim
   | _::_::_,rx,h=>exact h.elim
  | _=>exact h.elim
 | non=>exfalso;cases x<;>exact h
 | bl _=>exfalso;cases x<;>exact h
 | int _=>exfalso;cases x<;>exact h
 | ty _=>exfalso;cases x<;>exact h
 | fn _=>exfalso;cases x<;>exact h
 | kd _ _=>exfalso;cases x<;>exact h
 | exo _ _ _=>exfalso;cases x<;>exact h
def zb6 (hu:X.A.units+200<cLine):CmpOk X .In (yM false):=⟨_,zms hu,zfq⟩
def zfr (hu:X.A.units+200<cLine):CmpOk X .NotIn (yM true):=⟨_,zmt hu,zfq⟩
end
section
variable {X:Cx}{Er:XK}{pos:Pos}
abbrev XN:XK:=fun _ _ _=>False
def zb7:j1 X XN:=fun _ _ _ _ _ _ _ _ _ q=>q.elim
def compL (fe:ze->Mo PV) (env:ze):List PV->List PV->Mo PV
 | [],ys,st=>.ok (.ref st.length) (st++[.lst ys])
 | x::xs,ys,st=>(noErr (fe (some x::env) st)).bind fun y st1=>compL fe env xs (ys++[y]) st1
def compR (fe:ze->Mo PV) (env:ze) (n:Nat):Nat->Nat->List PV->Mo PV
 | 0,_,_,_=>.stuck
 | m+1,i,ys,st=>yh st n fun xs=>match xs[i]? with
  | none=>.ok (.ref st.length) (st++[.lst ys])
  | some x=>(noErr (fe (some x::env) st)).bind fun y st1=>compR fe env n m (i+1) (ys++[y]) st1
def compS (fe:ze->Mo PV) (env:ze):Sq->Mo PV
 | .im xs,st=>if xs.length<=lim then compL fe env xs [] st else .stuck
 | .rf n,st=>compR fe env n (lim+1) 0 [] st
def j2 (src:ze->Mo Sq) (fe:ze->Mo PV):ze->Mo PV:=fun env st=>(src env st).bind fun q st1=>compS fe env q st1
def Rs.snoc {K:Frag}{mg:Str->Option Value}{ρ:List Addr}{H:Hp}{x:PV}{v:V}(r:R K mg ρ H x v):∀{xs:List PV}{vs:List V},Rs K mg ρ H xs vs->Rs K mg ρ H (xs++[x]) (vs++[v])
 | [],_,h=>by cases h;exact ⟨v,[],rfl,r,rfl⟩
 | y::xs,_,h=>by
  obtain ⟨w,q,rfl,h1,h2⟩:=h
  exact ⟨w,q++[v],rfl,h1,Rs.snoc r h2⟩
def zmu {elt iter:Expr} {x:Str} {px:Pos} {scope:Scope} {src:ze->Mo Sq} {fe:ze->Mo PV} {M:List Str} (hc:X.calm=true) (S:CompSc X.env.scope scope x) (eN:Hid scope M X.N) (hN0:((".0" : Str)::x::M).Nodup)
  (hi:MI X Er (.Name x px) iter src) (he:∀cl C aa ag fp,ME (cxH X M scope cl x C aa ag fp (fun _ _=>False)) XN elt fe)
  (hs:∀v,foldedSetIterable iter X.env v=pure v:=by intro _;rfl):ME X Er (.ListComp elt [⟨.Name x px,iter,[],0⟩] scope pos) (j2 src fe) :=
 PE.weak (zj0 (te:=tM X.K X.mg XN fe) hc S eN hN0 hi (fun cl C aa ag fp=>he cl C aa ag fp) hs) fun U H Q ⟨env,st,ρ,re,rs,h⟩=>⟨env,st,ρ,re,rs,h.then fun aq H0 q st0 e0 s0 h0 J wk=>by
  cases q with
  | im xs =>
   obtain ⟨hl,h0⟩:=Out.ifp h0
   obtain ⟨w1,w2,w3⟩:=wk
   refine ⟨fun i m ys H=>m=xs.length-i/\i<=xs.length/\ys.length=i/\∃ps st ρ,Rs X.K X.mg ρ H ps ys/\StR X.K X.mg ρ H st/\Ext aq H0 ρ H/\Out X.K X.mg ρ H (compL fe env (xs.drop i) ps st) (gV X.K X.mg Q) Er,⟨xs.length,by simp,ju _,rfl,[],st0,aq,rfl,s0,Ext.refl,h0⟩,?_⟩
   rintro i m ys H ⟨rfl,hi,hy,ps,st,ρ,rps,rs,ex,h⟩
   by_cases hlt:i<xs.length
   ·refine .inr ⟨w1 i ρ H ex hlt,yQ (by omega),fun v H' y=>?_⟩
    obtain ⟨x,hx,ex2,s2,rx⟩:=w3 i ρ H st v H' ex rs hlt y
    have hd:xs.drop i=x::xs.drop (i+1):=by
     rw [jJ hlt]
     have:=(yE.mp hx).2
     rw [this]
    rw [hd] at h
    simp only [compL] at h
    refine ⟨some x::env,st,ρ,(re.ext (e0.trans (ex.trans ex2))).cons rx,s2,wR (Out.ext h ex2) fun am H3 y st3 e3 s3 h3 v ry=>⟨xs.length-(i+1),by omega,rfl,hlt,by simp [hy],ps++[y],st3,am,Rs.snoc ry (Rs.ext (ex2.trans e3) ps rps),s3,(ex.trans ex2).trans e3,h3⟩⟩
   ·have e:i=xs.length:=by omega
    subst e
    rw [List.drop_length] at h
    exact .inl ⟨w2 _ ρ H ex (yg _),yQ (by omega),fun l hl=>Out.newList h rs rps hl⟩
  | rf n =>
   obtain ⟨a,ha,rfl⟩:=wk
   refine ⟨fun i m ys H=>m+i=lim+1/\ys.length=i/\∃ps st ρ,Rs X.K X.mg ρ H ps ys/\StR X.K X.mg ρ H st/\Ext aq H0 ρ H/\ρ[n]?=some a/\Out X.K X.mg ρ H (compR fe env n m i ps st) (gV X.K X.mg Q) Er,⟨lim+1,rfl,rfl,[],st0,aq,rfl,s0,Ext.refl,ha,h0⟩,?_⟩
   rintro i m ys H ⟨hm,hy,ps,st,ρ,rps,rs,ex,ha,h⟩
   cases m with
   | zero=>exact h.elim
   | succ m =>
    obtain ⟨xs,hn,h⟩:=yW h
    obtain ⟨vs,hH,hR⟩:=rs.addr hn ha
    cases hx:xs[i]? with
    | none =>
     simp only [hx] at h
     have:vs.length<=i:=by rw [<-hR.len];exact za2.mp hx
     exact .inl ⟨⟨vs,SqL.of hH,this⟩,yQ (by omega),fun l hl=>Out.newList h rs rps hl⟩
    | some x =>
     simp only [hx] at h
     obtain ⟨v,hv,rv⟩:=hR.get hx
     refine .inr ⟨⟨vs,v,SqL.of hH,hv⟩,yQ (by omega),fun v' H' y=>?_⟩
     obtain ⟨e1,y⟩:=y
     subst e1
     have e2:=y vs (SqL.of hH)
     rw [hv] at e2
     cases e2
     exact ⟨some x::env,st,ρ,(re.ext (e0.trans ex)).cons rv,rs,wR h fun am H3 y st3 e3 s3 h3 v ry=>⟨m,jL m,by omega,by simp [hy],ps++[y],st3,am,Rs.snoc ry (Rs.ext e3 ps rps),s3,ex.trans e3,e3.get ha,h3⟩⟩⟩
def zmv {elt iter:Expr} {x:Str} {px:Pos} {scope:Scope} {src:ze->Mo Sq} {fe:ze->Mo PV} {N:List Str} (hc:X.calm=true) (S:CompSc X.env.scope scope x) (eN:X.N=N) (hN0:((".0" : Str)::x::N).Nodup)
  (hi:MI X Er (.Name x px) iter src) (he:∀cl C aa ag fp,ME (cxC X scope cl x C aa ag fp (fun _ _=>False)) XN elt fe)
  (hs:∀v,foldedSetIterable iter X.env v=pure v:=by intro _;rfl):ME X Er (.ListComp elt [⟨.Name x px,iter,[],0⟩] scope pos) (j2 src fe) :=
 zmu hc S Hid.refl (eN▸hN0) hi he hs
end
section
variable {env:Env}{es:List Expr}{pos:Pos}
abbrev St1 (e:Expr) (es:List Expr) (env:Env):Prop:=starEach (e::es) env=(false,eval e env)::starEach es env
def zmw {c j}:St1 (.Constant c j pos) es env:=(rfl)
end
end Mi
namespace L2
open PySem PySem.Spec PyProof.Rows PySem.W
abbrev ZB (h:Heap) (z TI TO T:Addr) (f:Bool):Prop:=h.get? z=some { cls:=.type "zip", dict:=none,data:=.fields #[rawInt T,.bool f,.bool false,.ref TI,.ref TO],slots:=#[] }
section
variable {prog:Program}{w:World}{A:Around}{E:Value->Shared->Prop}{s:Shared}{z TI TO T i1 i2 t1 t2:Addr}{k:Nat}{xs ys:Array Value}{x y a b:Value}{S1 S2:Nat->Heap->Prop}{f:Bool}{o:Obj}
end
structure ZS (z TI TO i1 i2 a b:Addr) (xs ys:Array Value) (k:Nat) (h:Heap):Prop where
 zi:(IsZip h z TI TO .none/\∃u v,IsPair h TO u v)\/∃T f o,ZB h z TI TO T f/\h.get? T=some o
 ti:IsPair h TI (.ref i1) (.ref i2)
 s1:StT i1 a xs k h
 s2:StT i2 b ys k h
section
variable {prog:Program}{w:World}{A:Around}{E:Value->Shared->Prop}{s:Shared}{z TI TO i1 i2 a b:Addr}{k:Nat}{xs ys:Array Value}{x y:Value}
end
def putAll (ps:List (Key×V)) (kvs:List (Key×V)):List (Key×V):=ps.foldl (fun m p=>putK m p.1 p.2) kvs
structure Ap (d z TI TO i1 i2 a b:Addr):Prop where
 z:d≠z
 TI:d≠TI
 TO:d≠TO
 i1:d≠i1
 i2:d≠i2
 a:d≠a
 b:d≠b
section
variable {prog:Program}{w:World}{A:Around}{R:Result->Shared->Prop}{z TI TO i1 i2 a b d:Addr}{xs ys:Array Value}{keys:List Key}{vals:List V}
end
section
variable {prog:Program}{w:World}{A:Around}{E:Value->Shared->Prop}{s:Shared}{z TI TO i1 i2 a b:Addr}{xs ys:Array Value}{keys:List Key}{vals:List V}
end
end L2
namespace Mi
open PySem L2 PySem.W PySem.Spec
section
variable {X:Cx}{K:Frag}{mg:Str->Option Value}{Er:XK}{e o:Expr}{es:List Expr}{pos p apos:Pos}{k:Nat}{x:Str}{m:List PV->Mo PV}{fs:ze->Mo (List PV)}{fo fa:ze->Mo PV}
end
section
variable {X:Cx}{K:Frag}{mg:Str->Option Value}{Er:XK}{e o:Expr}{es:List Expr}{pos p apos:Pos}{fs:ze->Mo (List PV)}{fo fa:ze->Mo PV}
def wT:List (Str×PV)->List Str->List PV->List Str×List PV
 | [],ks,xs=>(ks,xs)
 | q::r,ks,xs=>wT r (jP q.1 q.2 ks xs).1 (jP q.1 q.2 ks xs).2
def zft {ρ:List Addr}{H:Hp}:∀{zs:List Str}{ys:List PV}{us:List V}{ks:List Str}{xs:List PV}{vs:List V},Rs K mg ρ H ys us->Rs K mg ρ H xs vs->ks.length=vs.length ->
  ∃ws,putAll ((zs.map Sum.inr:List Key).zip us) (kz ks vs)=kz (wT (zs.zip ys) ks xs).1 ws/\Rs K mg ρ H (wT (zs.zip ys) ks xs).2 ws/\(wT (zs.zip ys) ks xs).1.length=ws.length
 | [],ys,us,ks,xs,vs,_,h,hl=>⟨vs,rfl,h,hl⟩
 | z::zs,[],us,ks,xs,vs,hy,h,hl=>by
  cases hy
  exact ⟨vs,rfl,h,hl⟩
 | z::zs,y::ys,us,ks,xs,vs,hy,h,hl=>by
  obtain ⟨u,r,rfl,h1,h2⟩:=hy
  obtain ⟨ws,q1,q2,q3⟩:=zfm (z:=z) h1 hl h
  obtain ⟨ws',p1,p2,p3⟩:=zft (zs:=zs) h2 q2 q3
  refine ⟨ws',?_,p2,p3⟩
  show putAll _ (L2.putK (kz ks vs) (Sum.inr z) u)=_
  rw [q1]
  exact p1
end
end Mi
namespace L2
open PySem PySem.Spec PyProof.Rows PySem.W
def Ite (K:Frag) (a:Addr):It :=
 ⟨fun i H=>∃xs x,SqL K H a xs/\xs[i]?=some x,
  fun i H v H'=>∃T x,H T=none/\v=.ref T/\H'=upd H T (.tup [.int i,x])/\∀xs,SqL K H a xs->xs[i]?=some x,
  fun i H=>∃xs,SqL K H a xs/\xs.length<=i⟩
def Est (e it a:Addr) (k:Nat) (h:Heap):Prop:=(∃old,IsEnum h e it k old)/\h.IsListIter it a k
def zmx {X:Cx}{pins:List (Addr×Obj)}{U:St}{H:Hp}{s:Shared}{a c:Addr}{xs:List V}(I:Inv X pins U H s) (hf:FpOk X pins H c) (hq:SqL X.K H a xs):a≠c:=by
 rintro rfl
 rcases hq with q|⟨o,its,n,hl,_⟩
 ·rcases q with q|⟨ob,q⟩<;>(rw [hf.1] at q;cases q)
 ·have e:=I.ok.mod.kin _ _ hl
  rcases hf.2.2.2.1 with z|z
  ·exact I.ok.noex _ _ e z
  ·exact absurd (jb (ym (I.ok.bs _ _ e).1) z) (Nat.lt_irrefl _)
def zmy {P:Program}{w:World}{K:Frag}{elts:List Expr}{kt:Nat}{pos:Pos}{e it a:Addr}(ne:e≠it):Turn P w K (.Tuple elts kt pos) (Ite K a) [e,it] e (Est e it a) where
 mem:=by simp
 obj:=fun i h st c hc=>by
  obtain ⟨⟨old,he⟩,⟨o1,e1,_,d1⟩⟩:=st
  simp only [yD,List.not_mem_nil,or_false] at hc
  rcases hc with q|q<;>rw [q]
  ·exact ⟨_,he,fun v z=>by cases z⟩
  ·exact ⟨_,e1,fun v z=>by rw [d1] at z;cases z⟩
 keep:=fun i h h' st k=>by
  obtain ⟨⟨old,he⟩,⟨o1,e1,r1⟩⟩:=st
  exact ⟨⟨old,k e (by simp) _ he⟩,⟨o1,k it (by simp) _ e1,r1⟩⟩
 item:=by
  intro X hP hw hK hc i pins s U H E I hf st hg
  subst hP hw hK
  obtain ⟨xs,x,hq,hx⟩:=hg
  obtain ⟨⟨old,he⟩,hit⟩:=st
  obtain ⟨its,rv,p,hz⟩:=I.list hq
  obtain ⟨u,hu,ru⟩:=rv.get hx
  have n1:∀c∈[e,it],a≠c:=fun c h=>zmx I (hf c h) hq
  refine wpAny_pyNext_enum_item he hit p.isList (x:=u) (by simpa using hu) ne fun h1 eo hit1 pT hsz kk=>⟨_,rfl,?_⟩
  refine wpAny_letOwnedTupleGo_enum (s:={ s with heap:=h1,toks:=s.toks+1 }) eo fun h2 e2 sb=>?_
  have fr:H s.heap.objs.size=none:=I.hok.fresh (yg _)
  have up:∀c o,c≠e->h1.get? c=some o->h2.get? c=some o:=fun c o n q=>sb.extBut _ _ n q
  have nz:s.heap.objs.size≠e:=Nat.ne_of_gt (ym he)
  have k2:∀c o,c∉[e,it]->s.heap.get? c=some o->h2.get? c=some o:=fun c o nc q=>up c o (fun z=>nc (by simp [z])) (kk c o (fun z=>nc (by simp [z])) (fun z=>nc (by simp [z])) q)
  refine ⟨.ref s.heap.objs.size,upd H s.heap.objs.size (.tup [.int i,x]),?_,rfl,⟨s.heap.objs.size,x,fr,rfl,rfl,fun ys hy=>by rw [I.list_inj hy hq];exact hx⟩,?_,fun c hc'=>?_⟩
  ·exact Inv.turnN (s:=s) (h':=h2) (t':=s.toks+1) I hf k2 (yg _) ⟨show 2<=sizeLine by decide,[.int i s.toks,u],.cons ⟨_,rfl⟩ (.cons ru .nil),_,up _ _ nz pT,rfl,_,rfl⟩
  ·refine ⟨⟨u,by rw [show ((i+1:Nat):Int)=(i:Int)+1 from rfl];exact e2⟩,let ⟨o,q,r⟩:=hit1;⟨o,up _ _ ne.symm q,r⟩⟩
  ·have lt:∃o,s.heap.get? c=some o:=by
    simp only [yD,List.not_mem_nil,or_false] at hc'
    rcases hc' with q|q<;>rw [q]
    ·exact ⟨_,he⟩
    ·exact let ⟨o,q,_⟩:=hit;⟨o,q⟩
   obtain ⟨o,q⟩:=lt
   have z:c≠s.heap.objs.size:=yz (ym q)
   rw [zX z]
   exact (hf c hc').1
 done:=by
  intro X hP hw hK hc i pins s U H E I hf st hg
  subst hP hw hK
  obtain ⟨xs,hq,hx⟩:=hg
  obtain ⟨⟨old,he⟩,hit⟩:=st
  obtain ⟨its,rv,p,hz⟩:=I.list hq
  have hl:=rv.length
  refine wpAny_pyNext_enum_end (I.ok.hd hc) he hit p.isList (by simp;omega) fun h' eb=>⟨rfl,?_⟩
  exact Inv.turnL (ch:=[e,it]) (t':=s.toks) I hf fun c o nc q=>eb c o (fun z=>nc (by simp [z])) q
 self:=fun _ _ _ _ _ st h=>by
  obtain ⟨⟨old,he⟩,_⟩:=st
  exact wpAny_pyIter_enum he h
def zmz:bootBuiltins "enumerate" = some (.type "enumerate"):=by decide +kernel
def zmA (K:Frag) (ta:TA):TI:=fun U H R=>ta U H fun vs H1=>∃a,vs=[.ref a]/\(∃xs,SqL K H1 a xs)/\R (Ite K a) H1
def zmB {X:Cx} {elts:List Expr} {kt:Nat} {tp:Pos} {x:Expr} {ta:TA} {p pos:Pos} (hg:Gl X "enumerate") (hm:X.mg "enumerate" = none) (ha:PA X [x] ta) (hs:starEach [x] X.env=[(false,eval x X.env)]:=by rfl) :
  PI X (.Tuple elts kt tp) (.Call (.Name "enumerate" p) [x] [] pos) (zmA X.K ta):=by
 intro pins s U H R I h
 refine Call_ (za3 I hg hm zmz (PyProof.Rows.callWith_type1 (thn (ha pos pins s U H _ I h) fun us s1 ⟨vs,H1,I1,r1,q1⟩=>?_) hs rfl))
 obtain ⟨a,e,⟨xs,hq⟩,q⟩:=q1
 subst e
 obtain ⟨u,rfl,ru⟩:=r1.one
 obtain rfl:u=Value.ref a:=ru
 obtain ⟨its,_,p1,_⟩:=I1.list hq
 refine call_enumerate_list p1.isList fun h' he hit hsz kk=>wpAny_pyIter_enum he ?_
 have ne:∀(n:Nat),n+1≠n:=fun n z=>by omega
 refine ⟨_,[s1.heap.objs.size+1,s1.heap.objs.size],_,_,H1,rfl,I1.kept (t':=s1.toks) kk,zmy (ne _),⟨⟨_,he⟩,hit⟩,fun c hc=>?_,q⟩
 have le:s1.heap.objs.size<=c:=by
  simp only [yD,List.not_mem_nil,or_false] at hc
  rcases hc with q|q<;>rw [q]<;>first|exact yg _|exact Nat.le_add_right _ _
 exact I1.fpOk le (I1.hok.fresh le)
end L2
namespace Mi
open PySem L2 PySem.W PySem.Spec
section
variable {X:Cx}{Er:XK}{pos:Pos}{sts:List Stmt}{gb:ze->Mo Fl}{fs:ze->Mo (List PV)}
def forE (g:PV->ze->Option ze) (body:ze->Mo Fl) (n:Nat):Nat->Nat->ze->Mo Fl
 | 0,_,_,_=>.stuck
 | m+1,i,env,st=>yh st n fun xs=>match xs[i]? with
  | none=>.ok (.nx env) st
  | some x=>match g (.tup [.int i,x]) env with
   | none=>.stuck
   | some env1=>(body env1 st).bind fun fl st2=>match fl with
    | .nx e=>forE g body n m (i+1) e st2
    | .ct e=>forE g body n m (i+1) e st2
    | .bk e=>.ok (.nx e) st2
    | .rt v=>.ok (.rt v) st2
def zaH:List PV->Mo Nat
 | [.ref n],st=>yh st n fun _=>.ok n st
 | _,_=>.stuck
def zfu {α:Type}{K:Frag}{mg:Str->Option Value}{ρ:List Addr}{H:Hp}{vs:List PV}{st:Sto}{f:Nat->Mo α}{good:List Addr->Hp->α->Sto->Prop}(h:Out K mg ρ H ((zaH vs st).bind f) good Er):∃n xs,vs=[.ref n]/\st[n]?=some (.lst xs)/\Out K mg ρ H (f n st) good Er:=by
 unfold zaH at h
 split at h
 ·rename_i n
  unfold yh at h
  cases hn:st[n]? with
  | none=>simp only [hn] at h;exact h.elim
  | some so =>
   cases so with
   | lst xs=>simp only [hn] at h;exact ⟨n,xs,rfl,hn,h⟩
   | _=>simp only [hn] at h;exact h.elim
 ·exact h.elim
def zb8 (fs:ze->Mo (List PV)) (g:PV->ze->Option ze) (body:ze->Mo Fl):ze->Mo Fl:=fun env st=>(fs env st).bind fun vs st1=>(zaH vs st1).bind fun n st1=>forE g body n (lim+1) 0 env st1
def zmC {elts:List Expr} {kt:Nat} {tp p ip:Pos} {x:Expr} {gt:PV->ze->Option ze} (hp:PassesOwn (model X.prog X.w) X.A X.env X.xe) (hc:X.calm=true) (hm:X.mg "enumerate" = none) (ha:MA X Er [x] fs) (hg:MG X Er (.Tuple elts kt tp) gt) (hb:MSs X Er sts gb)
  (hgl:Gl X "enumerate" := by rfl) (hst:starEach [x] X.env=[(false,eval x X.env)]:=by rfl) (hs:∀v,foldedSetIterable (.Call (.Name "enumerate" p) [x] [] ip) X.env v=pure v:=by intro _;rfl) :
  MS X Er (.For (.Tuple elts kt tp) (.Call (.Name "enumerate" p) [x] [] ip) sts [] pos) (zb8 fs gt gb) :=
 PS.weak (zd2 hp hc (zmB hgl hm ha hst) hg hb hs) fun D U H ⟨env,st,ρ,re,rs,h⟩=>⟨env,st,ρ,re,rs,h.then fun aq H0 vs st0 e0 s0 h0 us ru=>by
  obtain ⟨n,xs0,rfl,hn0,h0⟩:=zfu h0
  obtain ⟨v,rfl,rv⟩:=ru.one
  obtain ⟨a,rfl,ha⟩:=rv
  obtain ⟨vs0,hH0,hR0⟩:=s0.addr hn0 ha
  refine ⟨a,rfl,⟨_,SqL.of hH0⟩,?_⟩
  refine ⟨fun i m U H=>∃env st ρ,EnvR X.K X.mg ρ H env U/\StR X.K X.mg ρ H st/\ρ[n]?=some a/\Out X.K X.mg ρ H (forE gt gb n m i env st) (gS X.K X.mg D) Er,⟨lim+1,env,st0,aq,re.ext e0,s0,ha,h0⟩,?_⟩
  rintro i m U H ⟨env,st,ρ,re,rs,ha,h⟩
  cases m with
  | zero=>exact h.elim
  | succ m =>
   obtain ⟨xs,hn,h⟩:=yW h
   obtain ⟨vs,hH,hR⟩:=rs.addr hn ha
   cases hx:xs[i]? with
   | none =>
    simp only [hx] at h
    have:vs.length<=i:=by rw [<-hR.len];exact za2.mp hx
    exact .inl ⟨⟨vs,SqL.of hH,this⟩,Out.now (x:=Fl.nx env) h rs U re⟩
   | some x =>
    simp only [hx] at h
    obtain ⟨v,hv,rv⟩:=hR.get hx
    refine .inr ⟨⟨vs,v,SqL.of hH,hv⟩,_,fun ai H' p'=>⟨m,jL m,p'⟩,fun v' H' y=>?_⟩
    obtain ⟨T,x',hT,rfl,rfl,y⟩:=y
    have e2:=y vs (SqL.of hH)
    rw [hv] at e2
    cases e2
    have ex:Ext ρ H ρ (upd H T (.tup [.int i,v])):=Ext.new hT
    cases hgx:gt (.tup [.int i,x]) env with
    | none=>simp only [hgx] at h;exact h.elim
    | some env1 =>
     simp only [hgx] at h
     refine ⟨.tup [.int i,x],env,env1,ρ,⟨T,[.int i,v],rfl,.inl (.inl yC),_,_,rfl,rfl,_,_,rfl,R.ext ex x rv,rfl⟩,re.ext ex,hgx,fun au r1=>⟨env1,st,ρ,r1,rs.new hT,Out.then (Out.ext h ex) fun am H3 fl st3 e3 s3 h3=>?_⟩⟩
     cases fl with
     | nx e=>exact fun aA r4=>⟨e,st3,am,r4,s3,e3.get ha,h3⟩
     | ct e=>exact fun aA r4=>⟨e,st3,am,r4,s3,e3.get ha,h3⟩
     | bk e=>exact Out.fl (D:=D) (fl:=.nx e) (E:=Er) h3 s3
     | rt v=>exact Out.fl (D:=D) (fl:=.rt v) (E:=Er) h3 s3⟩
end
section
variable {X:Cx}{Er:XK}{pos:Pos}{fs:ze->Mo (List PV)}
end
end Mi
namespace L2
open PySem PySem.Spec PyProof.Rows PySem.W
def zfv:∀{is:List Int}{its:List Value},Vals (is.map V.int) its->(∀v∈its,∃a t,v=Value.int a t)/\numsOf its=is
 | [],_,.nil=>⟨fun _ h=>absurd h (by simp),rfl⟩
 | i::is,_,.cons r rs=>by
  obtain ⟨t,rfl⟩:=r
  obtain ⟨h1,h2⟩:=zfv rs
  refine ⟨fun v hv=>?_,by show i::numsOf _=_;rw [h2]⟩
  rcases yD.mp hv with q|q
  ·exact ⟨i,t,q⟩
  ·exact h1 v q
def zmD {X:Cx} (hc:X.calm=true):CallR X (.builtin "sum") (fun xs H Q=>∃(a:Addr) (is:List Int),xs=[V.ref a]/\SqL X.K H a (is.map V.int)/\Q (.int is.sum) H):=by
 intro pins s U H xs us Q I r h
 obtain ⟨a,is,rfl,hq,q⟩:=h
 obtain ⟨u,rfl,ru⟩:=r.one
 obtain rfl:u=Value.ref a:=ru
 obtain ⟨its,rv,p,hz⟩:=I.list hq
 obtain ⟨h1,h2⟩:=zfv rv
 obtain ⟨ys,e⟩:=AllInts.items (vs:=its.toArray) (fun v hv=>h1 v (by simpa using hv))
 have hl:=p.isList
 rw [e] at hl
 refine sum_intListG (I.ok.hd hc) hl fun h' tk t' hk=>?_
 have es:preSum (numAt ys) ys.size=is.sum:=by
  rw [preSum_eq,List.take_of_length_le (by simp),<-nums_intItems,<-e]
  show (numsOf its).sum=_
  rw [h2]
 rw [es]
 exact ⟨.int is.sum,H,I.kept (t':=tk) hk,⟨_,rfl⟩,q⟩
def zmE (K:Frag) (te:TE) (tk:TO):TE:=fun U H Q=>te U H fun x H1=>tk U H1 fun k H2=>k=some (-1)/\∃a xs,x=.ref a/\SqL K H2 a xs/\∀p,H2 p=none->Q (.ref p) (upd H2 p (.lst xs.reverse))
def zmF {X:Cx}{e k:Expr}{te:TE}{tk:TO}{p2 pos:Pos}(he:PE X e te) (hk:PO X (some k) tk):PE X (.Subscript e (.Slice none none (some k) p2) pos) (zmE X.K te tk):=by
 intro pins s U H Q I h
 refine Subscript_ (thn (he pins s U H _ I h) fun v s1 ⟨x,H1,I1,r1,q1⟩=>?_)
 refine wpAny_Slice ?_
 rw [evalPart_none]
 refine zM ?_
 refine zM ?_
 refine thn (hk pins s1 U H1 _ I1 q1) fun vk s3 ⟨k',H3,I3,pk,hk',a,xs,ex,hq,q3⟩=>?_
 subst ex hk'
 obtain rfl:v=Value.ref a:=r1
 have I4:Inv X pins U H3 { s3 with heap:=s3.heap.push { cls:=.type "slice", data:=.fields #[.none,.none,vk] } }:=I3.kept (t':=s3.toks) fun b ob q=>yo _ q
 obtain ⟨its,rv,p,hz⟩:=I4.list hq
 show wpAny (model X.prog X.w) X.A (subscriptTail e (.Slice none none (some k) p2) (.ref a) (.ref s3.heap.objs.size)) (EP X pins U Q) X.xe { s3 with heap:=s3.heap.push { cls:=.type "slice", data:=.fields #[.none,.none,vk] } }
 refine tail_any (ops:=[.ref a,.ref s3.heap.objs.size]) p.isList.typeIs list_getitem_lookup ?_ rfl
 have hlen:=rv.length
 refine wpAny_getItem_list_slice p.isList (Heap.IsSliceOf.new ..) .none .none pk (by decide) ?_ (by rw [yx];omega)
 rw [krv_pick]
 have rr:Vals xs.reverse its.reverse:=rv.reverse
 refine ⟨.ref (s3.heap.push { cls:=.type "slice", data:=.fields #[.none,.none,vk] }).objs.size,upd H3 _ (.lst xs.reverse),I4.laid (t':=s3.toks) (fun b u e=>yo _ e) (yg _) (o:=.lst xs.reverse) ?_,rfl,q3 _ (I4.hok.fresh (yg _))⟩
 exact ⟨by simpa using hz,its.reverse,0,rr,y8 _ rfl⟩
def repS (z:Str) (n:Int):Str:=if n<1 then Str.empty else if (n==1||z.length==0)=true then z else ⟨(List.replicate n.toNat z.cps).foldl (·++·) #[]⟩
def zfw (c:Array Nat):∀(k:Nat) (a:Array Nat),((List.replicate k c).foldl (·++·) a).size=a.size+k*c.size
 | 0,a=>by simp
 | k+1,a=>by
  rw [List.replicate_succ,List.foldl_cons,zfw c k,Array.size_append,Nat.succ_mul]
  omega
def zc9 (z:Str) (n:Int):(repS z n).length=n.toNat*z.length:=by
 unfold repS
 split
 ·rename_i h
  have:n.toNat=0:=by omega
  rw [this,Nat.zero_mul];rfl
 ·rename_i h
  split
  ·rename_i h2
   simp only [Bool.or_eq_true,beq_iff_eq] at h2
   rcases h2 with h2|h2
   ·subst h2;simp
   ·rw [h2];simp
  ·show ((List.replicate n.toNat z.cps).foldl (·++·) #[]).size=_
   rw [zfw]
   show 0+n.toNat*z.cps.size=_
   rw [Nat.zero_add];rfl
def zfx:R2:=fun x y H Q=>∃z n,x=.str z/\y=.int n/\(0<=n/\n<=1000/\z.length<=1000)/\Q (.str (repS z n)) H
def zmG {X:Cx}:OpR X (binaryOp .Mult) zfx:=by
 intro pins s U H x y v u Q I rx ry h
 obtain ⟨z,n,rfl,rfl,⟨h0,h1,h2⟩,q⟩:=h
 obtain ⟨t,rfl⟩:=rx
 obtain ⟨t',rfl⟩:=ry
 have hb:n.toNat*z.length<=1000000:=by
  have:n.toNat<=1000:=by omega
  calc n.toNat*z.length<=1000*1000:=Nat.mul_le_mul this h2
   _=1000000:=rfl
 have hsz:=sizeLine_eq
 refine PySem.P.mul_str (by rw [jw (by omega),jw (by omega)];rfl) (fun ha _=>?_) (fun _ _=>?_) ?_
 ·have:(2 ^ 63-1:Int)/n>=1000:=by
   rw [ge_iff_le,Int.le_ediv_iff_mul_le (by omega)]
   omega
  omega
 ·show decide _=false
  rw [decide_eq_false_iff_not]
  have:z.length*n.toNat<=1000000:=by rw [Nat.mul_comm];exact hb
  rw [sizeLine_eq];omega
 ·by_cases c1:n<1
  ·rw [zE c1]
   have e:repS z n=Str.empty:=by unfold repS;rw [zE c1]
   rw [e] at q
   exact ⟨by decide,.str Str.empty,H,I.tok _,⟨_,rfl⟩,q⟩
  ·rw [zN c1]
   by_cases c2:(n==1||z.length==0)=true
   ·rw [zE c2]
    have e:repS z n=z:=by unfold repS;rw [zN c1,zE c2]
    rw [e] at q
    exact ⟨.str z,H,I,⟨_,rfl⟩,q⟩
   ·rw [zN c2]
    have e:repS z n=⟨(List.replicate n.toNat z.cps).foldl (·++·) #[]⟩:=by unfold repS;rw [zN c1,zN c2]
    have hl:=zc9 z n
    rw [e] at q hl
    exact ⟨by rw [hl,sizeLine_eq];omega,.str _,H,I.tok _,⟨_,rfl⟩,q⟩
end L2
namespace Mi
open PySem L2 PySem.W PySem.Spec
section
variable {X:Cx}{K:Frag}{mg:Str->Option Value}{Er:XK}{e o:Expr}{es:List Expr}{pos apos:Pos}{fs:ze->Mo (List PV)}{fo fa:ze->Mo PV}
def yK:PV->PV->Mo PV
 | .int i,.int j,st=>zeV (.int i) (.int j) st
 | .str z,.int n,st=>if 0<=n/\n<=1000/\z.length<=1000 then .ok (.str (repS z n)) st else .stuck
 | _,_,_=>.stuck
def jo:BinOk X .Mult yK:=by
 obtain ⟨r,h1,h2⟩:=zk1 (X:=X)
 refine ⟨fun x y H Q=>r x y H Q\/zfx x y H Q,h1.or zmG,fun ρ H st x y v w Q E s rx ry h=>?_⟩
 cases x with
 | int i =>
  cases y with
  | int j=>exact .inl (h2 ρ H st (.int i) (.int j) v w Q E s rx ry h)
  | _=>exact h.elim
 | str z =>
  cases y with
  | int n =>
   obtain ⟨c,h⟩:=Out.ifp h
   cases rx;cases ry
   exact .inr ⟨z,n,rfl,rfl,c,Out.now (x:=PV.str (repS z n)) h s _ rfl⟩
  | _=>exact h.elim
 | _=>exact h.elim
def intsP:List PV->Option (List Int)
 | []=>some []
 | .int i::r=>(intsP r).map (i::·)
 | _::_=>none
def zfy {ρ:List Addr}{H:Hp}:∀{xs:List PV}{is:List Int}{vs:List V},intsP xs=some is->Rs K mg ρ H xs vs->vs=is.map V.int
 | [],is,vs,e,h=>by cases e;cases h;rfl
 | .int i::r,is,vs,e,h=>by
  simp only [intsP,Option.map_eq_some_iff] at e
  obtain ⟨ir,e1,rfl⟩:=e
  obtain ⟨v,r',rfl,h1,h2⟩:=h
  cases h1
  rw [zfy e1 h2]
  rfl
 | .non::_,_,_,e,_=>by cases e
 | .bl _::_,_,_,e,_=>by cases e
 | .str _::_,_,_,e,_=>by cases e
 | .ty _::_,_,_,e,_=>by cases e
 | .tup _::_,_,_,e,_=>by cases e
 | .frl _::_,_,_,e,_=>by cases e
 | .ref _::_,_,_,e,_=>by cases e
 | .fn _::_,_,_,e,_=>by cases e
 | .kd _ _::_,_,_,e,_=>by cases e
 | .exo _ _ _::_,_,_,e,_=>by cases e
def zda:List PV->Mo PV:=fun vs st=>(zaH vs st).bind fun n st=>yh st n fun xs=>match intsP xs with
 | some is=>.ok (.int is.sum) st
 | none=>.stuck
def zmH (hc:X.calm=true):BltOk X (.builtin "sum") zda:=⟨_,zmD hc,fun ρ H st xs vs Q E s r h=>by
 obtain ⟨n,ys,rfl,hn,h⟩:=zfu h
 obtain ⟨xs',hn',h⟩:=yW h
 obtain ⟨v,rfl,rv⟩:=r.one
 obtain ⟨a,rfl,ha⟩:=rv
 obtain ⟨ws,hH,hR⟩:=s.addr hn' ha
 cases hi:intsP xs' with
 | none=>simp only [hi] at h;exact h.elim
 | some is =>
  simp only [hi] at h
  have e:=zfy hi hR
  subst e
  exact ⟨a,is,rfl,SqL.of hH,Out.now (x:=PV.int is.sum) h s _ rfl⟩⟩
def zmI:bootBuiltins "sum" = some (.builtin "sum"):=by decide +kernel
def zao:List PV->Mo PV
 | [.int i],st=>if i.natAbs.log2<1920 then .ok (.str (toString i)) st else .stuck
 | _,_=>.stuck
def zfz:BltOk X (.type "str") zao:=⟨_,ziP,fun ρ H st xs vs Q E s r h=>by
 unfold zao at h
 split at h
 ·rename_i i
  obtain ⟨c,h⟩:=Out.ifp h
  obtain ⟨v,rfl,rfl⟩:=r.one
  exact ⟨i,rfl,c,Out.now (x:=PV.str (toString i)) h s _ rfl⟩
 ·exact h.elim⟩
def zb9 (o:PV) (k:Option Int):Mo PV:=fun st=>match o,k with
 | .ref n,some (-1)=>yh st n fun xs=>.ok (.ref st.length) (st++[.lst xs.reverse])
 | _,_=>.stuck
def zbk (fa:ze->Mo PV) (fk:ze->Mo (Option Int)):ze->Mo PV:=fun env st=>(fa env st).bind fun x st1=>(fk env st1).bind fun k st2=>zb9 x k st2
def Rs.reverse {ρ:List Addr}{H:Hp}:∀{xs:List PV}{vs:List V},Rs K mg ρ H xs vs->Rs K mg ρ H xs.reverse vs.reverse
 | [],_,h=>by cases h;rfl
 | x::xs,_,h=>by
  obtain ⟨v,r,rfl,h1,h2⟩:=h
  rw [List.reverse_cons,List.reverse_cons]
  exact (Rs.reverse h2).append ⟨v,[],rfl,h1,rfl⟩
def zmJ {k:Expr}{fk:ze->Mo (Option Int)}{p2:Pos}(ha:ME X Er e fa) (hk:MO X Er (some k) fk):ME X Er (.Subscript e (.Slice none none (some k) p2) pos) (zbk fa fk) :=
 PE.weak (zmF ha hk) fun U H Q ⟨env,st,ρ,re,rs,h⟩=>⟨env,st,ρ,re,rs,h.then fun af H1 x st1 e1 s1 h1 v rv=>⟨env,st1,af,re.ext e1,s1,h1.then fun ao H2 l st2 e2 s2 h2=>by
  unfold zb9 at h2
  split at h2
  ·rename_i n
   obtain ⟨xs,hn,h2⟩:=yW h2
   obtain ⟨a,vs,rfl,ha,k1,k2⟩:=R.refL s2 (R.ext e2 _ rv) hn
   exact ⟨rfl,a,vs,rfl,SqL.of k1,fun p hp=>Out.newList h2 s2 k2.reverse hp⟩
  ·exact h2.elim⟩⟩
def strE:List Expr->Option (List Str)
 | []=>some []
 | .Constant (.str z) _ _::r=>(strE r).map (z::·)
 | _::_=>none
def zaI (zs:List Str):ze->Mo (List PV):=fun _ st=>.ok (zs.map PV.str) st
def zca:∀{es:List Expr}{zs:List Str},strE es=some zs->MA X Er es (zaI zs):=by
 intro es
 induction es with
 | nil=>intro zs h;cases h;exact zo
 | cons e r ih =>
  intro zs h
  cases e with
  | Constant c j p =>
   cases c with
   | str z =>
    simp only [strE,Option.map_eq_some_iff] at h
    obtain ⟨zr,h1,rfl⟩:=h
    exact zeT zD (ih h1) zmw
   | _=>cases h
  | _=>cases h
end
section
variable {env:ze}{st:Sto}{fa fb fo fi fv fe:ze->Mo PV}{fs:ze->Mo (List PV)}{ft:ze->Mo Bool}{g:ze->Mo Fl}{src:ze->Mo Sq}
@[simp] def zqG (xs:List PV) (i:Int):zq (.tup xs) (.int i) st=optR (atI xs i) st:=(rfl)
@[simp] def zqH (xs:List PV) (i:Int):zq (.frl xs) (.int i) st=optR (atI xs i) st:=(rfl)
@[simp] def zaJ (n:Nat) (i:Int):zq (.ref n) (.int i) st=yh st n fun xs=>optR (atI xs i) st:=(rfl)
@[simp] def zfA (z:Str) (i:Int):zq (.str z) (.int i) st=if z.length<=lim then optR ((atI z.cps.toList i).map fun c=>.str ⟨#[c]⟩) st else .stuck:=(rfl)
@[simp] def zmK:j2 src fe env st=(src env st).bind fun q st1=>compS fe env q st1:=(rfl)
@[simp] def zmL (xs:List PV):compS fe env (.im xs) st=if xs.length<=lim then compL fe env xs [] st else .stuck:=(rfl)
@[simp] def zfB:iRng1 fs env st=(fs env st).bind zal:=(rfl)
@[simp] def zmM (j:Int):zal [.int j] st=if cR j=true then .ok (.im (nums 0 j.toNat)) st else .stuck:=(rfl)
@[simp] def zqI (n:Nat):zaH [.ref n] st=yh st n fun _=>.ok n st:=(rfl)
@[simp] def zmN (i:Int):zao [.int i] st=if i.natAbs.log2<1920 then .ok (.str (toString i)) st else .stuck:=(rfl)
@[simp] def zmO (i j:Int):yK (.int i) (.int j) st=if cMul i j=true then .ok (.int (i*j)) st else .stuck:=(rfl)
@[simp] def zfC (z:Str) (n:Int):yK (.str z) (.int n) st=if 0<=n/\n<=1000/\z.length<=1000 then .ok (.str (repS z n)) st else .stuck:=(rfl)
@[simp] def zmP (fk:ze->Mo (Option Int)):zbk fa fk env st=(fa env st).bind fun x st1=>(fk env st1).bind fun k st2=>zb9 x k st2:=(rfl)
@[simp] def zmQ (n:Nat):zb9 (.ref n) (some (-1)) st=yh st n fun xs=>.ok (.ref st.length) (st++[.lst xs.reverse]):=(rfl)
@[simp] def zqJ (vs:List PV):zda vs st=(zaH vs st).bind fun n st=>yh st n fun xs=>match intsP xs with|some is=>.ok (.int is.sum) st|none=>.stuck:=(rfl)
@[simp] def zfD (neg:Bool) (x:PV) (ys:List PV):yM neg x (.tup ys) st=if okIn x ys then .ok (.bl (neg.xor (ys.any fun y=>eqP y x))) st else .stuck:=by unfold yM;cases x<;>rfl
@[simp] def zmR (n:Nat) (l u:Option Int):oSl (.ref n) l u st=yh st n fun xs=>.ok (.ref st.length) (st++[.lst (cutP xs l u)]):=(rfl)
@[simp] def wU (n:Nat):js [.ref n] st=yh st n fun xs=>.ok (.tup xs) st:=(rfl)
@[simp] def zfE (n:Nat) (y:PV):yZ (.ref n) y st=yh st n fun xs=>if xs.length<lim then .ok .non (st.set n (.lst (xs++[y]))) else .stuck:=(rfl)
end
def Pre (a b:Sto):Prop:=∃d,b=a++d
def Pre.of (st d:Sto):Pre st (st++d):=⟨d,rfl⟩
def Pre.get {a b:Sto}(h:Pre a b) {n:Nat}{so:SO}(e:a[n]?=some so):b[n]?=some so:=by
 obtain ⟨d,rfl⟩:=h
 rw [we (yE.mp e).1]
 exact e
def yu (st:Sto) (so:SO):(st++[so])[st.length]?=some so:=by simp
def zmS {K:Frag}{mg:Str->Option Value}{t:IsT}(hs:t.sub=fun _ _=>none) (hT:t.subT=fun _ _=>none) (hC:t.tyC=fun _ _=>none):IsF K mg t where
 s c B b h:=by rw [hs] at h;cases h
 tt c n b h:=by rw [hT] at h;cases h
 u T B b h:=by rw [hC] at h;cases h
 x c C h hm z:=by
  rcases z with ⟨B,b,z⟩|⟨n,b,z⟩
  ·rw [hs] at z;cases z
  ·rw [hT] at z;cases z
 i c C h hm z:=by
  rcases z with ⟨B,b,z⟩|⟨n,b,z⟩
  ·rw [hs] at z;cases z
  ·rw [hT] at z;cases z
section
variable {X:Cx}{Er:XK}{pos:Pos}
inductive MPs (X:Cx) (Er:XK):List (Option Expr)->List Expr->List Str->List (ze->Mo PV)->Prop
 | nil:MPs X Er [] [] [] []
 | cons {z:Str} {j} {p:Pos} {v:Expr} {f:ze->Mo PV} {ks:List (Option Expr)} {vs:List Expr} {zs:List Str} {fs:List (ze->Mo PV)} (hv:ME X Er v f) (hr:MPs X Er ks vs zs fs):MPs X Er (some (.Constant (.str z) j p)::ks) (v::vs) (z::zs) (f::fs)
def MPs.len {ks:List (Option Expr)}{vs:List Expr}{zs:List Str}{fs:List (ze->Mo PV)}(h:MPs X Er ks vs zs fs):ks.length=vs.length/\zs.length=fs.length/\ks.length=zs.length/\ks.all (·.isSome)=true:=by
 induction h with
 | nil=>exact ⟨rfl,rfl,rfl,rfl⟩
 | cons hv hr ih=>exact ⟨by simp [ih.1],by simp [ih.2.1],by simp [ih.2.2.1],by simpa using ih.2.2.2⟩
def isEmp:Option SO->Bool
 | some (.dic [] [])=>true
 | _=>false
def zmT {o:Option SO}(h:isEmp o=true):o=some (.dic [] []):=by
 unfold isEmp at h
 split at h
 ·rfl
 ·cases h
def zfF:∀{zs:List Str}{vs:List V},(zs.map V.str).zip vs=((zs.map Sum.inr:List Key).zip vs).map fun kv=>(kV kv.1,kv.2)
 | [],_=>rfl
 | _::_,[]=>rfl
 | z::zs,v::vs=>by simp only [ji,List.zip_cons_cons,zfF (zs:=zs) (vs:=vs)];rfl
end
section
variable {X:Cx}
end
section
variable {X:Cx}
end
def allE (f:PV->PV->Option Bool):List PV->List PV->Option Bool
 | [],[]=>some true
 | x::xs,y::ys=>match f x y,allE f xs ys with
  | some a,some b=>some (a&&b)
  | _,_=>none
 | _,_=>some false
def hitsE (f:PV->PV->Option Bool) (ks':List Str) (xs':List PV):List Str->List PV->Option Bool
 | k::ks,x::xs=>match (ks'.zip xs').lookup k with
  | none=>some false
  | some y=>match f x y,hitsE f ks' xs' ks xs with
   | some a,some b=>some (a&&b)
   | _,_=>none
 | _,_=>some true
def zfG {f:PV->PV->Option Bool}:∀{xs ys:List PV}{b:Bool},allE f xs ys=some b->∃e:Nat->Bool,(∀j x y,xs[j]?=some x->ys[j]?=some y->f x y=some (e j))/\((List.range (min xs.length ys.length)).all e&&xs.length==ys.length)=b
 | [],[],b,h=>by cases h;exact ⟨fun _=>true,fun j x y h=>by simp at h,by simp⟩
 | [],y::ys,b,h=>by cases h;exact ⟨fun _=>true,fun j x y h=>by simp at h,by simp⟩
 | x::xs,[],b,h=>by cases h;exact ⟨fun _=>true,fun j x y _ h=>by simp at h,by simp⟩
 | x::xs,y::ys,b,h=>by
  simp only [allE] at h
  cases hf:f x y with
  | none=>rw [hf] at h;cases h
  | some a =>
   cases hr:allE f xs ys with
   | none=>rw [hf,hr] at h;cases h
   | some c =>
    rw [hf,hr] at h
    cases h
    obtain ⟨e,h1,h2⟩:=zfG hr
    refine ⟨fun j=>match j with|0=>a|j+1=>e j,fun j u v hu hv=>?_,?_⟩
    ·cases j with
     | zero=>simp at hu hv;subst hu;subst hv;exact hf
     | succ j=>simp at hu hv;exact h1 j u v hu hv
    ·have e1:min (x::xs).length (y::ys).length=min xs.length ys.length+1:=by simp only [jY];omega
     have e2:((x::xs).length==(y::ys).length)=(xs.length==ys.length):=by
      rw [Bool.eq_iff_iff];simp
     rw [e1,e2,List.range_succ_eq_map,List.all_cons,List.all_map,<-h2,Bool.and_assoc]
     rfl
section
variable {X:Cx}{Er:XK}{K:Frag}{mg:Str->Option Value}{ρ:List Addr}{pins:List (Addr×Obj)}{U:L2.St}{H:Hp}{s:Shared}{st:Sto}
def zmU {ρ:List Addr}(nd:ρ.Nodup) {n m:Nat}{a:Addr}(h:ρ[n]?=some a) (h':ρ[m]?=some a):n=m:=by
 obtain ⟨h1,h2⟩:=yE.mp h
 obtain ⟨h3,h4⟩:=yE.mp h'
 have pw:=List.pairwise_iff_getElem.mp nd
 rcases Nat.lt_trichotomy n m with c|c|c
 ·exact absurd (h2.trans h4.symm) (pw n m h1 h3 c)
 ·exact c
 ·exact absurd (h4.trans h2.symm) (pw m n h3 h1 c)
def zfH {f:PV->PV->Option Bool}(hf:∀x y v b,f x y=some b->R K mg ρ H x v->R K mg ρ H y v->b=true):∀{xs ys:List PV}{vs:List V}{b:Bool},allE f xs ys=some b->Rs K mg ρ H xs vs->Rs K mg ρ H ys vs->b=true
 | [],[],vs,b,h,_,_=>by cases h;rfl
 | [],y::ys,vs,b,h,rx,ry=>by cases rx;obtain ⟨_,_,e,_⟩:=ry;cases e
 | x::xs,[],vs,b,h,rx,ry=>by cases ry;obtain ⟨_,_,e,_⟩:=rx;cases e
 | x::xs,y::ys,vs,b,h,rx,ry=>by
  obtain ⟨v,r,rfl,r1,r2⟩:=rx
  obtain ⟨v',r',e,r3,r4⟩:=ry
  cases e
  simp only [allE] at h
  cases h1:f x y with
  | none=>rw [h1] at h;cases h
  | some a =>
   cases h2:allE f xs ys with
   | none=>rw [h1,h2] at h;cases h
   | some c =>
    rw [h1,h2] at h
    cases h
    rw [hf x y v a h1 r1 r3,zfH hf h2 r2 r4]
    rfl
def zfI {f:PV->PV->Option Bool}(hf:∀x v b,f x x=some b->R K mg ρ H x v->b=true) {ks0:List Str}{xs0:List PV}:∀{ks:List Str}{xs:List PV}{vs:List V}{b:Bool},(∀k x,(k,x)∈ks.zip xs->(ks0.zip xs0).lookup k=some x)->hitsE f ks0 xs0 ks xs=some b->Rs K mg ρ H xs vs->b=true
 | [],xs,vs,b,_,h,_=>by cases xs<;>(cases h;rfl)
 | k::ks,[],vs,b,_,h,_=>by cases h;rfl
 | k::ks,x::xs,vs,b,hm,h,rx=>by
  obtain ⟨v,r,rfl,r1,r2⟩:=rx
  simp only [hitsE] at h
  rw [hm k x (by simp)] at h
  simp only at h
  cases h1:f x x with
  | none=>rw [h1] at h;cases h
  | some a =>
   cases h2:hitsE f ks0 xs0 ks xs with
   | none=>rw [h1,h2] at h;cases h
   | some c =>
    rw [h1,h2] at h
    cases h
    rw [hf x v a h1 r1,zfI hf (fun k' x' h'=>hm k' x' (by simp [h'])) h2 r2]
    rfl
def zfJ:∀{ks:List Str}{xs:List PV},ks.Nodup->∀k x,(k,x)∈ks.zip xs->(ks.zip xs).lookup k=some x
 | [],_,_,k,x,h=>by simp at h
 | _::_,[],_,k,x,h=>by simp at h
 | k0::ks,x0::xs,nd,k,x,h=>by
  rw [jc] at nd
  rw [List.zip_cons_cons] at h ⊢
  rcases yD.mp h with e|h'
  ·cases e;simp [jx]
  ·have hk:k∈ks:=(List.of_mem_zip h').1
   have ne:(k==k0)=false:=by
    simp only [beq_eq_false_iff_ne]
    intro e;subst e;exact nd.1 hk
   rw [jx,ne]
   exact zfJ nd.2 k x h'
end
def EqW (P:Program) (W:World) (A:Around) (s:Shared) (u u':Value) (b:Bool):Prop:=∀(E:Value->Shared->Prop) (Q:Bool->Shared->Prop),Q b s->wpAny (model P W) A (eqBool u u') Q E s
def RcW (P:Program) (W:World) (A:Around) (s:Shared) (u u':Value) (b:Bool):Prop:=∀(E Q:Value->Shared->Prop),Q (.bool b) s->wpAny (model P W) A (richCompare .Eq u u') Q E s
section
variable {P:Program}{W:World}{A:Around}{s:Shared}
def EqW.of_refs {l b:Addr}{k:Bool}(hne:l≠b) (h:RcW P W A s (.ref l) (.ref b) k):EqW P W A s (.ref l) (.ref b) k:=fun E Q hq=>by
 unfold eqBool
 refine jp (wpAny_ite_split (fun hab=>absurd (by have:=eq_of_beq hab;injection this) hne) fun _=>?_)
 exact zt (h E _ (zaa hq))
def zmV {l b:Addr}{its its2:Array Value}{n n2:Nat}{dd dd2:Option Addr}{sl sl2:Array (Option Value)}{e:Nat->Bool}{E Q:Value->Shared->Prop}
  (hl:s.heap.get? l=some { cls:=.type "tuple", dict:=dd,data:=.seq its n,slots:=sl }) (hb:s.heap.get? b=some { cls:=.type "tuple", dict:=dd2,data:=.seq its2 n2,slots:=sl2 })
  (he:∀j (h1:j<its.size) (h2:j<its2.size),EqW P W A.in1 s its[j] its2[j] (e j)) (h:Q (.bool ((List.range (min its.size its2.size)).all e&&its.size==its2.size)) s) :
  wpAny (model P W) A.in1 (Builtin.«tuple.__eq__» ⟨[.ref l,.ref b],[]⟩) (fun fin s'=>∃v,fin=.done (.ret v)/\Q v s') E s:=by
 obtain ⟨hp,g,d,tk,os⟩:=s
 have f2:=AutoSeq1.sub_tuple_tuple
 have hZ:(its.toList.zip its2.toList).length=min its.size its2.size:=by simp
 wp_walk using AutoSeq1.wpAny_loadPart' hl,AutoSeq1.wpAny_loadPart' hb,wpAny_forIn_list _ (fun rest b s'=>b.1=none/\s'=⟨hp,g,d,tk,os⟩/\∃i,rest=(its.toList.zip its2.toList).drop i/\Q (.bool (((List.range (min its.size its2.size)).drop i).all e&&its.size==its2.size)) ⟨hp,g,d,tk,os⟩) _
 case turn =>
  rintro ⟨y,x⟩ rest b s' ⟨hb',rfl,i,hz,hR⟩
  have hlt:i<(its.toList.zip its2.toList).length:=by
   rcases Nat.lt_or_ge i (its.toList.zip its2.toList).length with h'|h'
   ·exact h'
   ·rw [za0 h'] at hz;cases hz
  have hm:i<min its.size its2.size:=hZ▸hlt
  have h1:i<its.size:=by omega
  have h2:i<its2.size:=by omega
  rw [jJ hlt] at hz
  injection hz with hyx hrest
  have hy:y=its[i]:=by have:=congrArg Prod.fst hyx;simpa using this
  have hx:x=its2[i]:=by have:=congrArg Prod.snd hyx;simpa using this
  subst hy hx
  have hd:(List.range (min its.size its2.size)).drop i=i::(List.range (min its.size its2.size)).drop (i+1):=by simp [jJ,hm]
  rw [hd,List.all_cons] at hR
  refine zt (he i h1 h2 _ _ ?_)
  cases hy:e i with
  | true =>
   rw [hy] at hR
   wp_walk
   exact ⟨rfl,rfl,i+1,hrest,by simpa using hR⟩
  | false =>
   rw [hy] at hR
   wp_walk
   exact ⟨_,rfl,by simpa using hR⟩
 case fin =>
  rintro ⟨b1,b2⟩ s' ⟨hb',rfl,i,hz,hR⟩
  simp only at hb'
  subst hb'
  have hge:min its.size its2.size<=i:=by
   rcases Nat.lt_or_ge i (its.toList.zip its2.toList).length with h'|h'
   ·rw [jJ h'] at hz;cases hz
   ·exact hZ▸h'
  rw [za0 (by simpa using hge)] at hR
  wp_walk
  exact ⟨_,rfl,by simpa [Builtin.Tuple.tupleCompareSizes] using hR⟩
 case h=>exact ⟨rfl,rfl,0,rfl,by simpa using h⟩
def RcW.tuples {l b:Addr}{its its2:Array Value}{e:Nat->Bool}(hl:s.heap.IsTuple l its) (hb:s.heap.IsTuple b its2) (hu:A.units<cLine)
  (he:∀j (h1:j<its.size) (h2:j<its2.size),EqW P W A.in1 s its[j] its2[j] (e j)):RcW P W A s (.ref l) (.ref b) ((List.range (min its.size its2.size)).all e&&its.size==its2.size):=fun E Q h=>by
 obtain ⟨⟨cls,dd,data,sl⟩,ho,hc,n,hd⟩:=id hl
 obtain ⟨⟨cls2,dd2,data2,sl2⟩,ho2,hc2,n2,hd2⟩:=id hb
 simp only at hc hd hc2 hd2
 subst hc hd hc2 hd2
 refine wpAny_richCompare_same_room (op:=.Eq) ⟨_,ho,rfl⟩ ⟨_,ho2,rfl⟩ F.slot_tuple_eq (wF F.slot_tuple_eq ⟨_,ho,rfl⟩ F.entry_tuple_eq (zmV (Q:=fun v s'=>v ≠ .notImplemented/\Q v s') ho ho2 he (show Value.bool ((List.range (min its.size its2.size)).all e&&its.size==its2.size)≠Value.notImplemented/\Q (.bool ((List.range (min its.size its2.size)).all e&&its.size==its2.size)) s from ⟨(fun x=>nomatch x),h⟩)) (F.args_tuple_eq_2 _ _)) hu
end
section
variable {X:Cx}{Er:XK}{K:Frag}{mg:Str->Option Value}{ρ:List Addr}{pins:List (Addr×Obj)}{U:L2.St}{H:Hp}{s:Shared}{st:Sto}
def zmW {k:Str}{ks:List Str}{v:V}{vs:List V}{us:List (Key×Value)}(h:KV (kz (k::ks) (v::vs)) us):∃u r,us=(Sum.inr k,u)::r/\RelV v u/\KV (kz ks vs) r:=by
 cases h with
 | @cons p q ps qs h t =>
  obtain ⟨h1,h2⟩:=h
  obtain ⟨k',u⟩:=q
  have:k'=Sum.inr k:=h1.symm
  subst this
  exact ⟨u,qs,rfl,h2,t⟩
def zfK {f:Str}:∀{ks:List Str}{xs:List PV}{vs:List V},Rs K mg ρ H xs vs->(ks.zip xs).lookup f=none->(ks.zip vs).lookup f=none
 | [],_,_,_,_=>by simp
 | k::ks,[],_,r,_=>by cases r;simp
 | k::ks,y::xs,_,r,h=>by
  obtain ⟨v,r',rfl,h1,h2⟩:=r
  simp only [List.zip_cons_cons,jx] at h ⊢
  split at h
  ·cases h
  ·exact zfK h2 h
def zmX {f:PV->PV->Option Bool}{G:Value->Value->Bool->Prop}(hf:∀x y v w u u' b,f x y=some b->R K mg ρ H x v->R K mg ρ H y w->RelV v u->RelV w u'->G u u' b) {xs ys:List PV}{vs ws:List V}{its its2:List Value}{e:Nat->Bool}(h2:Rs K mg ρ H xs vs) (h4:Rs K mg ρ H ys ws) (r1:Vals vs its) (r2:Vals ws its2) (he:∀j x y,xs[j]?=some x->ys[j]?=some y->f x y=some (e j)) :
  ∀j (g1:j<its.toArray.size) (g2:j<its2.toArray.size),G its.toArray[j] its2.toArray[j] (e j):=by
 intro j g1 g2
 have l1:=h2.len
 have l2:=h4.len
 have l3:=r1.length
 have l4:=r2.length
 have k1:j<xs.length:=by rw [l1,l3];simpa using g1
 have k2:j<ys.length:=by rw [l2,l4];simpa using g2
 obtain ⟨v1,e1,rr1⟩:=h2.get (yn k1)
 obtain ⟨v2,e2,rr2⟩:=h4.get (yn k2)
 obtain ⟨u1,f1,ru1⟩:=r1.get e1
 obtain ⟨u2,f2,ru2⟩:=r2.get e2
 have w1:its.toArray[j]=u1:=by
  obtain ⟨_,z⟩:=yE.mp f1
  simpa using z
 have w2:its2.toArray[j]=u2:=by
  obtain ⟨_,z⟩:=yE.mp f2
  simpa using z
 rw [w1,w2]
 exact hf xs[j] ys[j] v1 v2 u1 u2 (e j) (he j _ _ (yn k1) (yn k2)) rr1 rr2 ru1 ru2
end
section
variable {X:Cx}{Er:XK}{K:Frag}{mg:Str->Option Value}
def vals_strs:∀{ks:List Str}{us:List Value},us.length=ks.length->(∀(j:Nat) v,us[j]?=some v->∃k,ks[j]?=some k/\∃t,v=Value.str k t)->Vals (ks.map V.str) us
 | [],[],_,_=>.nil
 | [],_::_,h,_=>by simp at h
 | _::_,[],h,_=>by simp at h
 | k::ks,u::us,h,hv=>by
  obtain ⟨k',e,t,ev⟩:=hv 0 u rfl
  simp at e
  subst e
  exact .cons ⟨t,ev⟩ (vals_strs (by simpa using h) fun j v e=>by simpa using hv (j+1) v (by simpa using e))
def zmY (hc:X.calm=true):CallR X (.type "list") (fun xs H Q=>∃p ks vs,xs=[.ref p]/\H p=some (.dK (kz ks vs))/\ks.length=vs.length/\∀l,H l=none->Q (.ref l) (upd H l (.lst (ks.map V.str)))):=by
 intro pins s U H xs us Q I r h
 obtain ⟨p,ks,vs,rfl,hp,hl,q⟩:=h
 obtain ⟨u,rfl,rx⟩:=zay r
 cases rx
 obtain ⟨hz,lo,kv,kvr,hd⟩:=jq I.hok (.inl hp)
 obtain ⟨ep,hat⟩:=hd.dictAt
 have lk:kv.length=ks.length:=by rw [<-kvr.length];simp [kz,hl]
 have keys:kv.map (·.1)=ks.map Sum.inr:=by
  rw [<-kvr.keys]
  simp [kz,hl,List.map_fst_zip]
 refine kdl_call (kdl_dict (knd:=mixKind X.prog X.w) (kvs:=kv) (ep:=ep) lo) (I.ok.hd hc) hat (by rw [<-kvr.length];exact hz) fun h' tk acc' c' hk hS hitems=>?_
 have hv:Vals (ks.map V.str) acc'.toList:=vals_strs (by rw [Array.length_toList,hitems.1,lk]) fun j v e=>by
  obtain ⟨k,x,e1,e2⟩:=hitems.2 j v (by rw [<-Array.getElem?_toList];exact e)
  have e3:(kv.map (·.1))[j]?=some k:=by rw [jt,e1];rfl
  rw [keys,jt] at e3
  cases e4:ks[j]? with
  | none=>rw [e4] at e3;cases e3
  | some k' =>
   rw [e4] at e3
   cases e3
   rcases wf (show keyIs (Sum.inr k') v=true from e2) with ⟨i,t,z,_⟩|⟨y,t,z,z'⟩
   ·cases z
   ·cases z;exact ⟨k',rfl,t,z'⟩
 exact ⟨.ref s.heap.objs.size,_,I.laid (t':=tk) hk (yg _) (show ObjOk X.prog X.w _ h' _ (.lst (ks.map V.str)) from ⟨by rw [jX,<-lk,<-kvr.length];exact hz,acc'.toList,c',hv,by simpa using hS⟩),rfl,q _ I.fresh⟩
def j3:List PV->Mo PV:=fun xs st=>match xs with
 | [.ref n]=>match st[n]? with
  | some (.dic ks _)=>.ok (.ref st.length) (st++[.lst (ks.map PV.str)])
  | _=>zbd xs st
 | _=>zbd xs st
def zdb {ρ:List Addr}{H:Hp}:∀{ks:List Str},Rs K mg ρ H (ks.map PV.str) (ks.map V.str)
 | []=>rfl
 | k::ks=>⟨_,_,rfl,rfl,zdb⟩
def zfL (hc:X.calm=true):BltOk X (.type "list") j3:=by
 obtain ⟨r,h1,h2⟩:=zlf (X:=X)
 refine ⟨_,h1.or (zmY hc),fun ρ H st xs vs Q E s rx h=>?_⟩
 by_cases hx:∃n ks ys,xs=[.ref n]/\st[n]?=some (.dic ks ys)
 ·obtain ⟨n,ks,ys,rfl,e⟩:=hx
  have h:Out X.K X.mg ρ H (.ok (.ref st.length) (st++[.lst (ks.map PV.str)])) (gV X.K X.mg Q) E:=by
   simpa only [j3,e] using h
  obtain ⟨v,rfl,rv⟩:=Rs.one rx
  obtain ⟨a,vs,rfl,_,k1,_,k3⟩:=R.refD s rv e
  exact .inr ⟨a,ks,vs,rfl,k1,k3,fun l hl=>Out.newList (xs:=ks.map PV.str) h s zdb hl⟩
 ·refine .inl (h2 ρ H st xs vs Q E s rx ?_)
  have:j3 xs st=zbd xs st:=by
   unfold j3
   split
   ·rename_i n
    split
    ·rename_i ks ys e;exact absurd ⟨n,ks,ys,rfl,e⟩ hx
    ·rfl
   ·rfl
  rw [this] at h
  exact h
def zfM {ss:List Stmt}:MSs X Er ss zc4:=PSs.weak zif fun D U H ⟨env,st,ρ,re,rs,h⟩=>h
end
section
variable {P:Program}{W:World}{A:Around}{s:Shared}{E:Value->Shared->Prop}{K:Type} [DecidableEq K] {knd:KeyKind P W K}
def zaK {d:Addr} {kv:List (K×Value)} {x:Value} {T:String} {name:Str} (sl:Slot "dict" name "dict.__eq__") (hd:s.heap.DictOf knd d kv) (hx:s.TypeIs x T) (hs:isSubtype (.type T) (.type "dict")=pure false) (Q:Value->Shared->Prop) (h:Q .notImplemented s) :
  wpAny (model P W) A (call (.builtin "dict.__eq__") [.ref d,x]) Q E s:=by
 refine wF sl hd.typeIs PySem.F.entry_dict_eq ?_ (PySem.F.args_dict_eq_2 _ _)
 show wpAny _ _ (Builtin.Dict.dictSlotArgs "__eq__" ⟨[.ref d,x],[]⟩ >>= _) _ _ s
 refine zt ?_
 unfold Builtin.Dict.dictSlotArgs
 refine zt (wpAny_notOrdered_dict hd.typeIs ?_)
 show wpAny _ _ (pure (Value.ref d,x)) _ _ s
 refine zM ?_
 refine zt (wpAny_isInstance hx hs ?_)
 simp only [Bool.not_false,wb]
 exact zt (wpAny_rule (zM ⟨_,rfl,h⟩))
def zfN {d:Addr} {o:Obj} {b:Int} {u:Tok} {name:Str} (sl:Slot "int" name "int.__eq__") (ho:s.heap.get? d=some o) (hd:o.cls=.type "dict") {es:Array DictEntry} {ep:Nat} (hq':o.data=.dict es ep) (Q:Value->Shared->Prop) (h:Q .notImplemented s) :
  wpAny (model P W) A (call (.builtin "int.__eq__") [.int b u,.ref d]) Q E s:=by
 refine wF sl (typeIs_int s b u) PySem.F.entry_int_eq ?_ (PySem.F.args_int_eq_2 _ _)
 obtain ⟨hp,g,dd,tk,os⟩:=s
 obtain ⟨c,d1,d2,d3⟩:=o
 cases hd
 cases hq'
 wp_walk using AutoSeq1.wpAny_loadPart' ho,wpAny_load ho
 exact ⟨_,rfl,h⟩
def zfO {d:Addr} {o:Obj} {b:Str} {u:Tok} {name:Str} (sl:Slot "str" name "str.__eq__") (ho:s.heap.get? d=some o) (hd:o.cls=.type "dict") {es:Array DictEntry} {ep:Nat} (hq':o.data=.dict es ep) (Q:Value->Shared->Prop) (h:Q .notImplemented s) :
  wpAny (model P W) A (call (.builtin "str.__eq__") [.str b u,.ref d]) Q E s:=by
 refine wF sl (typeIs_str s b u) PySem.F.entry_str_eq ?_ (PySem.F.args_str_eq_2 _ _)
 obtain ⟨hp,g,dd,tk,os⟩:=s
 obtain ⟨c,d1,d2,d3⟩:=o
 cases hd
 cases hq'
 wp_walk using AutoSeq1.wpAny_loadPart' ho,wpAny_load ho
 exact ⟨_,rfl,h⟩
def zfP {d t:Addr} {o ot:Obj} {its:Array Value} {n:Nat} {name:Str} (sl:Slot "tuple" name "tuple.__eq__") (ht:s.heap.get? t=some ot) (hc:ot.cls=.type "tuple") (hq:ot.data=.seq its n) (ho:s.heap.get? d=some o) (hd:o.cls=.type "dict") {es:Array DictEntry} {ep:Nat} (hq':o.data=.dict es ep) (Q:Value->Shared->Prop) (h:Q .notImplemented s) :
  wpAny (model P W) A (call (.builtin "tuple.__eq__") [.ref t,.ref d]) Q E s:=by
 refine wF sl ⟨_,ht,hc⟩ PySem.F.entry_tuple_eq ?_ (PySem.F.args_tuple_eq_2 _ _)
 obtain ⟨hp,g,dd,tk,os⟩:=s
 obtain ⟨c,d1,d2,d3⟩:=o
 obtain ⟨c',d1',d2',d3'⟩:=ot
 cases hd
 cases hq'
 cases hc
 cases hq
 have f1:=PySem.F.sub_dict_tuple
 wp_walk using AutoSeq1.wpAny_loadPart' ht,AutoSeq1.wpAny_loadPart' ho
 exact ⟨_,rfl,h⟩
def EqW.of_ref {d:Addr}{u':Value}{k:Bool}(hne:Value.ref d≠u') (h:RcW P W A s (.ref d) u' k):EqW P W A s (.ref d) u' k:=fun E Q hq=>by
 unfold eqBool
 refine jp (wpAny_ite_split (fun hab=>absurd (eq_of_beq hab) hne) fun _=>?_)
 exact zt (h E _ (zaa hq))
def EqW.of_num {d:Addr}{b:Int}{u:Tok}{k:Bool}(h:RcW P W A s (.int b u) (.ref d) k):EqW P W A s (.int b u) (.ref d) k:=fun E Q hq=>by
 unfold eqBool
 refine jp (wpAny_ite_split (fun hab=>absurd (eq_of_beq hab) nofun) fun _=>?_)
 exact zt (h E _ (zaa hq))
def EqW.of_txt {d:Addr}{b:Str}{u:Tok}{k:Bool}(h:RcW P W A s (.str b u) (.ref d) k):EqW P W A s (.str b u) (.ref d) k:=fun E Q hq=>by
 unfold eqBool
 refine jp (wpAny_ite_split (fun hab=>absurd (eq_of_beq hab) nofun) fun _=>?_)
 exact zt (h E _ (zaa hq))
def RcW.rec_num {d:Addr}{kv:List (K×Value)}(hd:s.heap.DictOf knd d kv) (b:Int) (u:Tok) (hu:A.units<cLine):RcW P W A s (.ref d) (.int b u) false:=fun E Q h=>by
 obtain ⟨o,es,ep,ho,hx,hda,_⟩:=id hd
 have ty:=hd.typeIs
 obtain ⟨o',ho',hc⟩:=id ty
 rw [ho] at ho'
 cases ho'
 exact SeqAt.rc_eq_decline_or (k:=false) ty (typeIs_int s b u) (by decide) PySem.F.sub_int_dict PySem.F.slot_dict_eq PySem.F.slot_int_eq_refl (zaK PySem.F.slot_dict_eq hd (typeIs_int s b u) PySem.F.sub_int_dict) (zfN PySem.F.slot_int_eq_refl ho hc hda)
  (fun _ hq=>wpAny_of_eq (rfl:isSame (.ref d) (.int b u)=pure false) hq) (.inr hu) h
def RcW.num_rec {d:Addr}{kv:List (K×Value)}(hd:s.heap.DictOf knd d kv) (b:Int) (u:Tok) (hu:A.units<cLine):RcW P W A s (.int b u) (.ref d) false:=fun E Q h=>by
 obtain ⟨o,es,ep,ho,hx,hda,_⟩:=id hd
 have ty:=hd.typeIs
 obtain ⟨o',ho',hc⟩:=id ty
 rw [ho] at ho'
 cases ho'
 exact SeqAt.rc_eq_decline_or (k:=false) (typeIs_int s b u) ty (by decide) PySem.F.sub_dict_int PySem.F.slot_int_eq PySem.F.slot_dict_eq_refl (zfN PySem.F.slot_int_eq ho hc hda) (zaK PySem.F.slot_dict_eq_refl hd (typeIs_int s b u) PySem.F.sub_int_dict)
  (fun _ hq=>wpAny_of_eq (rfl:isSame (.int b u) (.ref d)=pure false) hq) (.inr hu) h
def RcW.rec_txt {d:Addr}{kv:List (K×Value)}(hd:s.heap.DictOf knd d kv) (b:Str) (u:Tok) (hu:A.units<cLine):RcW P W A s (.ref d) (.str b u) false:=fun E Q h=>by
 obtain ⟨o,es,ep,ho,hx,hda,_⟩:=id hd
 have ty:=hd.typeIs
 obtain ⟨o',ho',hc⟩:=id ty
 rw [ho] at ho'
 cases ho'
 exact SeqAt.rc_eq_decline_or (k:=false) ty (typeIs_str s b u) (by decide) PySem.F.sub_str_dict PySem.F.slot_dict_eq PySem.F.slot_str_eq_refl (zaK PySem.F.slot_dict_eq hd (typeIs_str s b u) PySem.F.sub_str_dict) (zfO PySem.F.slot_str_eq_refl ho hc hda)
  (fun _ hq=>wpAny_of_eq (rfl:isSame (.ref d) (.str b u)=pure false) hq) (.inr hu) h
def RcW.txt_rec {d:Addr}{kv:List (K×Value)}(hd:s.heap.DictOf knd d kv) (b:Str) (u:Tok) (hu:A.units<cLine):RcW P W A s (.str b u) (.ref d) false:=fun E Q h=>by
 obtain ⟨o,es,ep,ho,hx,hda,_⟩:=id hd
 have ty:=hd.typeIs
 obtain ⟨o',ho',hc⟩:=id ty
 rw [ho] at ho'
 cases ho'
 exact SeqAt.rc_eq_decline_or (k:=false) (typeIs_str s b u) ty (by decide) PySem.F.sub_dict_str PySem.F.slot_str_eq PySem.F.slot_dict_eq_refl (zfO PySem.F.slot_str_eq ho hc hda) (zaK PySem.F.slot_dict_eq_refl hd (typeIs_str s b u) PySem.F.sub_str_dict)
  (fun _ hq=>wpAny_of_eq (rfl:isSame (.str b u) (.ref d)=pure false) hq) (.inr hu) h
def zaL {d t:Addr}{kv:List (K×Value)}{its:Array Value}(hd:s.heap.DictOf knd d kv) (ht:s.heap.IsTuple t its):d≠t:=fun e=>by
 subst e
 obtain ⟨o,ho,hc⟩:=hd.typeIs
 obtain ⟨o2,ho2,hc2,_⟩:=ht
 rw [ho] at ho2
 cases ho2
 rw [hc] at hc2
 exact absurd hc2 (by simp)
def RcW.rec_row {d t:Addr}{kv:List (K×Value)}{its:Array Value}(hd:s.heap.DictOf knd d kv) (ht:s.heap.IsTuple t its) (hu:A.units<cLine):RcW P W A s (.ref d) (.ref t) false:=fun E Q h=>by
 have ne:=zaL hd ht
 obtain ⟨o,es,ep,ho,hx,hda,_⟩:=id hd
 have ty:=hd.typeIs
 obtain ⟨o',ho',hc⟩:=id ty
 rw [ho] at ho'
 cases ho'
 obtain ⟨ot,ht1,ht2,n,ht3⟩:=id ht
 exact SeqAt.rc_eq_decline_or (k:=false) ty ⟨_,ht1,ht2⟩ (by decide) PySem.F.sub_tuple_dict PySem.F.slot_dict_eq PySem.F.slot_tuple_eq_refl (zaK PySem.F.slot_dict_eq hd ⟨_,ht1,ht2⟩ PySem.F.sub_tuple_dict) (zfP PySem.F.slot_tuple_eq_refl ht1 ht2 ht3 ho hc hda)
  (fun _ hq=>wpAny_isSame_ref_other ne ho ht1 (by rw [hc];simp) hq) (.inr hu) h
def RcW.row_rec {d t:Addr}{kv:List (K×Value)}{its:Array Value}(hd:s.heap.DictOf knd d kv) (ht:s.heap.IsTuple t its) (hu:A.units<cLine):RcW P W A s (.ref t) (.ref d) false:=fun E Q h=>by
 have ne:=zaL hd ht
 obtain ⟨o,es,ep,ho,hx,hda,_⟩:=id hd
 have ty:=hd.typeIs
 obtain ⟨o',ho',hc⟩:=id ty
 rw [ho] at ho'
 cases ho'
 obtain ⟨ot,ht1,ht2,n,ht3⟩:=id ht
 exact SeqAt.rc_eq_decline_or (k:=false) ⟨_,ht1,ht2⟩ ty (by decide) PySem.F.sub_dict_tuple PySem.F.slot_tuple_eq PySem.F.slot_dict_eq_refl (zfP PySem.F.slot_tuple_eq ht1 ht2 ht3 ho hc hda) (zaK PySem.F.slot_dict_eq_refl hd ⟨_,ht1,ht2⟩ PySem.F.sub_tuple_dict)
  (fun _ hq=>SeqAt.wpAny_isSame_ref_other' ne.symm ht1 ho (by rw [hc];simp) hq) (.inr hu) h
inductive HitsW (P:Program) (W:World) (A:Around) (s:Shared) (kb:List (K×Value)):List (K×Value)->Bool->Prop
 | nil:HitsW P W A s kb [] true
 | miss {k:K} {v:Value} {r:List (K×Value)} (h:valueAt kb k=none):HitsW P W A s kb ((k,v)::r) false
 | hit {k:K} {v y:Value} {r:List (K×Value)} {e b:Bool} (h:valueAt kb k=some y) (he:EqW P W A s v y e) (hr:HitsW P W A s kb r b):HitsW P W A s kb ((k,v)::r) (e&&b)
def HitsW.inv {kb r:List (K×Value)}{k:K}{v:Value}{b:Bool}(h:HitsW P W A s kb ((k,v)::r) b):(valueAt kb k=none/\b=false)\/∃y e c,valueAt kb k=some y/\EqW P W A s v y e/\HitsW P W A s kb r c/\b=(e&&c):=by
 cases h with
 | miss h=>exact .inl ⟨h,rfl⟩
 | hit h he hr=>exact .inr ⟨_,_,_,h,he,hr,rfl⟩
def pairsW {nm:String}{a b:Addr}{ka kb:List (K×Value)}{r:Bool}{Q:Bool->Shared->Prop}(la:(a==sysModules)=false) (lb:(b==sysModules)=false) (da:s.heap.DictOf knd a ka) (db:s.heap.DictOf knd b kb)
  (hits:ka.length=kb.length->HitsW P W A s kb ka r) (h:Q (ka.length==kb.length&&r) s):wpAny (model P W) A (Builtin.Dict.samePairs nm a b) Q E s:=by
 obtain ⟨oa,ea,na,ga,_,qa,ha,pa,_⟩:=da
 obtain ⟨ob,eb,nb,gb,_,qb,hb,pb,_⟩:=db
 have za:ka.length=ea.size:=by rw [<-pa.length];exact Array.length_toList
 have zb:kb.length=eb.size:=by rw [<-pb.length];exact Array.length_toList
 have look:∀k,findBy knd.is eb k=valueAt kb k:=fun k=>by
  rw [<-pb.find k]
  clear zb pb hb qb gb
  obtain ⟨l⟩:=eb
  simp [findBy]
 rw [za,zb] at h
 unfold Builtin.Dict.samePairs Builtin.Dict.showsAll
 rw [zN (by rw [la];decide),zN (by rw [lb];decide)]
 refine zt (zM (zt (zM (zt (wpAny_dictEntries ga qa ?_)))))
 dsimp only
 refine zt (wpAny_dictEntries gb qb ?_)
 by_cases hz:ea.size=eb.size
 ·have h':Q r s:=by simpa [hz] using h
  have hh:=hits (by rw [za,zb];exact hz)
  rw [zN (by rw [hz];simp)]
  refine zt (wpAny_dictEpoch ga qa (zt ?_))
  rw [Std.Legacy.Range.forIn_eq_forIn_range']
  simp only [Std.Legacy.Range.size,Nat.sub_zero,Nat.add_sub_cancel,Nat.div_one]
  refine wpAny_forIn_list _ (fun rest q s'=>s'=s/\q=(none,())/\∃i,rest=List.range' i (ea.size-i)/\i<=ea.size/\HitsW P W A s kb (ka.drop i) r) _ ?_ ?_ _ _ ⟨rfl,rfl,0,by simp,ju _,hh⟩
  ·rintro x rest q s' ⟨rfl,rfl,i,hr,hi,hp⟩
   have lt:i<ea.size:=by
    rcases Nat.lt_or_ge i ea.size with c|c
    ·exact c
    ·rw [Nat.sub_eq_zero_of_le c] at hr;simp at hr
   have e0:ea.size-i=(ea.size-(i+1))+1:=by omega
   rw [e0,List.range'_succ] at hr
   injection hr with hx hrest
   subst hx
   refine zt (wpAny_dictEntries ga qa ?_)
   rw [Array.getElem?_eq_getElem lt]
   have lt':x<ka.length:=by rw [za];exact lt
   obtain ⟨k,v,hkv⟩:∃k v,ka[x]=(k,v):=⟨_,_,rfl⟩
   have hdrop:ka.drop x=(k,v)::ka.drop (x+1):=by rw [<-hkv];exact jJ lt'
   obtain ⟨hkey,hval⟩:=pa.get? (i:=x) (e:=ea[x]) (k:=k) (v:=v) (by rw [Array.getElem?_toList];exact Array.getElem?_eq_getElem lt) (by rw [yn lt',hkv])
   obtain ⟨k',hk',hs⟩:=ha ea[x] (Array.getElem_mem lt)
   rw [knd.inj _ _ _ hk' hkey] at hs
   rw [hdrop] at hp
   show wpAny _ _ (holding [ea[x].key,ea[x].val] _ >>= _) _ _ _
   rw [hs]
   refine zt (jp (zt (wpAny_dictFind_of hkey gb qb hb ?_)))
   cases hj:eb.findIdx? fun e=>knd.is k e.key with
   | none =>
    have hn:valueAt kb k=none:=by rw [<-look k,findBy_of_findIdx?,hj]
    rcases hp.inv with ⟨_,er⟩|⟨y,_,_,hy,_⟩
    ·rw [er] at h'
     refine zM ?_
     show wpAny _ _ (if (!false)=true then _ else _) _ _ _
     rw [zE (by decide)]
     exact zM (zM h')
    ·rw [hn] at hy;exact nomatch hy
   | some j =>
    obtain ⟨jl,_,_⟩:=Array.findIdx?_eq_some_iff_getElem.mp hj
    have hv':valueAt kb k=some eb[j].val:=by
     rw [<-look k,findBy_of_findIdx?,hj]
     simp [Array.getElem?_eq_getElem jl]
    refine zt (wpAny_dictEntries gb qb ?_)
    rw [Array.getElem?_eq_getElem jl]
    rcases hp.inv with ⟨hn,_⟩|⟨y,e,c,hy,he,hrr,er⟩
    ·rw [hv'] at hn;exact nomatch hn
    ·have ey:eb[j].val=y:=Option.some.inj (hv'.symm.trans hy)
     rw [<-ey,<-hval] at he
     refine jp (he _ _ ?_)
     cases e with
     | false =>
      rw [er,Bool.false_and] at h'
      show wpAny _ _ (if (!false)=true then _ else _) _ _ _
      rw [zE (by decide)]
      exact zM (zM h')
     | true =>
      rw [Bool.true_and] at er
      rw [<-er] at hrr
      show wpAny _ _ (if (!true)=true then _ else _) _ _ _
      rw [zN (by decide)]
      refine zt (wpAny_dictEpoch ga qa ?_)
      rw [zN (by simp)]
      exact zM ⟨rfl,rfl,x+1,hrest,lt,hrr⟩
  ·rintro q s' ⟨rfl,rfl,i,hr,hi,hp⟩
   have hin:i=ea.size:=by
    rcases Nat.lt_or_ge i ea.size with c|c
    ·have e:ea.size-i=(ea.size-(i+1))+1:=by omega
     rw [e,List.range'_succ] at hr;exact nomatch hr
    ·omega
   refine zM ?_
   rw [hin,<-za,List.drop_length] at hp
   cases hp
   exact h'
 ·rw [zE (by simpa using hz)]
  have hf:(ea.size==eb.size)=false:=by simpa using hz
  rw [hf,Bool.false_and] at h
  exact zt (wpAny_rule (zM h))
def RcW.recs {a b:Addr}{ka kb:List (K×Value)}{r:Bool}(la:(a==sysModules)=false) (lb:(b==sysModules)=false) (da:s.heap.DictOf knd a ka) (db:s.heap.DictOf knd b kb) (hu:A.units<cLine)
  (hits:ka.length=kb.length->HitsW P W A.in1 s kb ka r):RcW P W A s (.ref a) (.ref b) (ka.length==kb.length&&r):=fun E Q h=>by
 refine wpAny_richCompare_same_room (op:=.Eq) da.typeIs db.typeIs PySem.F.slot_dict_eq (wF PySem.F.slot_dict_eq da.typeIs PySem.F.entry_dict_eq ?_ (PySem.F.args_dict_eq_2 _ _)) hu
 show wpAny _ _ (Builtin.Dict.dictSlotArgs "__eq__" ⟨[.ref a,.ref b],[]⟩ >>= _) _ _ s
 refine zt ?_
 unfold Builtin.Dict.dictSlotArgs
 refine zt (wpAny_notOrdered_dict da.typeIs ?_)
 show wpAny _ _ (pure (Value.ref a,Value.ref b)) _ _ s
 refine zM (zt (wpAny_isInstance (T := "dict") db.typeIs PySem.F.sub_dict_dict ?_))
 simp only [Bool.not_true,Bool.false_eq_true,if_false]
 refine zt (zM (zt (zM (zt (pairsW la lb da db hits ?_)))))
 refine zM ⟨_,rfl,(fun x=>nomatch x),?_⟩
 simpa using h
end
section
variable {P:Program}{W:World}
end
def isDic:Option SO->Bool
 | some (.dic _ _)=>true
 | _=>false
def kindN (st:Sto):PV->Option Nat
 | .int _=>some 0
 | .str _=>some 1
 | .tup _=>some 2
 | .ref a=>if isDic st[a]?=true then some 3 else none
 | _=>none
def eqDD (f:PV->PV->Option Bool):Option SO->Option SO->Option Bool
 | some (.dic ks xs),some (.dic ks' xs')=>if ks.Nodup/\ks.length=xs.length then if ks.length=ks'.length then hitsE f ks' xs' ks xs else some false else none
 | _,_=>none
def eqN:Option Nat->Option Nat->Option Bool
 | some i,some j=>if i=j then none else some false
 | _,_=>none
def eqT (st:Sto):Nat->PV->PV->Option Bool
 | 0,_,_=>none
 | n+1,x,y=>match x,y with
  | .int a,.int b=>some (a==b)
  | .str a,.str b=>some (a==b)
  | .tup xs,.tup ys=>allE (eqT st n) xs ys
  | .ref a,.ref b=>eqDD (eqT st n) st[a]? st[b]?
  | x,y=>eqN (kindN st x) (kindN st y)
section
variable {X:Cx}{Er:XK}{K:Frag}{mg:Str->Option Value}{ρ:List Addr}{pins:List (Addr×Obj)}{U:L2.St}{H:Hp}{s:Shared}{st:Sto}
inductive Kn (K:Frag) (mg:Str->Option Value) (ρ:List Addr) (H:Hp) (st:Sto):PV->V->Nat->Prop
 | num (i:Int):Kn K mg ρ H st (.int i) (.int i) 0
 | txt (z:Str):Kn K mg ρ H st (.str z) (.str z) 1
 | row {xs:List PV} {a:Addr} {vs:List V} (h:SqT K H a vs) (r:Rs K mg ρ H xs vs):Kn K mg ρ H st (.tup xs) (.ref a) 2
 | rec_ {n:Nat} {a:Addr} {ks:List Str} {xs:List PV} {vs:List V} (e:st[n]?=some (.dic ks xs)) (ha:ρ[n]?=some a) (h:H a=some (.dK (kz ks vs))) (r:Rs K mg ρ H xs vs) (l:ks.length=vs.length):Kn K mg ρ H st (.ref n) (.ref a) 3
def Kn.of (S:StR K mg ρ H st) {x:PV}{v:V}{i:Nat}(r:R K mg ρ H x v) (h:kindN st x=some i):Kn K mg ρ H st x v i:=by
 cases x with
 | int j=>cases h;cases r;exact .num j
 | str z=>cases h;cases r;exact .txt z
 | tup xs=>cases h;obtain ⟨a,vs,rfl,h1,h2⟩:=r;exact .row h1 h2
 | ref n =>
  simp only [kindN] at h
  split at h
  ·rename_i hd
   cases h
   cases e:st[n]? with
   | none=>rw [e] at hd;cases hd
   | some so =>
    cases so with
    | dic ks xs =>
     obtain ⟨a,vs,rfl,ha,k1,k2,k3⟩:=R.refD S r e
     exact .rec_ e ha k1 k2 k3
    | lst _=>rw [e] at hd;cases hd
    | ins _ _ _=>rw [e] at hd;cases hd
    | fdi _ _=>rw [e] at hd;cases hd
  ·cases h
 | _=>cases h
def zmZ (I:Inv X pins U H s) {x y:PV}{v:V}{i j:Nat}(hx:Kn X.K mg ρ H st x v i) (hy:Kn X.K mg ρ H st y v j):i=j:=by
 cases hx with
 | num=>cases hy;rfl
 | txt=>cases hy;rfl
 | row h1 r1 =>
  cases hy with
  | row=>rfl
  | rec_ e ha h2 =>
   obtain ⟨_,_,kv,_,d⟩:=jq I.hok (.inl h2)
   obtain ⟨its,_,p,_⟩:=I.tuple h1
   exact absurd rfl (zaL d p)
 | rec_ e ha h2 =>
  cases hy with
  | rec_=>rfl
  | row h1 r1 =>
   obtain ⟨_,_,kv,_,d⟩:=jq I.hok (.inl h2)
   obtain ⟨its,_,p,_⟩:=I.tuple h1
   exact absurd rfl (zaL d p)
def zm0 (I:Inv X pins U H s) {x y:PV}{v w:V}{u u':Value}{i j:Nat}{A:Around}(hx:Kn X.K mg ρ H st x v i) (hy:Kn X.K mg ρ H st y w j) (rv:RelV v u) (rw:RelV w u') (hij:i≠j) (hu:A.units<cLine):EqW X.prog X.w A s u u' false/\RcW X.prog X.w A s u u' false:=by
 cases hx with
 | num a =>
  obtain ⟨t,rfl⟩:=rv
  cases hy with
  | num=>exact absurd rfl hij
  | txt b=>obtain ⟨t',rfl⟩:=rw;exact ⟨fun E Q q=>SeqAt.EqAt.int_str a t b t' _ _ E Q q,fun E Q q=>SeqAt.RcAt.int_str a t b t' _ _ E Q q⟩
  | row h1 r1 =>
   cases rw
   obtain ⟨its,_,p,_⟩:=I.tuple h1
   exact ⟨fun E Q q=>SeqAt.EqAt.int_tuple a t p hu _ _ E Q q,fun E Q q=>SeqAt.RcAt.int_tuple a t p hu _ _ E Q q⟩
  | rec_ e ha h2 =>
   cases rw
   obtain ⟨_,_,kv,_,d⟩:=jq I.hok (.inl h2)
   exact ⟨.of_num (.num_rec d a t hu),.num_rec d a t hu⟩
 | txt a =>
  obtain ⟨t,rfl⟩:=rv
  cases hy with
  | txt=>exact absurd rfl hij
  | num b=>obtain ⟨t',rfl⟩:=rw;exact ⟨fun E Q q=>SeqAt.EqAt.str_int a t b t' _ _ E Q q,fun E Q q=>SeqAt.RcAt.str_int a t b t' _ _ E Q q⟩
  | row h1 r1 =>
   cases rw
   obtain ⟨its,_,p,_⟩:=I.tuple h1
   exact ⟨fun E Q q=>SeqAt.EqAt.str_tuple a t p hu _ _ E Q q,fun E Q q=>SeqAt.RcAt.str_tuple a t p hu _ _ E Q q⟩
  | rec_ e ha h2 =>
   cases rw
   obtain ⟨_,_,kv,_,d⟩:=jq I.hok (.inl h2)
   exact ⟨.of_txt (.txt_rec d a t hu),.txt_rec d a t hu⟩
 | row h0 r0 =>
  cases rv
  obtain ⟨its,_,p,_⟩:=I.tuple h0
  cases hy with
  | row=>exact absurd rfl hij
  | num b=>obtain ⟨t',rfl⟩:=rw;exact ⟨fun E Q q=>SeqAt.EqAt.tuple_int b t' p hu _ _ E Q q,fun E Q q=>SeqAt.RcAt.tuple_int b t' p hu _ _ E Q q⟩
  | txt b=>obtain ⟨t',rfl⟩:=rw;exact ⟨fun E Q q=>SeqAt.EqAt.tuple_str b t' p hu _ _ E Q q,fun E Q q=>SeqAt.RcAt.tuple_str b t' p hu _ _ E Q q⟩
  | rec_ e ha h2 =>
   cases rw
   obtain ⟨_,_,kv,_,d⟩:=jq I.hok (.inl h2)
   have ne:=zaL d p
   exact ⟨.of_ref (fun z=>ne (by injection z with z;exact z.symm)) (.row_rec d p hu),.row_rec d p hu⟩
 | rec_ e0 ha0 h0 =>
  cases rv
  obtain ⟨_,_,kv,_,d⟩:=jq I.hok (.inl h0)
  cases hy with
  | rec_=>exact absurd rfl hij
  | num b=>obtain ⟨t',rfl⟩:=rw;exact ⟨.of_ref nofun (.rec_num d b t' hu),.rec_num d b t' hu⟩
  | txt b=>obtain ⟨t',rfl⟩:=rw;exact ⟨.of_ref nofun (.rec_txt d b t' hu),.rec_txt d b t' hu⟩
  | row h1 r1 =>
   cases rw
   obtain ⟨its,_,p,_⟩:=I.tuple h1
   have ne:=zaL d p
   exact ⟨.of_ref (fun z=>ne (by injection z)) (.rec_row d p hu),.rec_row d p hu⟩
def zm1 {a b:Option Nat}{k:Bool}(h:eqN a b=some k):∃i j,a=some i/\b=some j/\i≠j/\k=false:=by
 unfold eqN at h
 split at h
 ·split at h
  ·cases h
  ·rename_i i j c;cases h;exact ⟨i,j,rfl,rfl,c,rfl⟩
 ·cases h
inductive EqC (st:Sto) (f:PV->PV->Option Bool):PV->PV->Bool->Prop
 | num (a b:Int):EqC st f (.int a) (.int b) (a==b)
 | txt (a b:Str):EqC st f (.str a) (.str b) (a==b)
 | row {xs ys:List PV} {k:Bool} (h:allE f xs ys=some k):EqC st f (.tup xs) (.tup ys) k
 | rec_ {a b:Nat} {k:Bool} (h:eqDD f st[a]? st[b]?=some k):EqC st f (.ref a) (.ref b) k
 | apart {x y:PV} {i j:Nat} (hx:kindN st x=some i) (hy:kindN st y=some j) (h:i≠j):EqC st f x y false
def zfQ {n:Nat}{x y:PV}{k:Bool}(h:eqT st (n+1) x y=some k):EqC st (eqT st n) x y k:=by
 unfold eqT at h
 split at h
 ·cases h;exact .num _ _
 ·cases h;exact .txt _ _
 ·exact .row h
 ·exact .rec_ h
 ·obtain ⟨i,j,h1,h2,h3,rfl⟩:=zm1 h
  exact .apart h1 h2 h3
def zfR {f:PV->PV->Option Bool}{a b:Option SO}{k:Bool}(h:eqDD f a b=some k):∃ks xs ks' xs',a=some (.dic ks xs)/\b=some (.dic ks' xs')/\ks.Nodup/\ks.length=xs.length/\((ks.length=ks'.length/\hitsE f ks' xs' ks xs=some k)\/(ks.length≠ks'.length/\k=false)):=by
 unfold eqDD at h
 split at h
 ·rename_i ks xs ks' xs'
  split at h
  ·rename_i c
   split at h
   ·rename_i c';exact ⟨_,_,_,_,rfl,rfl,c.1,c.2,.inl ⟨c',h⟩⟩
   ·rename_i c';cases h;exact ⟨_,_,_,_,rfl,rfl,c.1,c.2,.inr ⟨c',rfl⟩⟩
  ·cases h
 ·cases h
def zfS (I:Inv X pins U H s) (S:StR X.K mg ρ H st):∀(n:Nat) (x y:PV) (v:V) (b:Bool),eqT st n x y=some b->R X.K mg ρ H x v->R X.K mg ρ H y v->b=true:=by
 intro n
 induction n with
 | zero=>intro x y v b h;cases h
 | succ n ih =>
  intro x y v b h rx ry
  cases zfQ h with
  | num a c=>cases rx;cases ry;simp
  | txt a c=>cases rx;cases ry;simp
  | row h0 =>
   obtain ⟨a,vs,rfl,h1,h2⟩:=rx
   obtain ⟨a',ws,e,h3,h4⟩:=ry
   cases e
   have:=I.tuple_inj h1 h3
   subst this
   exact zfH (fun x y v b=>ih x y v b) h0 h2 h4
  | @rec_ i j _ h0 =>
   obtain ⟨a,rfl,h1⟩:=rx
   obtain ⟨a',e,h2⟩:=ry
   cases e
   obtain rfl:=zmU S.nd h1 h2
   obtain ⟨ks,xs,ks',xs',e1,e2,nd,hl,hc⟩:=zfR h0
   rw [e1] at e2
   cases e2
   obtain ⟨vs,_,k2,_⟩:=S.addr e1 h1
   rcases hc with ⟨_,hc⟩|⟨hc,_⟩
   ·exact zfI (fun x v b e r=>ih x x v b e r r) (zfJ nd) hc k2
   ·exact absurd rfl hc
  | apart hx hy hij=>exact absurd (zmZ I (Kn.of S rx hx) (Kn.of S ry hy)) hij
def zfT {A:Around}{f:PV->PV->Option Bool}(hf:∀x y v w u u' b,f x y=some b->R K mg ρ H x v->R K mg ρ H y w->RelV v u->RelV w u'->EqW X.prog X.w A s u u' b) {ks':List Str}{xs':List PV}{ws:List V}{kb:List (Key×Value)}(r':Rs K mg ρ H xs' ws) (kv':KV (kz ks' ws) kb) :
  ∀{ks:List Str} {xs:List PV} {vs:List V} {ka:List (Key×Value)} {b:Bool},ks.length=vs.length->Rs K mg ρ H xs vs->KV (kz ks vs) ka->hitsE f ks' xs' ks xs=some b->HitsW X.prog X.w A s kb ka b
 | [],xs,[],ka,b,_,_,kv,h=>by
  have:b=true:=by cases xs<;>(cases h;rfl)
  subst this
  cases kv
  exact .nil
 | [],xs,_::_,ka,b,hl,_,_,_=>by simp at hl
 | k::ks,xs,[],ka,b,hl,_,_,_=>by simp at hl
 | k::ks,xs,v::vs,ka,b,hl,r,kv,h=>by
  obtain ⟨u,ka',rfl,ru,kv2⟩:=zmW kv
  cases xs with
  | nil=>cases r
  | cons x xs =>
   obtain ⟨v',rs',e,r1,r2⟩:=r
   cases e
   simp only [hitsE] at h
   have hv:=kv'.val (Sum.inr k)
   rw [zc7] at hv
   cases hl2:(ks'.zip xs').lookup k with
   | none =>
    rw [hl2] at h
    cases h
    rw [zfK r' hl2] at hv
    cases hu:valueAt kb (Sum.inr k) with
    | none=>exact .miss hu
    | some _=>rw [hu] at hv;exact (show False from hv).elim
   | some y =>
    rw [hl2] at h
    simp only at h
    cases h1:f x y with
    | none=>rw [h1] at h;cases h
    | some a =>
     cases h2:hitsE f ks' xs' ks xs with
     | none=>rw [h1,h2] at h;cases h
     | some c =>
      rw [h1,h2] at h
      cases h
      obtain ⟨w,hw,rw'⟩:=zaE r' hl2
      rw [hw] at hv
      cases hu:valueAt kb (Sum.inr k) with
      | none=>rw [hu] at hv;exact (show False from hv).elim
      | some u' =>
       rw [hu] at hv
       exact .hit hu (hf x y v w u u' a h1 r1 rw' ru hv) (zfT hf r' kv' (by simpa using hl) r2 kv2 h2)
def zm2 (I:Inv X pins U H s) (S:StR X.K mg ρ H st):∀(n:Nat) (x y:PV) (v w:V) (u u':Value) (b:Bool) (A:Around),eqT st n x y=some b->R X.K mg ρ H x v->R X.K mg ρ H y w->RelV v u->RelV w u'->A.units+n<cLine ->
  EqW X.prog X.w A s u u' b/\RcW X.prog X.w A s u u' b:=by
 intro n
 induction n with
 | zero=>intro x y v w u u' b A h;cases h
 | succ n ih =>
  intro x y v w u u' b A h rx ry rv rw hu
  cases zfQ h with
  | num a c=>cases rx;cases ry;obtain ⟨t,rfl⟩:=rv;obtain ⟨t',rfl⟩:=rw;exact ⟨fun E Q q=>SeqAt.EqAt.int_int a t c t' _ _ E Q q,fun E Q q=>SeqAt.RcAt.int_int a t c t' _ _ E Q q⟩
  | txt a c=>cases rx;cases ry;obtain ⟨t,rfl⟩:=rv;obtain ⟨t',rfl⟩:=rw;exact ⟨fun E Q q=>SeqAt.EqAt.str_str a t c t' _ _ E Q q,fun E Q q=>SeqAt.RcAt.str_str a t c t' _ _ E Q q⟩
  | row h0 =>
   obtain ⟨a,vs,rfl,h1,h2⟩:=id rx
   obtain ⟨a',ws,rfl,h3,h4⟩:=id ry
   cases rv
   cases rw
   obtain ⟨its,r1,p1,_⟩:=I.tuple h1
   obtain ⟨its2,r2,p2,_⟩:=I.tuple h3
   obtain ⟨e,he,hb⟩:=zfG h0
   have it:=zmX (G:=EqW X.prog X.w A.in1 s) (fun x y v w u u' b e r1 r2 r3 r4=>(ih x y v w u u' b A.in1 e r1 r2 r3 r4 (by rw [zbY];omega)).1) h2 h4 r1 r2 he
   have eb:((List.range (min its.toArray.size its2.toArray.size)).all e&&its.toArray.size==its2.toArray.size)=b:=by
    rw [h2.len,h4.len,r1.length,r2.length] at hb
    simpa using hb
   have rc:RcW X.prog X.w A s (.ref a) (.ref a') b:=by
    rw [<-eb]
    exact RcW.tuples (show s.heap.IsTuple a its.toArray from p1) (show s.heap.IsTuple a' its2.toArray from p2) (by omega) it
   refine ⟨?_,rc⟩
   by_cases hab:a=a'
   ·subst hab
    rw [zfS I S (n+1) _ _ _ _ h rx ry]
    exact fun E Q q=>SeqAt.EqAt.same _ _ _ E Q q
   ·exact .of_refs hab rc
  | @rec_ i j _ h0 =>
   obtain ⟨a,rfl,h1⟩:=id rx
   obtain ⟨a',rfl,h2⟩:=id ry
   cases rv
   cases rw
   obtain ⟨ks,xs,ks',xs',e1,e2,nd,hl,hc⟩:=zfR h0
   obtain ⟨vs,k1,k2,k3⟩:=S.addr e1 h1
   obtain ⟨ws,k4,k5,k6⟩:=S.addr e2 h2
   obtain ⟨_,s1,ka,kva,da⟩:=jq I.hok (.inl k1)
   obtain ⟨_,s2,kb,kvb,db⟩:=jq I.hok (.inl k4)
   have la:ka.length=ks.length:=by rw [<-kva.length];simp [kz,k3]
   have lb:kb.length=ks'.length:=by rw [<-kvb.length];simp [kz,k6]
   have both:RcW X.prog X.w A s (.ref a) (.ref a') b:=by
    rcases hc with ⟨hkk,hc⟩|⟨hkk,rfl⟩
    ·have hits:ka.length=kb.length->HitsW X.prog X.w A.in1 s kb ka b:=fun _=>zfT (fun x y v w u u' b e r1 r2 r3 r4=>(ih x y v w u u' b A.in1 e r1 r2 r3 r4 (by rw [zbY];omega)).1) k5 kvb k3 k2 kva hc
     have hbb:(ka.length==kb.length&&b)=b:=by rw [la,lb,hkk];simp
     rw [<-hbb]
     exact RcW.recs s1 s2 da db (by omega) hits
    ·have hbb:(ka.length==kb.length&&true)=false:=by rw [la,lb];simpa using hkk
     rw [<-hbb]
     exact RcW.recs s1 s2 da db (by omega) fun z=>absurd (by rw [<-la,<-lb];exact z) hkk
   refine ⟨?_,both⟩
   by_cases hab:a=a'
   ·subst hab
    rw [zfS I S (n+1) _ _ _ _ h rx ry]
    exact fun E Q q=>SeqAt.EqAt.same _ _ _ E Q q
   ·exact .of_refs hab both
  | apart hx hy hij=>exact zm0 I (Kn.of S rx hx) (Kn.of S ry hy) rv rw hij (by omega)
def jQ:PV->PV->Mo PV:=fun x y st=>match eqT st 150 x y with
 | some b=>.ok (.bl b) st
 | none=>.stuck
def zm3 (K:Frag) (mg:Str->Option Value):R2:=fun v w H Q=>∃ρ st x y b,StR K mg ρ H st/\eqT st 150 x y=some b/\R K mg ρ H x v/\R K mg ρ H y w/\Q (.bl b) H
def zm4 (hu:X.A.units+200<cLine):OpR X (compareOp .Eq) (zm3 X.K X.mg):=by
 intro pins s U H x y v u Q I rx ry h
 obtain ⟨ρ,st,a,b,k,S,e,ra,rb,q⟩:=h
 exact (zm2 I S 150 a b x y v u k X.A e ra rb rx ry (by omega)).2 _ _ ⟨.bl k,H,I,rfl,q⟩
def zfU (hu:X.A.units+200<cLine):CmpOk X .Eq jQ:=⟨_,zm4 hu,fun ρ H st x y v w Q E s rx ry h=>by
 unfold jQ at h
 cases e:eqT st 150 x y with
 | none=>rw [e] at h;exact h.elim
 | some b=>rw [e] at h;exact ⟨ρ,st,x,y,b,s,e,rx,ry,h.now s _ rfl⟩⟩
end
section
variable {X:Cx}{Er:XK}{K:Frag}{mg:Str->Option Value}{ρ:List Addr}{pins:List (Addr×Obj)}{U:L2.St}{H:Hp}{s:Shared}{st:Sto}{o:Expr}{fo:ze->Mo PV}{apos cpos p0 pos0:Pos}
open Classical in
noncomputable def eInT (K:Frag) (mg:Str->Option Value) (ρ:List Addr) (H:Hp) (st:Sto) (ys:List PV) (x:PV) (u:Value):Bool:=decide (∃y v,y∈ys/\R K mg ρ H y v/\RelV v u/\eqT st 150 y x=some true)
open Classical in
end
end Mi
namespace L2
open PySem PySem.Spec PyProof.Rows
def zm5 (iy:Nat) (wi:TI) (te:TE):TS:=fun D U H=>wi U H fun J H1=>CompW J te U (fun v H2=>D.nx (U.set iy (some v)) H2) H1
def zm6 {X:Cx} {elt iter:Expr} {x y:Str} {px pos pos' spos:Pos} {scope:Scope} {wi:TI} {te:TE} {M:List Str} {iy:Nat} (hc:X.calm=true) (S:CompSc X.env.scope scope x) (eN:Hid scope M X.N) (hN0:((".0" : Str)::x::M).Nodup)
  (hi:PI X (.Name x px) iter wi) (he:∀cl C aa ag fp,PE (cxH X M scope cl x C aa ag fp (fun _ _=>False)) elt te) (hNX:X.N.Nodup) (hiy:X.N[iy]?=some y) (hy:Loc X.env.scope y) (hfy:X.fn y=true\/X.env.scope.names.lookup y=some .local)
  (hsw:swapsWith (.ListComp elt [⟨.Name x px,iter,[],0⟩] scope pos) (some (.Name y pos')) spos.line X.env=pure true) (hs:∀v,foldedSetIterable iter X.env v=pure v:=by intro _;rfl):PS X (.Assign [.Name y pos'] (.ListComp elt [⟨.Name x px,iter,[],0⟩] scope pos) spos) (zm5 iy wi te):=by
 intro pins s U H Dn I h
 have hN:(x::M).Nodup:=(jc.mp hN0).2
 have h0N:(".0" : Str)∉M:=fun z=>(jc.mp hN0).1 (jh _ z)
 obtain ⟨cl,hclos,hcl1,hcl2⟩:=zcJ X.env scope fun p hp hf=>I.ok.has p.1 (.inl (S.free p hp hf))
 have hkd:X.env.scope.kind=.function:=I.ok.kind
 rw [exec_Assign_Name_used _ _ _ _ hsw]
 refine zt (wpAny_standAt ?_)
 rw [arm_evalThenUse_ListComp]
 refine zt (zt (wpAny_comprehension_free (Q:=fun _ s'=>wpAny (model X.prog X.w) X.A (pure ():Sem Unit) (fun _ s'=>wpAny (model X.prog X.w) X.A (pure .next:Sem Flow) (SP X pins Dn) X.xe s') X.xe s') (use:=some (assign (.Name y pos') X.env)) rfl hs hclos S.kind (fun y hy hl=>(S.names y hy hl).1) ?_))
 refine thn (hi pins s U H _ I h) fun v s1 h1=>thn h1 fun itv aa h2=>?_
 obtain ⟨it,fp,tn,J,H2,e,I2,T,st2,f2,W,⟨m0,w0⟩,turn⟩:=h2
 subst e
 refine wG (wpAny_newFunctionEnv S.ncell (by intro y hy;simp at hy) (fun ar ay av=>?_) S.kind)
 dsimp only at ay av ⊢
 generalize hH2:aa.heap.push { cls:=.type "list", dict:=none,data:=.seq ([]:List Value).toArray }=G2 at ay av ⊢
 have hC:G2.objs.size=aa.heap.objs.size+1:=by rw [<-hH2,Heap.size_push]
 have hDC:aa.heap.objs.size≠G2.objs.size:=by rw [hC];exact yz (jL _)
 have hCle:aa.heap.objs.size<=G2.objs.size:=by rw [hC];exact Nat.le_succ _
 have old:∀b o,aa.heap.get? b=some o->ar.get? b=some o:=fun b o e=>by
  have hb:b≠G2.objs.size:=by rw [hC];exact yz (Nat.lt_succ_of_lt (ym e))
  exact av.extBut b o hb (yo _ (hH2▸yo _ e))
 have hacc:ar.get? aa.heap.objs.size=some { cls:=.type "list", data:=.seq (#[]:Array Value) 0 }:=av.extBut _ _ hDC (yo _ (hH2▸y8 _ rfl))
 generalize hD:aa.heap.objs.size=D at *
 generalize hCC:G2.objs.size=C at *
 have ltS:∀{b:Nat} {o:Obj},aa.heap.get? b=some o->b<D:=fun e=>by rw [<-hD];exact ym e
 have nofr:∀b,D<=b->b∉frs X.stack:=fun b hb z=>by
  rcases yD.mp (I2.stkSub b z) with q|q
  ·exact ar1 I2.lt hD hb q
  ·exact I2.nofs (by rw [hD];exact hb) q
 let E':Value->Shared->Prop:=notedBy (model X.prog X.w) X.A (compEnvC scope cl C X.env) fun e s'=>compPost (model X.prog X.w) X.A X.xe (some (assign (.Name y pos') X.env)) (fun _ s'=>wpAny (model X.prog X.w) X.A (pure ():Sem Unit) (fun _ s'=>wpAny (model X.prog X.w) X.A (pure .next:Sem Flow) (SP X pins Dn) X.xe s') X.xe s') (.ref D) C (.error e) s'
 let Y:Cx:=cxH X M scope cl x C aa H2 fp E'
 have fpX:∀b∈fp,FpOk X pins H2 b:=f2
 have okY:Y.Ok:=by
  refine ⟨I2.ok.mod,S.kind,I2.ok.glob,I2.ok.blt,(by show aa.heap.objs.size<=C;omega),fun y z c h1 h2=>?_,fun y hy=>?_,fun y c hf=>?_,I2.ok.hd,I2.ok.frames,.inl rfl,fun b hb=>?_,I2.bs,yT I2.ok.bsz I2.sz,fun b o hb hx=>?_,fun b hb hx=>?_,I2.stack,I2.stkFree⟩
  ·exact I2.ok.inj y z c (hcl1 y c h1) (hcl1 z c h2)
  ·exact hcl2 y (zcK S hkd hy)
  ·cases hf
  ·refine ⟨fun z=>?_,fun y c hy=>(fpX b hb).2.2.2.2.1 y c (hcl1 y c hy)⟩
   obtain ⟨o,ho,_⟩:=T.obj 0 _ st2 b hb
   exact j0 (ltS ho) hC z
  ·rcases (fpX b hx).2.2.2.1 with z|z
   ·exact I2.ok.noex b o hb z
   ·exact ar3 (ym hb) I2.ok.bsz z
  ·rcases yD.mp (I2.stkSub b hx) with q|q
   ·exact (fpX b hb).2.1 q
   ·exact (fpX b hb).2.2.1 q
 have hpinD:∀{s':Shared} {H':Hp} {o:Obj},s'.heap.get? D=some o->H' D=none->(∀v,o.data ≠ .cell v)->∀p∈[(D,o)],s'.heap.get? p.1=some p.2/\H' p.1=none/\p.1≠Y.env.locals/\p.1∉Y.fs/\∀v,p.2.data ≠ .cell v:=fun {s' H' o} e1 e2 e3 p hp=>by
  have ep:p=(D,o):=by simpa using hp
  subst ep
  exact ⟨e1,e2,hDC,nofr D (yg _),e3⟩
 have I0:Inv Y [(D,{ cls:=.type "list", data:=.seq (#[]:Array Value) 0 })] (none::U) H2 { aa with heap:=ar,toks:=aa.toks+([]:List (Str×Value)).length }:=by
  have fresh:∀b,D<=b->H2 b=none:=fun b hb=>I2.hok.fresh (by rw [hD];exact hb)
  refine ⟨okY,rfl,I2.bare,Un.kept old,⟨_,ay,fun i y v e1 e2 e3=>?_⟩,fun y c hy=>?_,fresh C (by omega),fun y c hy=>I2.freeC y c (hcl1 y c hy),fun p hp=>hpinD hacc (fresh D (yg _)) (fun v z=>by cases z) p hp,I2.hok.kept old,?_⟩
  ·cases i with
   | zero=>simp at e2
   | succ i =>
    have e0':M[i]?=some y:=by simpa [Y,cxH] using e1
    have e1':X.N[i]?=some y:=by
     rcases eN.get e0' with q|q
     ·exact q
     ·refine absurd ?_ q
      rcases e3 with e3|e3|e3<;>(obtain ⟨k0,hm,_⟩:=wv e3;exact zad.mpr ⟨_,hm,rfl⟩)
    have e2':U[i]?=some (some v):=by simpa using e2
    have hyx:¬(y=x\/y = ".0"):=fun z=>by
     have hm:=wc e0'
     rcases z with z|z
     ·rw [z] at hm
      exact (jc.mp hN).1 hm
     ·rw [z] at hm
      exact h0N hm
    have hfr:(y,NameKind.free)∈scope.names:=by
     rcases e3 with e3|e3|e3
     ·exact absurd (zev S e3) hyx
     ·exact zcK S hkd (.inl e3)
     ·exact zcK S hkd (.inr e3)
    have hkc:X.env.scope.names.lookup y=some .cell:=S.free _ hfr rfl
    obtain ⟨m,hn,hl⟩:=I2.loc
    obtain ⟨u,r,l⟩:=hl i y v e1' e2' (.inr (.inl hkc))
    refine ⟨u,r,?_⟩
    rcases l with ⟨hk,_⟩|⟨_,c,hcc,hcell⟩
    ·have:X.env.kindOf y=some .cell:=hkc
     rw [this] at hk;cases hk
    ·obtain ⟨c',hc'⟩:=hcl2 y hfr
     have:=hcl1 y c' hc'
     rw [hcc] at this
     cases this
     refine .inr ⟨?_,c,hc',?_⟩
     ·rcases e3 with e3|e3|e3
      ·exact absurd (zev S e3) hyx
      ·exact .inl e3
      ·exact .inr e3
     ·obtain ⟨o,ho,hd⟩:=hcell
      exact ⟨o,old c o ho,hd⟩
  ·obtain ⟨v,o,ho,hd⟩:=I2.cell y c (hcl1 y c hy)
   exact ⟨v,o,old c o ho,hd⟩
  ·show (none::U).length=(x::M).length
   simp [I2.len,eN.1]
 have fpY:∀{pl:List (Addr×Obj)} {H':Hp},(∀p∈pl,p.1=D)->(∀b∈fp,H' b=none)->∀b∈fp,FpOk Y pl H' b:=fun {pl H'} hpl hn b hb=>by
  obtain ⟨o,ho,_⟩:=T.obj 0 _ st2 b hb
  refine ⟨hn b hb,fun z=>?_,?_,.inl hb,(okY.exf b hb).2,fun p hp z=>?_⟩
  ·exact j0 (ltS ho) hC z
  ·exact okY.exfs b hb
  ·have hp':p∈pl:=by simpa [Y,cxH] using hp
   exact ar4 (ltS ho) (hpl p hp') z
 have loop:codeAny (model X.prog X.w) X.A (.compLoop (.ListComp elt [⟨.Name x px,iter,[],0⟩] scope pos) 0 (.ref it) (.ref D) (compEnvC scope cl C X.env))
   (compPost (model X.prog X.w) X.A X.xe (some (assign (.Name y pos') X.env)) (fun _ s'=>wpAny (model X.prog X.w) X.A (pure ():Sem Unit) (fun _ s'=>wpAny (model X.prog X.w) X.A (pure .next:Sem Flow) (SP X pins Dn) X.xe s') X.xe s') (.ref D) C) { aa with heap:=ar,toks:=aa.toks+([]:List (Str×Value)).length }:=by
  refine zjX (fun n s'=>∃i ys H' its k,Inv Y [(D,{ cls:=.type "list", data:=.seq (its:List Value).toArray k })] (none::U) H' s'/\Vals ys its/\tn i s'.heap/\(∀b∈fp,H' b=none)/\W i n ys H') ?_ m0
   ⟨0,[],H2,[],0,I0,.nil,T.keep 0 _ _ st2 (fun b hb o e=>old b o e),fun b hb=>(fpX b hb).1,w0⟩
  rintro n s3 ⟨i,ys,H3,its,k,I3,rv,st3,fr3,w3⟩
  have pinl:∀{o:Obj},∀p∈[(D,o)],p.1=D:=fun {o} p hp=>by
   have ep:p=(D,o):=by simpa using hp
   rw [ep]
  obtain ⟨gD,nD,_,_,_⟩:=I3.pin (D,_) (yq _ yO)
  rcases turn i n ys H3 w3 with ⟨stop,hz,q⟩|⟨go,hz,step⟩
  ·refine thn (T.done Y rfl rfl rfl hc i _ s3 _ H3 E' I3 (fpY pinl fr3) st3 stop) fun r s4 ⟨hr,I4⟩=>?_
   subst hr
   obtain ⟨gD4,nD4,_,_,_⟩:=I4.pin (D,_) (yq _ yO)
   obtain ⟨m4,hn4,_⟩:=id I4.loc
   have fin:∀h',Heap.SameBut C s4.heap h'->Inv X pins U (upd H3 D (.lst ys)) { s4 with heap:=h' }:=fun h' hsb=>by
    have neC:∀{b:Addr} {u:HO},H3 b=some u->b≠C:=fun e z=>by
     have:H3 C=none:=I4.free
     rw [z,this] at e;cases e
    refine I2.call' (s':={ s4 with heap:=h' }) (ch:=fp) (H':=upd H3 D (.lst ys)) I4.os ?_ ?_ I4.bare fun b hb=>⟨(fpX b hb).2.2.2.1,(fpX b hb).2.1,(fpX b hb).2.2.2.2.1,(fpX b hb).2.2.2.2.2⟩
    ·have B:=I4.base
     have ltC:∀{b:Nat} {o:Obj},aa.heap.get? b=some o->b≠C:=fun e z=>j0 (ltS e) hC z
     have neD:∀{b:Addr} {u:HO},H3 b=some u->b≠D:=fun e z=>by rw [z,nD4] at e;cases e
     refine ⟨fun b o e nn hb hx=>(hsb.2 b (ltC e)).trans (B.keep b o e nn hb hx),fun b o e nn hb hx=>?_,fun b o e nn hx=>?_,fun b o e hx=>?_,fun b xs e=>?_,fun b o u e=>?_,fun b ps e=>?_⟩
     ·obtain ⟨sl,z⟩:=B.slot b o e nn hb hx
      exact ⟨sl,(hsb.2 b (ltC e)).trans z⟩
     ·have hbD:b≠D:=yz (ltS e)
      rw [zX hbD]
      exact B.free b o e nn hx
     ·obtain ⟨o',z⟩:=B.there b o e hx
      exact ⟨o',(hsb.2 b (ltC e)).trans z⟩
     ·have z:=B.tups b xs e
      rw [zX (neD z)];exact z
     ·have z:=B.frzs b o u e
      rw [zX (neD z)];exact z
     ·obtain ⟨more,z⟩:=B.tbls b ps e
      exact ⟨more,by rw [zX (neD z)];exact z⟩
    ·intro a o e
     by_cases ha:a=D
     ·subst ha
      rw [yC] at e
      cases e
      exact ⟨hz,its,k,rv,(hsb.2 _ hDC).trans gD4⟩
     ·rw [zX ha] at e
      have keepNe:∀b u,H3 b=some u->(upd H3 D (.lst ys)) b=some u:=fun b u z=>by
       have hb:b≠D:=fun w=>by rw [w,nD4] at z;cases z
       rw [zX hb];exact z
      refine (I4.hok a o e).stay (fun b u hb z=>(hsb.2 b ?_).trans z) (fun b z=>keepNe b _ z) fun b xs z=>keepNe b _ z
      rcases hb with hb|hb
      ·rw [hb];exact neC e
      ·exact neC hb
   have hCD:C≠D:=fun z=>hDC z.symm
   have IX:=fin s4.heap ⟨rfl,fun _ _=>rfl⟩
   obtain ⟨oC,eC,pC,gC,rC⟩:=id hn4
   have hCn:upd H3 D (.lst ys) C=none:=by rw [zX hCD];exact I4.free
   have hCe:∀b o,aa.heap.get? b=some o->b≠C:=fun b o e z=>j0 (ltS e) hC z
   have hCl:C≠X.env.locals:=fun z=>by
    obtain ⟨m2,hn2,_⟩:=id I2.loc
    obtain ⟨o2,_,_,g2,_⟩:=hn2
    exact hCe _ _ g2 z.symm
   have hCf:C∉X.fs:=I2.nofs (by rw [hD];omega)
   have IP:Inv X (pins++[(C,oC)]) U (upd H3 D (.lst ys)) s4:=IX.pins_of fun p hp=>by
    rcases jv.mp hp with hp|hp
    ·exact IX.pin p (yq _ hp)
    ·have ep:p=(C,oC):=by simpa using hp
     subst ep
     exact ⟨gC,hCn,hCl,hCf,fun v z=>by rw [rC.1] at z;cases z⟩
   show wpAny _ _ (assign (.Name y pos') X.env (.ref D)) _ _ s4
   have hst:wpAny (model X.prog X.w) X.A (assign (.Name y pos') X.env (.ref D)) (fun _ s5=>Inv X (pins++[(C,oC)]) (U.set iy (some (.ref D))) (upd H3 D (.lst ys)) s5) X.xe s4:=wpAny_assign_Name (zbD IP hNX hiy hy (v:=.ref D) rfl (fun s5 I5=>I5) hfy)
   refine thn hst fun _ s5 I5=>?_
   have g5:=(I5.pin (C,oC) (yq _ (yq _ yO))).1
   refine ⟨m4,⟨oC,eC,pC,g5,rC⟩,fun h'' hsb=>zM (zM ⟨_,_,?_,q D nD4⟩)⟩
   exact (I5.pins_of (pins':=pins) fun p hp=>I5.pin p (yq _ (jW _ hp))).turned (it:=C) (t':=s5.toks) (fun b o hb e=>(hsb.2 b hb).trans e) hCn hCl
    (.inr (by have:=I2.sz;rw [hD] at this;omega)) (fun a c ha z=>by
     obtain ⟨v',o',ho',_⟩:=I2.cell a c ha
     exact hCe _ _ ho' z) (fun p hp=>hCe _ _ (I2.pin p hp).1)
  ·refine thn (T.item Y rfl rfl rfl hc i _ s3 _ H3 E' I3 (fpY pinl fr3) st3 go) fun r s4 ⟨u,hr,h4⟩=>?_
   subst hr
   refine thn h4 fun _ s5 ⟨z,H5,I5,r5,y5,st5,fr5⟩=>?_
   have I5':=I5.pinned (fpY pinl fr5) (T.obj _ _ st5)
   have pgx:PG Y (.Name x px) (wu 0):=zae (X:=Y) hN rfl (.inl (wH S.hx)) (.inr (wH S.hx))
   have peY:PE Y elt te:=PE.nox (X:=Y) (he cl C aa H2 fp)
   refine thn (pgx _ s5 (none::U) H5 z u (fun ai H'=>ai=some z::U/\H'=H5) I5' r5 ⟨rfl,rfl⟩) fun _ s6 ⟨aD,H6,I6,e1,e2⟩=>?_
   subst e1 e2
   refine thn (peY _ s6 _ _ _ I6 (step z _ y5)) fun uy s7 ⟨y,H7,I7,ry,m',hm,w7⟩=>?_
   obtain ⟨gD7,nD7,_,_,_⟩:=I7.pin (D,_) (yq _ (jW _ yO))
   refine wpAny_list_append_plain ⟨k,gD7⟩ (fun h' hpl hsb=>?_) (by rw [yx,<-rv.length];exact hz)
   obtain ⟨k',gD'⟩:=hpl
   have I8:Inv Y [] (some z::U) H7 { s7 with heap:=h' }:=(I7.pins_of (pins':=[]) (fun p hp=>nomatch hp)).turned (it:=D) (t':=s7.toks) (fun b o hb e=>(hsb.2 b hb).trans e) nD7 hDC
    (.inr (by show aa.heap.objs.size<=D;omega)) (fun a c hy hz'=>by
     obtain ⟨v',o',ho',_⟩:=I2.cell a c (hcl1 a c hy)
     exact yz (ltS ho') hz') (fun p hp=>by simp [Y,cxH] at hp)
   have I9:Inv Y [] (none::U) H7 { s7 with heap:=h' }:=I8.weak (by simp) fun j v e=>by
    cases j with
    | zero=>simp at e
    | succ j=>simpa using e
   have pinOf:∀b∈fp,∃o,s5.heap.get? b=some o/\s7.heap.get? b=some o/\H7 b=none:=fun b hb=>by
    obtain ⟨o,e,_⟩:=T.obj _ _ st5 b hb
    have q:=I7.pin (b,o) (yq _ (yq _ (zaf hb e)))
    exact ⟨o,e,q.1,q.2.1⟩
   have fpD:∀b∈fp,b≠D:=fun b hb=>by
    obtain ⟨o,ho,_⟩:=T.obj 0 _ st2 b hb
    exact yz (ltS ho)
   have eT:its.toArray.push uy=(its++[uy]).toArray:=by simp
   rw [eT] at gD'
   refine ⟨m',hm,i+1,ys++[y],H7,its++[uy],k',I9.pins_of (hpinD gD' nD7 fun v e=>by cases e),rv.append (.cons ry .nil),T.keep (i+1) _ _ st5 fun b hb o e=>?_,fun b hb=>?_,w7⟩
   ·obtain ⟨o',e1,e2,_⟩:=pinOf b hb
    rw [e] at e1
    cases e1
    exact (hsb.2 b (fpD b hb)).trans e2
   ·obtain ⟨_,_,_,q⟩:=pinOf b hb
    exact q
 exact codeAny_compStart_list loop (T.self X.A 0 _ _ _ (T.keep 0 _ _ st2 (fun b hb o e=>old b o e)) loop)
end L2
namespace Mi
open PySem L2 PySem.W PySem.Spec
section
variable {X:Cx}{Er:XK}{pos:Pos}
def tMI (X:Cx) (Er:XK) (src:ze->Mo Sq):TI:=fun U H R=>∃env st ρ,EnvR X.K X.mg ρ H env U/\StR X.K X.mg ρ H st/\Out X.K X.mg ρ H (src env st) (fun ah H' q st'=>∀J,Walk X.K X.mg J ah H' q->R J H') Er
def zm7 {src:ze->Mo Sq}{fe:ze->Mo PV}(U:L2.St) (H:Hp) (Q:VK) (hh:tM X.K X.mg Er (j2 src fe) U H Q):zew (tMI X Er src) (tM X.K X.mg XN fe) U H Q:=by
 obtain ⟨env,st,ρ,re,rs,h⟩:=hh
 refine ⟨env,st,ρ,re,rs,h.then fun aq H0 q st0 e0 s0 h0 J wk=>?_⟩
 cases q with
 | im xs =>
  obtain ⟨hl,h0⟩:=Out.ifp h0
  obtain ⟨w1,w2,w3⟩:=wk
  refine ⟨fun i m ys H=>m=xs.length-i/\i<=xs.length/\ys.length=i/\∃ps st ρ,Rs X.K X.mg ρ H ps ys/\StR X.K X.mg ρ H st/\Ext aq H0 ρ H/\Out X.K X.mg ρ H (compL fe env (xs.drop i) ps st) (gV X.K X.mg Q) Er,⟨xs.length,by simp,ju _,rfl,[],st0,aq,rfl,s0,Ext.refl,h0⟩,?_⟩
  rintro i m ys H ⟨rfl,hi,hy,ps,st,ρ,rps,rs,ex,h⟩
  by_cases hlt:i<xs.length
  ·refine .inr ⟨w1 i ρ H ex hlt,yQ (by omega),fun v H' y=>?_⟩
   obtain ⟨x,hx,ex2,s2,rx⟩:=w3 i ρ H st v H' ex rs hlt y
   have hd:xs.drop i=x::xs.drop (i+1):=by
    rw [jJ hlt]
    have:=(yE.mp hx).2
    rw [this]
   rw [hd] at h
   simp only [compL] at h
   refine ⟨some x::env,st,ρ,(re.ext (e0.trans (ex.trans ex2))).cons rx,s2,wR (Out.ext h ex2) fun am H3 y st3 e3 s3 h3 v ry=>⟨xs.length-(i+1),by omega,rfl,hlt,by simp [hy],ps++[y],st3,am,Rs.snoc ry (Rs.ext (ex2.trans e3) ps rps),s3,(ex.trans ex2).trans e3,h3⟩⟩
  ·have e:i=xs.length:=by omega
   subst e
   rw [List.drop_length] at h
   exact .inl ⟨w2 _ ρ H ex (yg _),yQ (by omega),fun l hl=>Out.newList h rs rps hl⟩
 | rf n =>
  obtain ⟨a,ha,rfl⟩:=wk
  refine ⟨fun i m ys H=>m+i=lim+1/\ys.length=i/\∃ps st ρ,Rs X.K X.mg ρ H ps ys/\StR X.K X.mg ρ H st/\Ext aq H0 ρ H/\ρ[n]?=some a/\Out X.K X.mg ρ H (compR fe env n m i ps st) (gV X.K X.mg Q) Er,⟨lim+1,rfl,rfl,[],st0,aq,rfl,s0,Ext.refl,ha,h0⟩,?_⟩
  rintro i m ys H ⟨hm,hy,ps,st,ρ,rps,rs,ex,ha,h⟩
  cases m with
  | zero=>exact h.elim
  | succ m =>
   obtain ⟨xs,hn,h⟩:=yW h
   obtain ⟨vs,hH,hR⟩:=rs.addr hn ha
   cases hx:xs[i]? with
   | none =>
    simp only [hx] at h
    have:vs.length<=i:=by rw [<-hR.len];exact za2.mp hx
    exact .inl ⟨⟨vs,SqL.of hH,this⟩,yQ (by omega),fun l hl=>Out.newList h rs rps hl⟩
   | some x =>
    simp only [hx] at h
    obtain ⟨v,hv,rv⟩:=hR.get hx
    refine .inr ⟨⟨vs,v,SqL.of hH,hv⟩,yQ (by omega),fun v' H' y=>?_⟩
    obtain ⟨e1,y⟩:=y
    subst e1
    have e2:=y vs (SqL.of hH)
    rw [hv] at e2
    cases e2
    exact ⟨some x::env,st,ρ,(re.ext (e0.trans ex)).cons rv,rs,wR h fun am H3 y st3 e3 s3 h3 v ry=>⟨m,jL m,by omega,by simp [hy],ps++[y],st3,am,Rs.snoc ry (Rs.ext e3 ps rps),s3,ex.trans e3,e3.get ha,h3⟩⟩
def zfW (i:Nat) {elt iter:Expr} {x y:Str} {px pos' spos:Pos} {scope:Scope} {src:ze->Mo Sq} {fe:ze->Mo PV} {M:List Str} (hc:X.calm=true) (S:CompSc X.env.scope scope x) (eN:Hid scope M X.N) (hN0:((".0" : Str)::x::M).Nodup)
  (hi:MI X Er (.Name x px) iter src) (he:∀cl C aa ag fp,ME (cxH X M scope cl x C aa ag fp (fun _ _=>False)) XN elt fe) (hNX:X.N.Nodup) (hiy:X.N[i]?=some y) (hy:Loc X.env.scope y) (hfy:X.fn y=true\/X.env.scope.names.lookup y=some .local)
  (hsw:swapsWith (.ListComp elt [⟨.Name x px,iter,[],0⟩] scope pos) (some (.Name y pos')) spos.line X.env=pure true) (hs:∀v,foldedSetIterable iter X.env v=pure v:=by intro _;rfl) :
  MS X Er (.Assign [.Name y pos'] (.ListComp elt [⟨.Name x px,iter,[],0⟩] scope pos) spos) (zC i (j2 src fe)) :=
 PS.weak (zm6 (te:=tM X.K X.mg XN fe) hc S eN hN0 hi (fun cl C aa ag fp=>he cl C aa ag fp) hNX hiy hy hfy hsw hs) fun D U H ⟨env,st,ρ,re,rs,h⟩=>by
  refine zm7 (X:=X) (Er:=Er) (src:=src) (fe:=fe) U H (fun v H2=>D.nx (U.set i (some v)) H2) ⟨env,st,ρ,re,rs,h.then fun af H1 x st1 e1 s1 h1 v rv=>?_⟩
  exact h1.now s1 (U.set i (some v)) ((re.ext e1).set i rv)
def zm8 (i:Nat) {elt iter:Expr} {x y:Str} {px pos' spos:Pos} {scope:Scope} {src:ze->Mo Sq} {fe:ze->Mo PV} {N:List Str} (hc:X.calm=true) (S:CompSc X.env.scope scope x) (eN:X.N=N) (hN0:((".0" : Str)::x::N).Nodup)
  (hi:MI X Er (.Name x px) iter src) (he:∀cl C aa ag fp,ME (cxC X scope cl x C aa ag fp (fun _ _=>False)) XN elt fe) (hNX:X.N.Nodup) (hiy:X.N[i]?=some y) (hy:Loc X.env.scope y) (hfy:X.fn y=true\/X.env.scope.names.lookup y=some .local)
  (hsw:swapsWith (.ListComp elt [⟨.Name x px,iter,[],0⟩] scope pos) (some (.Name y pos')) spos.line X.env=pure true) (hs:∀v,foldedSetIterable iter X.env v=pure v:=by intro _;rfl) :
  MS X Er (.Assign [.Name y pos'] (.ListComp elt [⟨.Name x px,iter,[],0⟩] scope pos) spos) (zC i (j2 src fe)) :=
 zfW i hc S Hid.refl (eN▸hN0) hi he hNX hiy hy hfy hsw hs
end
end Mi
namespace L2
open PySem PySem.Spec PyProof.Rows PySem.W
section
variable {X:Cx}{pins:List (Addr×Obj)}{U:St}{H:Hp}{s:Shared}{a:Addr}{kvs:List (Key×V)}{o:Obj}
end
end L2
namespace Mi
open PySem L2 PySem.W PySem.Spec
section
variable {K:Frag}{mg:Str->Option Value}{ρ:List Addr}{H:Hp}{a:Addr}{o:Obj}{kvs:List (Key×V)}{u:HO}
def zbl (ha:H a=some (.frz o (.dK kvs))) {b:Addr}{w:HO}(h:H b=some w) (n:∀o k,w ≠ .frz o (.dK k)):upd H a u b=some w:=by
 rw [zX]
 ·exact h
 ·intro z;subst z;rw [ha] at h;cases h;exact n _ _ rfl
def zm9 (ha:H a=some (.frz o (.dK kvs))) {p:Addr}{xs:List V}(h:SqT K H p xs):SqT K (upd H a u) p xs:=by
 rcases h with (h|⟨o,h⟩)|h
 ·exact .inl (.inl (zbl ha h (fun _ _=>nofun)))
 ·exact .inl (.inr ⟨o,zbl ha h (fun _ _=>nofun)⟩)
 ·exact .inr h
def zna (ha:H a=some (.frz o (.dK kvs))) {p:Addr}{xs:List V}(h:FrL K H p xs):FrL K (upd H a u) p xs:=by
 rcases h with ⟨o,h⟩|h
 ·exact .inl ⟨o,zbl ha h (fun _ _=>nofun)⟩
 ·exact .inr h
mutual
def R.th (ha:H a=some (.frz o (.dK kvs))):∀(x:PV) {v:V},R K mg ρ H x v->R K mg ρ (upd H a u) x v
 | .non,_,h=>h
 | .bl _,_,h=>h
 | .int _,_,h=>h
 | .str _,_,h=>h
 | .ty _,_,h=>h
 | .tup xs,_,h=>by
  obtain ⟨a,vs,h1,h2,h3⟩:=h
  exact ⟨a,vs,h1,zm9 ha h2,Rs.th ha xs h3⟩
 | .frl xs,_,h=>by
  obtain ⟨a,vs,h1,h2,h3⟩:=h
  exact ⟨a,vs,h1,zna ha h2,Rs.th ha xs h3⟩
 | .ref n,_,h=>h
 | .fn _,_,h=>h
 | .kd ks xs,_,h=>by
  obtain ⟨a,us,vs,h1,h2,h4,h3⟩:=h
  exact ⟨a,us,vs,h1,h2,h4,Rs.th ha xs h3⟩
 | .exo c ks xs,_,h=>by
  obtain ⟨a,C,d,vs,h1,h2,h3,h4,h5,h6⟩:=h
  exact ⟨a,C,d,vs,h1,h2,zbl ha h3 (fun _ _=>nofun),zbl ha h4 (fun _ _=>nofun),Rs.th ha xs h5,h6⟩
def Rs.th (ha:H a=some (.frz o (.dK kvs))):∀(xs:List PV) {vs:List V},Rs K mg ρ H xs vs->Rs K mg ρ (upd H a u) xs vs
 | [],_,h=>h
 | x::xs,_,h=>by
  obtain ⟨v,r,h1,h2,h3⟩:=h
  exact ⟨v,r,h1,R.th ha x h2,Rs.th ha xs h3⟩
end
def EnvR.th (ha:H a=some (.frz o (.dK kvs))) {env:ze}{U:L2.St}(h:EnvR K mg ρ H env U):EnvR K mg ρ (upd H a u) env U :=
 ⟨h.len,fun i x hx=>let ⟨v,p,q⟩:=h.at_ i x hx;⟨v,p,R.th ha x q⟩⟩
end
section
variable {X:Cx}{Er:XK}{pos:Pos}{o:Expr}{sts:List Stmt}{gb:ze->Mo Fl}{fo:ze->Mo PV}{fs:ze->Mo (List PV)}
end
end Mi
namespace L2
open PySem PySem.Spec PyProof.Rows PySem.W
end L2
namespace Mi
open PySem L2 PySem.W PySem.Spec
section
variable {X:Cx}{Er:XK}{K:Frag}{mg:Str->Option Value}{pos p apos cpos:Pos}{o e f:Expr}{fo fk fx:ze->Mo PV}
def zcb:List ((ze->Mo PV)×(ze->Mo PV))->ze->Mo (List PV×List PV)
 | [],_,st=>.ok ([],[]) st
 | q::r,env,st=>(q.1 env st).bind fun k st1=>(q.2 env st1).bind fun x st2=>(zcb r env st2).bind fun z st3=>.ok (k::z.1,x::z.2) st3
inductive MPk (X:Cx) (Er:XK):List (Option Expr)->List Expr->List ((ze->Mo PV)×(ze->Mo PV))->Prop
 | nil:MPk X Er [] [] []
 | cons {k v:Expr} {fk fv:ze->Mo PV} {ks:List (Option Expr)} {vs:List Expr} {fs:List ((ze->Mo PV)×(ze->Mo PV))} (hk:ME X Er k fk) (hv:ME X Er v fv) (hr:MPk X Er ks vs fs):MPk X Er (some k::ks) (v::vs) ((fk,fv)::fs)
def znb:MPk X Er [] [] []:=.nil
def zfX {k v:Expr}{fk fv:ze->Mo PV}{ks:List (Option Expr)}{vs:List Expr}{fs:List ((ze->Mo PV)×(ze->Mo PV))}(hk:ME X Er k fk) (hv:ME X Er v fv) (hr:MPk X Er ks vs fs):MPk X Er (some k::ks) (v::vs) ((fk,fv)::fs):=.cons hk hv hr
def MPk.pps:∀{ks:List (Option Expr)}{vs:List Expr}{fs:List ((ze->Mo PV)×(ze->Mo PV))},MPk X Er ks vs fs->PPs X pos ks vs (fs.map fun q=>(tM X.K X.mg Er q.1,tM X.K X.mg Er q.2))
 | _,_,_,.nil=>zke
 | _,_,_,.cons hk hv hr=>zkf hk hv hr.pps
def MPk.len {ks:List (Option Expr)}{vs:List Expr}{fs:List ((ze->Mo PV)×(ze->Mo PV))}(h:MPk X Er ks vs fs):ks.length=vs.length/\ks.length=fs.length/\ks.all (·.isSome)=true:=by
 induction h with
 | nil=>exact ⟨rfl,rfl,rfl⟩
 | cons hk hv hr ih=>exact ⟨by simp [ih.1],by simp [ih.2.1],by simpa using ih.2.2⟩
def zfY:∀{fs:List ((ze->Mo PV)×(ze->Mo PV))}{env:ze}{st:Sto}{ρ:List Addr}{H:Hp}{U:L2.St}{Q:List (V×V)->Hp->Prop},EnvR K mg ρ H env U->StR K mg ρ H st ->
  Out K mg ρ H (zcb fs env st) (fun ah H' q st'=>q.1.length=fs.length->q.2.length=fs.length->∀ks vs,Rs K mg ah H' q.1 ks->Rs K mg ah H' q.2 vs->Q (ks.zip vs) H') Er->zbO (fs.map fun q=>(tM K mg Er q.1,tM K mg Er q.2)) U H Q
 | [],env,st,ρ,H,U,Q,re,rs,h=>h.now rs rfl rfl [] [] rfl rfl
 | f::fs,env,st,ρ,H,U,Q,re,rs,h=>by
  refine ⟨env,st,ρ,re,rs,Out.then h fun af H1 k st1 e1 s1 h1 v rv=>?_⟩
  refine ⟨env,st1,af,re.ext e1,s1,Out.then h1 fun ao H2 x st2 e2 s2 h2 u ru=>?_⟩
  refine zfY (env:=env) (st:=st2) (ρ:=ao) ((re.ext e1).ext e2) s2 (Out.then h2 fun am H3 z st3 e3 s3 h3 l1 l2 ks vs rk rvs=>?_)
  exact h3.now s3 (by simp [l1]) (by simp [l2]) (v::ks) (u::vs) ⟨v,ks,rfl,R.ext e3 k (R.ext e2 k rv),rk⟩ ⟨u,vs,rfl,R.ext e3 x ru,rvs⟩
def keysP:List PV->Option (List Str)
 | []=>some []
 | .str z::r=>(keysP r).map (z::·)
 | _::_=>none
def zfZ {ρ:List Addr}{H:Hp}:∀{xs:List PV}{zs:List Str}{vs:List V},keysP xs=some zs->Rs K mg ρ H xs vs->vs=zs.map V.str
 | [],bs,vs,e,h=>by cases e;cases h;rfl
 | .str i::r,bs,vs,e,h=>by
  simp only [keysP,Option.map_eq_some_iff] at e
  obtain ⟨ir,e1,rfl⟩:=e
  obtain ⟨v,r',rfl,h1,h2⟩:=h
  cases h1
  rw [zfZ e1 h2]
  rfl
 | .non::_,_,_,e,_=>by cases e
 | .int _::_,_,_,e,_=>by cases e
 | .bl _::_,_,_,e,_=>by cases e
 | .ty _::_,_,_,e,_=>by cases e
 | .tup _::_,_,_,e,_=>by cases e
 | .frl _::_,_,_,e,_=>by cases e
 | .ref _::_,_,_,e,_=>by cases e
 | .fn _::_,_,_,e,_=>by cases e
 | .kd _ _::_,_,_,e,_=>by cases e
 | .exo _ _ _::_,_,_,e,_=>by cases e
def zbm (fs:List ((ze->Mo PV)×(ze->Mo PV))):ze->Mo PV:=fun env st=>(zcb fs env (st++[.dic [] []])).bind fun q st1=>match keysP q.1 with
 | some zs=>if isEmp st1[st.length]?=true then .ok (.ref st.length) (st1.set st.length (.dic (wT (zs.zip q.2) [] []).1 (wT (zs.zip q.2) [] []).2)) else .stuck
 | none=>.stuck
def znc {keys:List (Option Expr)}{values:List Expr}{fs:List ((ze->Mo PV)×(ze->Mo PV))}(h:MPk X Er keys values fs) (h0:keys≠[]) (h15:keys.length<=15):ME X Er (.Dict keys values pos) (zbm fs):=by
 obtain ⟨l1,l2,l4⟩:=h.len
 exact PE.weak (zkh h.pps l4 l1 h0 h15) fun U H Q ⟨env,st,ρ,re,rs,ho⟩=>fun p hp=>by
  have e0:Ext ρ H (ρ++[p]) (upd H p (.dK [])):=Ext.push hp
  have s0:StR X.K X.mg (ρ++[p]) (upd H p (.dK [])) (st++[.dic [] []]):=rs.push hp ⟨[],yC,rfl,rfl⟩
  have hp0:(ρ++[p])[st.length]?=some p:=by rw [<-rs.len];simp
  refine zfY (re.ext e0) s0 (Out.then (Out.ext ho e0) fun af H1 q st1 e1 s1 h1 lk lv us vs ru rv=>?_)
  cases hk:keysP q.1 with
  | none=>simp only [hk] at h1;exact h1.elim
  | some zs =>
   simp only [hk] at h1
   have eu:=zfZ hk ru
   subst eu
   obtain ⟨c,h1⟩:=Out.ifp h1
   have hd:=zmT c
   have hp1:=e1.get hp0
   obtain ⟨ws,k1,k2,k3⟩:=s1.addr hd hp1
   have ew:ws=[]:=by cases ws with|nil=>rfl|cons=>simp at k3
   subst ew
   have lz:zs.length=fs.length:=by have:=ru.len;simpa [lk] using this.symm
   refine ⟨k1,(zs.map Sum.inr:List Key).zip vs,zfF,by rw [List.length_zip,jX];omega,?_⟩
   have eq:Ext af H1 af (upd H1 p (.dK (mergeK [] ((zs.map Sum.inr:List Key).zip vs)))):=Ext.write k1 rfl
   obtain ⟨us,q1,q2,q3⟩:=zft (K:=X.K) (mg:=X.mg) (zs:=zs) (ks:=[]) (xs:=[]) (vs:=[]) rv rfl rfl
   exact h1 af _ eq (s1.write hp1 eq ⟨us,by rw [yC];exact congrArg (fun t=>some (HO.dK t)) q1,Rs.ext eq _ q2,q3⟩) _ ⟨p,rfl,hp1⟩
end
section
variable {K:Frag}{mg:Str->Option Value}{h:Heap}
def keyIn (ks:List Str) (e:DictEntry):Bool:=match e.key with
 | .str x _=>ks.contains x
 | _=>false
def znd {ks:List Str}{e:DictEntry}(h:keyIn ks e=true):∃x∈ks,∃t,e.key=.str x t:=by
 unfold keyIn at h
 split at h
 ·rename_i x t ek;exact ⟨x,by simpa using h,t,ek⟩
 ·cases h
def zne {w:World} {name:Str} {O:Addr} {es:Array DictEntry} {n:Nat} {ks:List Str} {qs:List PV} (X:K.In h) (G:h.Ns mainGlobals mg) (aO:nsIn K mainGlobals name=some (some (.ref O))) (lO:K.lookup O=some ⟨.type "dict", none,.dict es n,#[]⟩) (hk:KeysLit w.params es.toList) (no:(O==sysModules)=false)
  (hl:ks.length=qs.length) (hks:es.toList.all (keyIn ks)=true)
  (hi:∀p∈ks.zip qs,∃u v,nsIn K O p.1=some (some u)/\RelV v u/\∀ρ H,R K mg ρ H p.2 v):∀Y:Cx,Y.K=K->Y.mg=mg->Y.w=w->KdF Y name ks qs true:=fun Y e1 e2 e3=>by
 have hks:∀e∈es.toList,∃x∈ks,∃t,e.key=.str x t:=fun e he=>znd (List.all_eq_true.mp hks e he)
 refine ⟨O,by rw [e2];exact mg_of X G aO,⟨⟨es,n,by rw [e1];exact lO,by rw [e3];exact hk⟩,no⟩,fun z q hz=>?_,fun _ z hz=>?_⟩
 ·rw [e1,e2]
  exact hi _ (zfh hz)
 ·have hn:z∉ks:=fun hz'=>by
   obtain ⟨i,hi⟩:=List.getElem?_of_mem hz'
   have hl':i<qs.length:=by rw [<-hl];exact (yE.mp hi).1
   have:=List.lookup_eq_none_iff.mp hz (z,qs[i]) (List.mem_iff_getElem?.mpr ⟨i,by simp [List.getElem?_zip_eq_some,hi,hl']⟩)
   simp at this
  rw [e1]
  unfold nsIn
  rw [lO]
  dsimp only
  have f1:es.toList.find? (·.key.isStr z)=none:=by
   rw [List.find?_eq_none]
   intro e he
   obtain ⟨x,hx,t,ek⟩:=hks e he
   rw [ek]
   intro hc
   have:x=z:=by
    simp [Value.isStr] at hc
    exact hc
   exact hn (this▸hx)
  rw [f1]
  dsimp only
  rw [zN]
  intro hc
  obtain ⟨e,he,hr⟩:=List.any_eq_true.mp hc
  obtain ⟨x,hx,t,ek⟩:=hks e he
  simp [DictEntry.refKey,ek] at hr
end
section
variable {X:Cx}{Er:XK}{K:Frag}{mg:Str->Option Value}
def call_len_dict:CallR X (.builtin "len") (fun xs H Q=>∃p kvs,xs=[.ref p]/\H p=some (.dK kvs)/\Q (.int kvs.length) H):=by
 intro pins s U H xs us Q I r h
 obtain ⟨p,kvs,rfl,hp,q⟩:=h
 obtain ⟨u,rfl,rx⟩:=zay r
 cases rx
 exact zj8 I (.inl hp) fun t s' I'=>⟨.int kvs.length,H,I',⟨t,rfl⟩,q⟩
def je:List PV->Mo PV:=fun xs st=>match xs with
 | [.ref n]=>match st[n]? with
  | some (.dic ks _)=>.ok (.int ks.length) st
  | _=>zbZ xs st
 | _=>zbZ xs st
def wV:BltOk X (.builtin "len") je:=by
 obtain ⟨r,h1,h2⟩:=zle (X:=X)
 refine ⟨_,h1.or call_len_dict,fun ρ H st xs vs Q E s rx h=>?_⟩
 by_cases hx:∃n ks ys,xs=[.ref n]/\st[n]?=some (.dic ks ys)
 ·obtain ⟨n,ks,ys,rfl,e⟩:=hx
  have h:Out X.K X.mg ρ H (.ok (.int ks.length) st) (gV X.K X.mg Q) E:=by
   simpa only [je,e] using h
  obtain ⟨v,rfl,rv⟩:=Rs.one rx
  obtain ⟨a,ws,rfl,_,k1,k2,k3⟩:=R.refD s rv e
  refine .inr ⟨a,_,rfl,k1,?_⟩
  have hl:(kz ks ws).length=ks.length:=by simp [kz,k3]
  rw [hl]
  exact Out.now (x:=PV.int ks.length) h s _ rfl
 ·refine .inl (h2 ρ H st xs vs Q E s rx ?_)
  have:je xs st=zbZ xs st:=by
   unfold je
   split
   ·rename_i n
    split
    ·rename_i ks ys e;exact absurd ⟨n,ks,ys,rfl,e⟩ hx
    ·rfl
   ·rfl
  rw [this] at h
  exact h
end
section
variable {α:Type}{env:ze}{st:Sto}{fa fb fo fk fx:ze->Mo PV}{fs:ze->Mo (List PV)}{g:ze->Mo Fl}
def znf {n:Nat}{ks:List Str}{xs:List PV}(h:st[n]?=some (.dic ks xs)) (k:List Str->List PV->Res α):jz st n k=k ks xs:=by unfold jz;rw [h]
def zaM {n:Nat}{xs:List PV}(h:st[n]?=some (.lst xs)):je [.ref n] st=.ok (.int xs.length) st:=by
 simp only [je,h]
 show yh st n _=_
 rw [yt h]
@[simp] def zqK (xs:List PV):je [.tup xs] st=.ok (.int xs.length) st:=(rfl)
@[simp] def zqL (xs:List PV):je [.frl xs] st=.ok (.int xs.length) st:=(rfl)
end
end Mi
namespace L2
open PySem PySem.Spec PyProof.Rows PySem.W
section
variable {X:Cx}
end
end L2
namespace Mi
open PySem L2 PySem.W PySem.Spec
section
variable {X:Cx}{Er:XK}{pos:Pos}{K:Frag}{mg:Str->Option Value}{fs:ze->Mo (List PV)}
end
end Mi
namespace PySem
open Sem (wp)
section
variable {prog:Program}{w:World}{A:Around}{s:Shared}{R:Result->Shared->Prop}
variable {I:Addr}{fp wr:List Addr}{G:Array GenState->Array GenState->Prop}{n:Nat}{P:Nat->Value->Prop}{St:Nat->Shared->Prop}
end
section
variable {prog:Program}{w:World}{A:Around}{s:Shared}{R:Result->Shared->Prop}
variable {I:Addr}{fp wr:List Addr}{G:Array GenState->Array GenState->Prop}{n:Nat}{P:Nat->Value->Prop}{St:Nat->Shared->Prop}
end
section
variable {prog:Program}{w:World}{A:Around}{E:Value->Shared->Prop}{s:Shared}
variable {I:Addr}{fp wr:List Addr}{G:Array GenState->Array GenState->Prop}{n:Nat}{P:Nat->Value->Prop}{St:Nat->Shared->Prop}
end
end PySem
namespace L2
open PySem PySem.Spec PyProof.Rows PySem.W
section
variable {X:Cx}
end
end L2
namespace Mi
open PySem L2 PySem.W PySem.Spec
section
variable {X:Cx}{Er:XK}{pos:Pos}{K:Frag}{mg:Str->Option Value}{fs:ze->Mo (List PV)}
end
section
variable {X:Cx}{Er:XK}{pos pos':Pos}{o i value:Expr}{fo fi fv:ze->Mo PV}
def lPutAt (z x:PV):PV->Mo Unit
 | .ref n,st=>match z with
  | .int (.ofNat k)=>yh st n fun xs=>if k<xs.length then .ok () (st.set n (.lst (xs.set k x))) else .stuck
  | _=>.stuck
 | _,_=>.stuck
def zap (fo fi fv:ze->Mo PV):ze->Mo Fl:=fun env st=>(fv env st).bind fun x st1=>(fo env st1).bind fun o st2=>(fi env st2).bind fun z st3=>(lPutAt z x o st3).bind fun _ st4=>.ok (.nx env) st4
def Rs.put {K:Frag}{mg:Str->Option Value}{ρ:List Addr}{H:Hp}{x:PV}{v:V}(r:R K mg ρ H x v):∀{xs:List PV}{vs:List V}(k:Nat),Rs K mg ρ H xs vs->Rs K mg ρ H (xs.set k x) (vs.set k v)
 | [],_,k,h=>by cases h;cases k<;>rfl
 | y::ys,_,0,h=>by
  obtain ⟨w,q,rfl,h1,h2⟩:=h
  exact ⟨v,q,rfl,r,h2⟩
 | y::ys,_,k+1,h=>by
  obtain ⟨w,q,rfl,h1,h2⟩:=h
  exact ⟨w,_,rfl,h1,Rs.put r k h2⟩
def zf0 (ho:ME X Er o fo) (hi:ME X Er i fi) (hv:ME X Er value fv)
  (ha:∀v,assign (.Subscript o i pos') X.env v=(do
   let ov <-holding [v] (eval o X.env)
   let iv <-holding [v,ov] (eval i X.env)
   standAt pos'
   holding [v,ov,iv] (setItem ov iv v)
   release [v,ov,iv] []):=by intro _;rfl)
  (hs:swapsWithSole [.Subscript o i pos'] value pos.line X.env=pure false:=by rfl) (hw:swappedStores [.Subscript o i pos'] value X.env=pure none:=by rfl)
  (h1:(assignEach [.Subscript o i pos'] X.env).map (·.2)=[assign (.Subscript o i pos') X.env]:=by rfl):MS X Er (.Assign [.Subscript o i pos'] value pos) (zap fo fi fv) :=
 PS.weak (zd1 hv (zim ho hi zjB ha) hs hw h1) fun D U H ⟨env,st,ρ,re,rs,h⟩=>⟨env,st,ρ,re,rs,h.then fun af H1 x st1 e1 s1 h1 v rv=>⟨env,st1,af,re.ext e1,s1,h1.then fun ao H2 y st2 e2 s2 h2 w rw=>⟨env,st2,ao,(re.ext e1).ext e2,s2,h2.then fun am H3 zz st3 e3 s3 h3 u ru=>by
  cases y with
  | ref n =>
   cases zz with
   | int z =>
    cases z with
    | ofNat k =>
     cases hn:st3[n]? with
     | none=>simp only [lPutAt,yh,hn] at h3;exact h3.elim
     | some so =>
      cases so with
      | dic _ _=>simp only [lPutAt,yh,hn] at h3;exact h3.elim
      | ins _ _ _=>simp only [lPutAt,yh,hn] at h3;exact h3.elim
      | fdi _ _=>simp only [lPutAt,yh,hn] at h3;exact h3.elim
      | lst xs =>
       simp only [lPutAt,yh,hn] at h3
       by_cases hc:k<xs.length
       ·rw [zE hc] at h3
        obtain ⟨a,vs,e4,ha,k1,k2⟩:=R.refL s3 (R.ext e3 _ rw) hn
        subst e4
        cases ru
        have hlv:vs.length=xs.length:=k2.len.symm
        have ew:Ext am H3 am (upd H3 a (.lst (vs.set k v))):=Ext.write k1 rfl
        have hix:ixN vs.length (Int.ofNat k)=some k:=by
         unfold ixN
         rw [zE (by show (0:Int)<=((k:Nat):Int);omega),zE (by rw [hlv];show ((k:Nat):Int)<xs.length;omega)]
         rfl
        refine ⟨a,vs,_,k,rfl,rfl,k1,hix,h3 am _ ew (s3.write ha ew ⟨vs.set k v,yC,Rs.ext ew _ (Rs.put (R.ext e3 x (R.ext e2 x rv)) k k2)⟩) U ((((re.ext e1).ext e2).ext e3).ext ew)⟩
       ·rw [zN hc] at h3;exact h3.elim
    | negSucc k=>exact h3.elim
   | _=>exact h3.elim
  | _=>exact h3.elim⟩⟩⟩
end
section
variable {X:Cx}
end
end Mi
namespace L2
open PySem PySem.Spec PyProof.Rows PySem.W
section
variable {prog:Program}{w:World}{A:Around}{E:Value->Shared->Prop}{s:Shared}
end
section
variable {X:Cx}{pos:Pos}
end
end L2
namespace Mi
open PySem L2 PySem.W PySem.Spec
section
variable {X:Cx}{Er:XK}{pos:Pos}{e:Expr}{fa:ze->Mo PV}
end
end Mi
namespace L2
open PySem PySem.Spec PyProof.Rows PySem.W
section
variable {prog:Program}{w:World}{A:Around}{E:Value->Shared->Prop}{s:Shared}
end
end L2
namespace Mi
open PySem L2 PySem.W PySem.Spec
section
variable {X:Cx}{Er:XK}{pos:Pos}{sts:List Stmt}{gb:ze->Mo Fl}{fs:ze->Mo (List PV)}
end
end Mi
namespace L2
open PySem PySem.Spec PyProof.Rows PySem.W
section
variable {prog:Program}{w:World}{A:Around}{E:Value->Shared->Prop}{s:Shared}
end
end L2
namespace Mi
open PySem L2 PySem.W PySem.Spec
section
variable {X:Cx}
end
end Mi
namespace L2
open PySem PySem.Spec PyProof.Rows PySem.W
def zng (iy:Nat) (wi:TI) (gt:TG) (tt:TT) (te:TE) (n:Nat):TS:=fun D U H=>wi U H fun J H1=>CompWN J gt tt te n U (fun v H2=>D.nx (U.set iy (some v)) H2) H1
def znh {X:Cx} {elt iter tg:Expr} {ifs:List Expr} {xs:List Str} {y:Str} {pos pos' spos:Pos} {scope:Scope} {wi:TI} {gt:TG} {tt:TT} {te:TE} {M:List Str} {iy:Nat} (hc:X.calm=true) (S:CompSN X.env.scope scope xs) (eN:Hid scope M X.N) (hN0:((".0" : Str)::(xs++M)).Nodup)
  (hi:PI X tg iter wi) (hgt:∀cl C aa ag fp E,PG (cxNH X M scope cl xs C aa ag fp E) tg gt) (hif:∀cl C aa ag fp,PTs (cxNH X M scope cl xs C aa ag fp (fun _ _=>False)) ifs tt) (he:∀cl C aa ag fp,PE (cxNH X M scope cl xs C aa ag fp (fun _ _=>False)) elt te)
  (hNX:X.N.Nodup) (hiy:X.N[iy]?=some y) (hy:Loc X.env.scope y) (hfy:X.fn y=true\/X.env.scope.names.lookup y=some .local)
  (hsw:swapsWith (.ListComp elt [⟨tg,iter,ifs,0⟩] scope pos) (some (.Name y pos')) spos.line X.env=pure true) (hs:∀v,foldedSetIterable iter X.env v=pure v:=by intro _;rfl):PS X (.Assign [.Name y pos'] (.ListComp elt [⟨tg,iter,ifs,0⟩] scope pos) spos) (zng iy wi gt tt te xs.length):=by
 intro pins s U H Dn I h
 have hN:(xs++M).Nodup:=(jc.mp hN0).2
 have h0N:(".0" : Str)∉M:=fun z=>(jc.mp hN0).1 (yq _ z)
 obtain ⟨cl,hclos,hcl1,hcl2⟩:=zcJ X.env scope fun p hp hf=>I.ok.has p.1 (.inl (S.free p hp hf))
 have hkd:X.env.scope.kind=.function:=I.ok.kind
 rw [exec_Assign_Name_used _ _ _ _ hsw]
 refine zt (wpAny_standAt ?_)
 rw [arm_evalThenUse_ListComp]
 refine zt (zt (wpAny_comprehension_free (Q:=fun _ s'=>wpAny (model X.prog X.w) X.A (pure ():Sem Unit) (fun _ s'=>wpAny (model X.prog X.w) X.A (pure .next:Sem Flow) (SP X pins Dn) X.xe s') X.xe s') (use:=some (assign (.Name y pos') X.env)) rfl hs hclos S.kind (fun y hy hl=>(S.names y hy hl).1) ?_))
 refine thn (hi pins s U H _ I h) fun v s1 h1=>thn h1 fun itv aa h2=>?_
 obtain ⟨it,fp,tn,J,H2,e,I2,T,st2,f2,W,⟨m0,w0⟩,turn⟩:=h2
 subst e
 refine wG (wpAny_newFunctionEnv S.ncell (by intro y hy;simp at hy) (fun ar ay av=>?_) S.kind)
 dsimp only at ay av ⊢
 generalize hH2:aa.heap.push { cls:=.type "list", dict:=none,data:=.seq ([]:List Value).toArray }=G2 at ay av ⊢
 have hC:G2.objs.size=aa.heap.objs.size+1:=by rw [<-hH2,Heap.size_push]
 have hDC:aa.heap.objs.size≠G2.objs.size:=by rw [hC];exact yz (jL _)
 have hCle:aa.heap.objs.size<=G2.objs.size:=by rw [hC];exact Nat.le_succ _
 have old:∀b o,aa.heap.get? b=some o->ar.get? b=some o:=fun b o e=>by
  have hb:b≠G2.objs.size:=by rw [hC];exact yz (Nat.lt_succ_of_lt (ym e))
  exact av.extBut b o hb (yo _ (hH2▸yo _ e))
 have hacc:ar.get? aa.heap.objs.size=some { cls:=.type "list", data:=.seq (#[]:Array Value) 0 }:=av.extBut _ _ hDC (yo _ (hH2▸y8 _ rfl))
 generalize hD:aa.heap.objs.size=D at *
 generalize hCC:G2.objs.size=C at *
 have ltS:∀{b:Nat} {o:Obj},aa.heap.get? b=some o->b<D:=fun e=>by rw [<-hD];exact ym e
 have nofr:∀b,D<=b->b∉frs X.stack:=fun b hb z=>by
  rcases yD.mp (I2.stkSub b z) with q|q
  ·exact ar1 I2.lt hD hb q
  ·exact I2.nofs (by rw [hD];exact hb) q
 let E':Value->Shared->Prop:=notedBy (model X.prog X.w) X.A (compEnvC scope cl C X.env) fun e s'=>compPost (model X.prog X.w) X.A X.xe (some (assign (.Name y pos') X.env)) (fun _ s'=>wpAny (model X.prog X.w) X.A (pure ():Sem Unit) (fun _ s'=>wpAny (model X.prog X.w) X.A (pure .next:Sem Flow) (SP X pins Dn) X.xe s') X.xe s') (.ref D) C (.error e) s'
 let Y:Cx:=cxNH X M scope cl xs C aa H2 fp E'
 have fpX:∀b∈fp,FpOk X pins H2 b:=f2
 have okY:Y.Ok:=by
  refine ⟨I2.ok.mod,S.kind,I2.ok.glob,I2.ok.blt,(by show aa.heap.objs.size<=C;omega),fun y z c h1 h2=>?_,fun y hy=>?_,fun y c hf=>?_,I2.ok.hd,I2.ok.frames,.inl rfl,fun b hb=>?_,I2.bs,yT I2.ok.bsz I2.sz,fun b o hb hx=>?_,fun b hb hx=>?_,I2.stack,I2.stkFree⟩
  ·exact I2.ok.inj y z c (hcl1 y c h1) (hcl1 z c h2)
  ·exact hcl2 y (zaz S hkd hy)
  ·cases hf
  ·refine ⟨fun z=>?_,fun y c hy=>(fpX b hb).2.2.2.2.1 y c (hcl1 y c hy)⟩
   obtain ⟨o,ho,_⟩:=T.obj 0 _ st2 b hb
   exact j0 (ltS ho) hC z
  ·rcases (fpX b hx).2.2.2.1 with z|z
   ·exact I2.ok.noex b o hb z
   ·exact ar3 (ym hb) I2.ok.bsz z
  ·rcases yD.mp (I2.stkSub b hx) with q|q
   ·exact (fpX b hb).2.1 q
   ·exact (fpX b hb).2.2.1 q
 have hpinD:∀{s':Shared} {H':Hp} {o:Obj},s'.heap.get? D=some o->H' D=none->(∀v,o.data ≠ .cell v)->∀p∈[(D,o)],s'.heap.get? p.1=some p.2/\H' p.1=none/\p.1≠Y.env.locals/\p.1∉Y.fs/\∀v,p.2.data ≠ .cell v:=fun {s' H' o} e1 e2 e3 p hp=>by
  have ep:p=(D,o):=by simpa using hp
  subst ep
  exact ⟨e1,e2,hDC,nofr D (yg _),e3⟩
 have I0:Inv Y [(D,{ cls:=.type "list", data:=.seq (#[]:Array Value) 0 })] (List.replicate xs.length none++U) H2 { aa with heap:=ar,toks:=aa.toks+([]:List (Str×Value)).length }:=by
  have fresh:∀b,D<=b->H2 b=none:=fun b hb=>I2.hok.fresh (by rw [hD];exact hb)
  refine ⟨okY,rfl,I2.bare,Un.kept old,⟨_,ay,fun i y v e1 e2 e3=>?_⟩,fun y c hy=>?_,fresh C (by omega),fun y c hy=>I2.freeC y c (hcl1 y c hy),fun p hp=>hpinD hacc (fresh D (yg _)) (fun v z=>by cases z) p hp,I2.hok.kept old,?_⟩
  ·by_cases hlt:i<xs.length
   ·rw [we (by simpa using hlt),List.getElem?_replicate] at e2
    simp [hlt] at e2
   ·obtain ⟨j,rfl⟩:∃j,i=xs.length+j:=⟨i-xs.length,by omega⟩
    have e0':M[j]?=some y:=by
     have:(xs++M)[xs.length+j]?=some y:=e1
     rw [jZ (by omega)] at this
     simpa using this
    have e1':X.N[j]?=some y:=by
     rcases eN.get e0' with q|q
     ·exact q
     ·refine absurd ?_ q
      rcases e3 with e3|e3|e3<;>(obtain ⟨k0,hm,_⟩:=wv e3;exact zad.mpr ⟨_,hm,rfl⟩)
    have e2':U[j]?=some (some v):=by
     rw [jZ (by simp)] at e2
     simpa using e2
    have hyx:¬(y∈xs\/y = ".0"):=fun z=>by
     have hm:=wc e0'
     rcases z with z|z
     ·exact (List.nodup_append.mp hN).2.2 y z y hm rfl
     ·rw [z] at hm
      exact h0N hm
    have hfr:(y,NameKind.free)∈scope.names:=by
     rcases e3 with e3|e3|e3
     ·exact absurd (zbK S e3) hyx
     ·exact zaz S hkd (.inl e3)
     ·exact zaz S hkd (.inr e3)
    have hkc:X.env.scope.names.lookup y=some .cell:=S.free _ hfr rfl
    obtain ⟨m,hn,hl⟩:=I2.loc
    obtain ⟨u,r,l⟩:=hl j y v e1' e2' (.inr (.inl hkc))
    refine ⟨u,r,?_⟩
    rcases l with ⟨hk,_⟩|⟨_,c,hcc,hcell⟩
    ·have:X.env.kindOf y=some .cell:=hkc
     rw [this] at hk;cases hk
    ·obtain ⟨c',hc'⟩:=hcl2 y hfr
     have:=hcl1 y c' hc'
     rw [hcc] at this
     cases this
     refine .inr ⟨?_,c,hc',?_⟩
     ·rcases e3 with e3|e3|e3
      ·exact absurd (zbK S e3) hyx
      ·exact .inl e3
      ·exact .inr e3
     ·obtain ⟨o,ho,hd⟩:=hcell
      exact ⟨o,old c o ho,hd⟩
  ·obtain ⟨v,o,ho,hd⟩:=I2.cell y c (hcl1 y c hy)
   exact ⟨v,o,old c o ho,hd⟩
  ·show (List.replicate xs.length none++U).length=(xs++M).length
   simp [I2.len,eN.1]
 have fpY:∀{pl:List (Addr×Obj)} {H':Hp},(∀p∈pl,p.1=D)->(∀b∈fp,H' b=none)->∀b∈fp,FpOk Y pl H' b:=fun {pl H'} hpl hn b hb=>by
  obtain ⟨o,ho,_⟩:=T.obj 0 _ st2 b hb
  refine ⟨hn b hb,fun z=>?_,?_,.inl hb,(okY.exf b hb).2,fun p hp z=>?_⟩
  ·exact j0 (ltS ho) hC z
  ·exact okY.exfs b hb
  ·have hp':p∈pl:=by simpa [Y,cxNH] using hp
   exact ar4 (ltS ho) (hpl p hp') z
 have loop:codeAny (model X.prog X.w) X.A (.compLoop (.ListComp elt [⟨tg,iter,ifs,0⟩] scope pos) 0 (.ref it) (.ref D) (compEnvC scope cl C X.env))
   (compPost (model X.prog X.w) X.A X.xe (some (assign (.Name y pos') X.env)) (fun _ s'=>wpAny (model X.prog X.w) X.A (pure ():Sem Unit) (fun _ s'=>wpAny (model X.prog X.w) X.A (pure .next:Sem Flow) (SP X pins Dn) X.xe s') X.xe s') (.ref D) C) { aa with heap:=ar,toks:=aa.toks+([]:List (Str×Value)).length }:=by
  refine zey (fun n s'=>∃i ys H' its k,Inv Y [(D,{ cls:=.type "list", data:=.seq (its:List Value).toArray k })] (List.replicate xs.length none++U) H' s'/\Vals ys its/\tn i s'.heap/\(∀b∈fp,H' b=none)/\W i n ys H') ?_ m0
   ⟨0,[],H2,[],0,I0,.nil,T.keep 0 _ _ st2 (fun b hb o e=>old b o e),fun b hb=>(fpX b hb).1,w0⟩
  rintro n s3 ⟨i,ys,H3,its,k,I3,rv,st3,fr3,w3⟩
  have pinl:∀{o:Obj},∀p∈[(D,o)],p.1=D:=fun {o} p hp=>by
   have ep:p=(D,o):=by simpa using hp
   rw [ep]
  obtain ⟨gD,nD,_,_,_⟩:=I3.pin (D,_) (yq _ yO)
  rcases turn i n ys H3 w3 with ⟨stop,hz,q⟩|⟨go,hz,step⟩
  ·refine thn (T.done Y rfl rfl rfl hc i _ s3 _ H3 E' I3 (fpY pinl fr3) st3 stop) fun r s4 ⟨hr,I4⟩=>?_
   subst hr
   obtain ⟨gD4,nD4,_,_,_⟩:=I4.pin (D,_) (yq _ yO)
   obtain ⟨m4,hn4,_⟩:=id I4.loc
   have fin:∀h',Heap.SameBut C s4.heap h'->Inv X pins U (upd H3 D (.lst ys)) { s4 with heap:=h' }:=fun h' hsb=>by
    have neC:∀{b:Addr} {u:HO},H3 b=some u->b≠C:=fun e z=>by
     have:H3 C=none:=I4.free
     rw [z,this] at e;cases e
    refine I2.call' (s':={ s4 with heap:=h' }) (ch:=fp) (H':=upd H3 D (.lst ys)) I4.os ?_ ?_ I4.bare fun b hb=>⟨(fpX b hb).2.2.2.1,(fpX b hb).2.1,(fpX b hb).2.2.2.2.1,(fpX b hb).2.2.2.2.2⟩
    ·have B:=I4.base
     have ltC:∀{b:Nat} {o:Obj},aa.heap.get? b=some o->b≠C:=fun e z=>j0 (ltS e) hC z
     have neD:∀{b:Addr} {u:HO},H3 b=some u->b≠D:=fun e z=>by rw [z,nD4] at e;cases e
     refine ⟨fun b o e nn hb hx=>(hsb.2 b (ltC e)).trans (B.keep b o e nn hb hx),fun b o e nn hb hx=>?_,fun b o e nn hx=>?_,fun b o e hx=>?_,fun b xs e=>?_,fun b o u e=>?_,fun b ps e=>?_⟩
     ·obtain ⟨sl,z⟩:=B.slot b o e nn hb hx
      exact ⟨sl,(hsb.2 b (ltC e)).trans z⟩
     ·have hbD:b≠D:=yz (ltS e)
      rw [zX hbD]
      exact B.free b o e nn hx
     ·obtain ⟨o',z⟩:=B.there b o e hx
      exact ⟨o',(hsb.2 b (ltC e)).trans z⟩
     ·have z:=B.tups b xs e
      rw [zX (neD z)];exact z
     ·have z:=B.frzs b o u e
      rw [zX (neD z)];exact z
     ·obtain ⟨more,z⟩:=B.tbls b ps e
      exact ⟨more,by rw [zX (neD z)];exact z⟩
    ·intro a o e
     by_cases ha:a=D
     ·subst ha
      rw [yC] at e
      cases e
      exact ⟨hz,its,k,rv,(hsb.2 _ hDC).trans gD4⟩
     ·rw [zX ha] at e
      have keepNe:∀b u,H3 b=some u->(upd H3 D (.lst ys)) b=some u:=fun b u z=>by
       have hb:b≠D:=fun w=>by rw [w,nD4] at z;cases z
       rw [zX hb];exact z
      refine (I4.hok a o e).stay (fun b u hb z=>(hsb.2 b ?_).trans z) (fun b z=>keepNe b _ z) fun b xs z=>keepNe b _ z
      rcases hb with hb|hb
      ·rw [hb];exact neC e
      ·exact neC hb
   have hCD:C≠D:=fun z=>hDC z.symm
   have IX:=fin s4.heap ⟨rfl,fun _ _=>rfl⟩
   obtain ⟨oC,eC,pC,gC,rC⟩:=id hn4
   have hCn:upd H3 D (.lst ys) C=none:=by rw [zX hCD];exact I4.free
   have hCe:∀b o,aa.heap.get? b=some o->b≠C:=fun b o e z=>j0 (ltS e) hC z
   have hCl:C≠X.env.locals:=fun z=>by
    obtain ⟨m2,hn2,_⟩:=id I2.loc
    obtain ⟨o2,_,_,g2,_⟩:=hn2
    exact hCe _ _ g2 z.symm
   have hCf:C∉X.fs:=I2.nofs (by rw [hD];omega)
   have IP:Inv X (pins++[(C,oC)]) U (upd H3 D (.lst ys)) s4:=IX.pins_of fun p hp=>by
    rcases jv.mp hp with hp|hp
    ·exact IX.pin p (yq _ hp)
    ·have ep:p=(C,oC):=by simpa using hp
     subst ep
     exact ⟨gC,hCn,hCl,hCf,fun v z=>by rw [rC.1] at z;cases z⟩
   show wpAny _ _ (assign (.Name y pos') X.env (.ref D)) _ _ s4
   have hst:wpAny (model X.prog X.w) X.A (assign (.Name y pos') X.env (.ref D)) (fun _ s5=>Inv X (pins++[(C,oC)]) (U.set iy (some (.ref D))) (upd H3 D (.lst ys)) s5) X.xe s4:=wpAny_assign_Name (zbD IP hNX hiy hy (v:=.ref D) rfl (fun s5 I5=>I5) hfy)
   refine thn hst fun _ s5 I5=>?_
   have g5:=(I5.pin (C,oC) (yq _ (yq _ yO))).1
   refine ⟨m4,⟨oC,eC,pC,g5,rC⟩,fun h'' hsb=>zM (zM ⟨_,_,?_,q D nD4⟩)⟩
   exact (I5.pins_of (pins':=pins) fun p hp=>I5.pin p (yq _ (jW _ hp))).turned (it:=C) (t':=s5.toks) (fun b o hb e=>(hsb.2 b hb).trans e) hCn hCl
    (.inr (by have:=I2.sz;rw [hD] at this;omega)) (fun a c ha z=>by
     obtain ⟨v',o',ho',_⟩:=I2.cell a c ha
     exact hCe _ _ ho' z) (fun p hp=>hCe _ _ (I2.pin p hp).1)
  ·refine thn (T.item Y rfl rfl rfl hc i _ s3 _ H3 E' I3 (fpY pinl fr3) st3 go) fun r s4 ⟨u,hr,h4⟩=>?_
   subst hr
   refine thn h4 fun _ s5 ⟨z,H5,I5,r5,y5,st5,fr5⟩=>?_
   have I5':=I5.pinned (fpY pinl fr5) (T.obj _ _ st5)
   have pgx:PG Y tg gt:=hgt cl C aa H2 fp E'
   have peY:PE Y elt te:=PE.nox (X:=Y) (he cl C aa H2 fp)
   have ptY:PTs Y ifs tt:=PTs.nox (X:=Y) (hif cl C aa H2 fp)
   refine thn (pgx _ s5 (List.replicate xs.length none++U) H5 z u _ I5' r5 (step z _ y5)) fun _ s6 ⟨aD,H6,I6,own,e1,e2,q6⟩=>?_
   subst e1
   have wk:∀(j:Nat) v,(List.replicate xs.length none++U)[j]?=some (some v)->(own++U)[j]?=some (some v):=fun j v e=>by
    by_cases hlt:j<xs.length
    ·rw [we (by simpa using hlt),List.getElem?_replicate] at e
     simp [hlt] at e
    ·rw [jZ (by simp;omega)] at e
     rw [jZ (by omega),e2]
     simpa using e
   have wl:(List.replicate xs.length none++U).length=(own++U).length:=by simp [e2]
   refine thn (ptY _ s6 _ _ _ I6 q6) fun b s7 ⟨H7,I7,q7⟩=>?_
   cases b with
   | true =>
    refine thn (peY _ s7 _ _ _ I7 q7) fun uy s7 ⟨y,H7,I7,ry,m',hm,w7⟩=>?_
    obtain ⟨gD7,nD7,_,_,_⟩:=I7.pin (D,_) (yq _ (jW _ yO))
    refine wpAny_list_append_plain ⟨k,gD7⟩ (fun h' hpl hsb=>?_) (by rw [yx,<-rv.length];exact hz)
    obtain ⟨k',gD'⟩:=hpl
    have I8:Inv Y [] (own++U) H7 { s7 with heap:=h' }:=(I7.pins_of (pins':=[]) (fun p hp=>nomatch hp)).turned (it:=D) (t':=s7.toks) (fun b o hb e=>(hsb.2 b hb).trans e) nD7 hDC
     (.inr (by show aa.heap.objs.size<=D;omega)) (fun a c hy hz'=>by
      obtain ⟨v',o',ho',_⟩:=I2.cell a c (hcl1 a c hy)
      exact yz (ltS ho') hz') (fun p hp=>by simp [Y,cxNH] at hp)
    have I9:Inv Y [] (List.replicate xs.length none++U) H7 { s7 with heap:=h' }:=I8.weak wl wk
    have pinOf:∀b∈fp,∃o,s5.heap.get? b=some o/\s7.heap.get? b=some o/\H7 b=none:=fun b hb=>by
     obtain ⟨o,e,_⟩:=T.obj _ _ st5 b hb
     have q:=I7.pin (b,o) (yq _ (yq _ (zaf hb e)))
     exact ⟨o,e,q.1,q.2.1⟩
    have fpD:∀b∈fp,b≠D:=fun b hb=>by
     obtain ⟨o,ho,_⟩:=T.obj 0 _ st2 b hb
     exact yz (ltS ho)
    have eT:its.toArray.push uy=(its++[uy]).toArray:=by simp
    rw [eT] at gD'
    refine ⟨m',hm,i+1,ys++[y],H7,its++[uy],k',I9.pins_of (hpinD gD' nD7 fun v e=>by cases e),rv.append (.cons ry .nil),T.keep (i+1) _ _ st5 fun b hb o e=>?_,fun b hb=>?_,w7⟩
    ·obtain ⟨o',e1,e2,_⟩:=pinOf b hb
     rw [e] at e1
     cases e1
     exact (hsb.2 b (fpD b hb)).trans e2
    ·obtain ⟨_,_,_,q⟩:=pinOf b hb
     exact q
   | false =>
    obtain ⟨m',hm,w7⟩:=q7
    obtain ⟨gD7,nD7,_,_,_⟩:=I7.pin (D,_) (yq _ (jW _ yO))
    have I9:Inv Y [] (List.replicate xs.length none++U) H7 s7:=(I7.pins_of (pins':=[]) (fun p hp=>nomatch hp)).weak wl wk
    have pinOf:∀b∈fp,∃o,s5.heap.get? b=some o/\s7.heap.get? b=some o/\H7 b=none:=fun b hb=>by
     obtain ⟨o,e,_⟩:=T.obj _ _ st5 b hb
     have q:=I7.pin (b,o) (yq _ (yq _ (zaf hb e)))
     exact ⟨o,e,q.1,q.2.1⟩
    refine ⟨m',hm,i+1,ys,H7,its,k,I9.pins_of (hpinD gD7 nD7 fun v e=>by cases e),rv,T.keep (i+1) _ _ st5 fun b hb o e=>?_,fun b hb=>?_,w7⟩
    ·obtain ⟨o',e1,e2,_⟩:=pinOf b hb
     rw [e] at e1
     cases e1
     exact e2
    ·obtain ⟨_,_,_,q⟩:=pinOf b hb
     exact q
 exact codeAny_compStart_list loop (T.self X.A 0 _ _ _ (T.keep 0 _ _ st2 (fun b hb o e=>old b o e)) loop)
end L2
namespace Mi
open PySem L2 PySem.W PySem.Spec
section
variable {X:Cx}{Er:XK}{pos:Pos}
def compLI (ft:ze->Mo Bool) (fe:ze->Mo PV) (env:ze):List PV->List PV->Mo PV
 | [],ys,st=>.ok (.ref st.length) (st++[.lst ys])
 | x::xs,ys,st=>(noErr (ft (some x::env) st)).bind fun b st1=>if b=true then (noErr (fe (some x::env) st1)).bind fun y st2=>compLI ft fe env xs (ys++[y]) st2 else compLI ft fe env xs ys st1
def compRI (ft:ze->Mo Bool) (fe:ze->Mo PV) (env:ze) (n:Nat):Nat->Nat->List PV->Mo PV
 | 0,_,_,_=>.stuck
 | m+1,i,ys,st=>yh st n fun xs=>match xs[i]? with
  | none=>.ok (.ref st.length) (st++[.lst ys])
  | some x=>(noErr (ft (some x::env) st)).bind fun b st1=>if b=true then (noErr (fe (some x::env) st1)).bind fun y st2=>compRI ft fe env n m (i+1) (ys++[y]) st2 else compRI ft fe env n m (i+1) ys st1
def compSI (ft:ze->Mo Bool) (fe:ze->Mo PV) (env:ze):Sq->Mo PV
 | .im xs,st=>if xs.length<=lim then compLI ft fe env xs [] st else .stuck
 | .rf n,st=>compRI ft fe env n (lim+1) 0 [] st
def jR (src:ze->Mo Sq) (ft:ze->Mo Bool) (fe:ze->Mo PV):ze->Mo PV:=fun env st=>(src env st).bind fun q st1=>compSI ft fe env q st1
def zf1 {src:ze->Mo Sq}{ft:ze->Mo Bool}{fe:ze->Mo PV}(U:L2.St) (H:Hp) (Q:VK) (hh:tM X.K X.mg Er (jR src ft fe) U H Q):zcL (tMI X Er src) (wu 0) (tMB X.K X.mg XN ft) (tM X.K X.mg XN fe) 1 U H Q:=by
 obtain ⟨env,st,ρ,re,rs,h⟩:=hh
 refine ⟨env,st,ρ,re,rs,h.then fun aq H0 q st0 e0 s0 h0 J wk=>?_⟩
 cases q with
 | im xs =>
  obtain ⟨hl,h0⟩:=Out.ifp h0
  obtain ⟨w1,w2,w3⟩:=wk
  refine ⟨fun i m ys H=>m=xs.length-i/\i<=xs.length/\ys.length<=i/\∃ps st ρ,Rs X.K X.mg ρ H ps ys/\StR X.K X.mg ρ H st/\Ext aq H0 ρ H/\Out X.K X.mg ρ H (compLI ft fe env (xs.drop i) ps st) (gV X.K X.mg Q) Er,⟨xs.length,by simp,ju _,ju _,[],st0,aq,rfl,s0,Ext.refl,h0⟩,?_⟩
  rintro i m ys H ⟨rfl,hi,hy,ps,st,ρ,rps,rs,ex,h⟩
  by_cases hlt:i<xs.length
  ·refine .inr ⟨w1 i ρ H ex hlt,yQ (by omega),fun v H' y=>?_⟩
   obtain ⟨x,hx,ex2,s2,rx⟩:=w3 i ρ H st v H' ex rs hlt y
   have hd:xs.drop i=x::xs.drop (i+1):=by
    rw [jJ hlt]
    have:=(yE.mp hx).2
    rw [this]
   rw [hd] at h
   simp only [compLI] at h
   have re2:EnvR X.K X.mg ρ H' (some x::env) (some v::U):=(re.ext (e0.trans (ex.trans ex2))).cons rx
   refine ⟨[some v],rfl,rfl,some x::env,st,ρ,re2,s2,wR (Out.ext h ex2) fun am H3 b st3 e3 s3 h3=>?_⟩
   cases b with
   | true=>exact ⟨_,st3,am,re2.ext e3,s3,wR h3 fun aE H4 y st4 e4 s4 h4 v4 r4=>⟨xs.length-(i+1),by omega,rfl,hlt,by simp;omega,ps++[y],st4,aE,Rs.snoc r4 (Rs.ext ((ex2.trans e3).trans e4) ps rps),s4,((ex.trans ex2).trans e3).trans e4,h4⟩⟩
   | false=>exact ⟨xs.length-(i+1),by omega,rfl,hlt,by omega,ps,st3,am,Rs.ext (ex2.trans e3) ps rps,s3,(ex.trans ex2).trans e3,h3⟩
  ·have e:i=xs.length:=by omega
   subst e
   rw [List.drop_length] at h
   exact .inl ⟨w2 _ ρ H ex (yg _),yQ (by omega),fun l hl=>Out.newList h rs rps hl⟩
 | rf n =>
  obtain ⟨a,ha,rfl⟩:=wk
  refine ⟨fun i m ys H=>m+i=lim+1/\ys.length<=i/\∃ps st ρ,Rs X.K X.mg ρ H ps ys/\StR X.K X.mg ρ H st/\Ext aq H0 ρ H/\ρ[n]?=some a/\Out X.K X.mg ρ H (compRI ft fe env n m i ps st) (gV X.K X.mg Q) Er,⟨lim+1,rfl,ju _,[],st0,aq,rfl,s0,Ext.refl,ha,h0⟩,?_⟩
  rintro i m ys H ⟨hm,hy,ps,st,ρ,rps,rs,ex,ha,h⟩
  cases m with
  | zero=>exact h.elim
  | succ m =>
   obtain ⟨xs,hn,h⟩:=yW h
   obtain ⟨vs,hH,hR⟩:=rs.addr hn ha
   cases hx:xs[i]? with
   | none =>
    simp only [hx] at h
    have:vs.length<=i:=by rw [<-hR.len];exact za2.mp hx
    exact .inl ⟨⟨vs,SqL.of hH,this⟩,yQ (by omega),fun l hl=>Out.newList h rs rps hl⟩
   | some x =>
    simp only [hx] at h
    obtain ⟨v,hv,rv⟩:=hR.get hx
    refine .inr ⟨⟨vs,v,SqL.of hH,hv⟩,yQ (by omega),fun v' H' y=>?_⟩
    obtain ⟨e1,y⟩:=y
    subst e1
    have e2:=y vs (SqL.of hH)
    rw [hv] at e2
    cases e2
    have re2:EnvR X.K X.mg ρ H' (some x::env) (some v::U):=(re.ext (e0.trans ex)).cons rv
    refine ⟨[some v],rfl,rfl,some x::env,st,ρ,re2,rs,wR h fun am H3 b st3 e3 s3 h3=>?_⟩
    cases b with
    | true=>exact ⟨_,st3,am,re2.ext e3,s3,wR h3 fun aE H4 y st4 e4 s4 h4 v4 r4=>⟨m,jL m,by omega,by simp;omega,ps++[y],st4,aE,Rs.snoc r4 (Rs.ext (e3.trans e4) ps rps),s4,(ex.trans e3).trans e4,e4.get (e3.get ha),h4⟩⟩
    | false=>exact ⟨m,jL m,by omega,by omega,ps,st3,am,Rs.ext e3 ps rps,s3,ex.trans e3,e3.get ha,h3⟩
def zf2 {elt iter c:Expr} {x:Str} {px:Pos} {scope:Scope} {src:ze->Mo Sq} {ft:ze->Mo Bool} {fe:ze->Mo PV} {N:List Str} (hc:X.calm=true) (S:CompSN X.env.scope scope [x]) (eN:X.N=N) (hN0:((".0" : Str)::([x]++N)).Nodup)
  (hi:MI X Er (.Name x px) iter src) (hif:∀cl C aa ag fp,MT (cxN X scope cl [x] C aa ag fp (fun _ _=>False)) XN c ft) (he:∀cl C aa ag fp,ME (cxN X scope cl [x] C aa ag fp (fun _ _=>False)) XN elt fe)
  (hx:scope.names.lookup x=some .local:=by rfl) (hs:∀v,foldedSetIterable iter X.env v=pure v:=by intro _;rfl):ME X Er (.ListComp elt [⟨.Name x px,iter,[c],0⟩] scope pos) (jR src ft fe):=by
 have hN:([x]++X.N).Nodup:=by rw [eN];exact (jc.mp hN0).2
 have pgx:∀cl C aa ag fp E,PG (cxN X scope cl [x] C aa ag fp E) (.Name x px) (wu 0):=fun cl C aa ag fp E=>zae (X:=cxN X scope cl [x] C aa ag fp E) (i:=0) hN rfl (.inl (wH hx)) (.inr (wH hx))
 exact PE.weak (zjZ (te:=tM X.K X.mg XN fe) (tt:=tMB X.K X.mg XN ft) hc S eN hN0 hi pgx (fun cl C aa ag fp=>zex (hif cl C aa ag fp)) (fun cl C aa ag fp=>he cl C aa ag fp) hs) fun U H Q hh=>zf1 U H Q hh
@[simp] def zdc {src:ze->Mo Sq}{ft:ze->Mo Bool}{fe:ze->Mo PV}(env:ze) (st:Sto):jR src ft fe env st=(src env st).bind fun q st1=>compSI ft fe env q st1:=(rfl)
end
section
variable {K:Frag}{h:Heap}{mg:Str->Option Value}{od:Option Addr}{f:Addr}
def zf3 {O t t2:Addr} {wd k1 k2 k3 y:Str} {u1 u2 u3:Tok} {n n2:Nat} {od2:Option Addr} {sl sl2:Array (Option Value)} (X:K.In h) (G:h.Ns mainGlobals mg) (e:nsIn K O wd=some (some (.ref t))) (l1:K.lookup t=some ⟨.type "tuple", od,.seq #[.ref t2,.ref f] n,sl⟩)
  (l2:K.lookup t2=some ⟨.type "tuple", od2,.seq #[.str k1 u1,.str k2 u2,.str k3 u3] n2,sl2⟩) (a:nsIn K mainGlobals y=some (some (.ref f))):∃u v,nsIn K O wd=some (some u)/\RelV v u/\∀ρ H,R K mg ρ H (.tup [.tup [.str k1,.str k2,.str k3],.fn y]) v:=by
 refine ⟨_,.ref t,e,rfl,zaF (xs:=[.tup [.str k1,.str k2,.str k3],.fn y]) (vs:=[.ref t2,.ref f]) l1 rfl (by simp) (.cons rfl (.cons rfl .nil)) fun ρ H=>?_⟩
 exact ⟨_,_,rfl,zaF (xs:=[.str k1,.str k2,.str k3]) (vs:=[.str k1,.str k2,.str k3]) l2 rfl (by simp) (.cons ⟨_,rfl⟩ (.cons ⟨_,rfl⟩ (.cons ⟨_,rfl⟩ .nil))) (fun ρ H=>⟨_,_,rfl,rfl,_,_,rfl,rfl,_,_,rfl,rfl,rfl⟩) ρ H,_,_,rfl,⟨f,rfl,mg_of X G a⟩,rfl⟩
end
section
variable {X:Cx}{Er:XK}{pos:Pos}
end
section
variable {X:Cx}{Er:XK}{pos:Pos}
end
section
variable {X:Cx}{Er:XK}{pos pos':Pos}{o i value:Expr}{fo fi fv:ze->Mo PV}
end
end Mi
namespace L2
open PySem PySem.Spec PyProof.Rows PySem.W
section
variable {X:Cx}
end
end L2
namespace Mi
open PySem L2 PySem.W PySem.Spec
section
variable {X:Cx}{Er:XK}
end
section
variable {X:Cx}{K:Frag}{mg:Str->Option Value}
end
end Mi
namespace Mi
open PySem L2 PySem.W
section
variable {α:Type}{g g':ze->Mo Fl}{f fa fb fc:ze->Mo PV}{fs:ze->Mo (List PV)}{t ta tb:ze->Mo Bool}{e e1:ze}{st s1 s2 s3:Sto}{x y v:PV}{xs:List PV}{b:Bool}
def zB {X:Res Fl}(h:g e st=.ok (.nx e1) s1) (h':g' e1 s1=X):zv g g' e st=X:=by rw [zfc,h,zL,zl2,h']
def jf (h:g e st=.ok (.rt v) s1):zv g g' e st=.ok (.rt v) s1:=by rw [zfc,h,zL,zl3]
def zO {i:Nat}(h:f e st=.ok v s1):zC i f e st=.ok (.nx (e.set i (some v))) s1:=by rw [zl4,h,zL]
def wW (h:f e st=.ok v s1):y7 f e st=.ok (.nx e) s1:=by rw [zl5,h,zL]
def yl (h:f e st=.ok v s1):zY f e st=.ok (.rt v) s1:=by rw [zl6,h,zL]
def yL {X:Res Fl}(h:t e st=.ok true s1) (h':g e s1=X):ya t g g' e st=X:=by rw [zfd,h,zL,zE rfl,h']
def zf4 {X:Res Fl}(h:t e st=.ok false s1) (h':g' e s1=X):ya t g g' e st=X:=by rw [zfd,h,zL,zN (by simp),h']
def yG (h:t e st=.ok false s1):ya t g yd e st=.ok (.nx e) s1:=zf4 h (zl1 ..)
def zh {i:Nat}(h:e[i]?=some (some v)):zd i e st=.ok v st:=by rw [zlN,h]
def zm {op:PV->PV->Mo PV}{X:Res PV}(h:fa e st=.ok x s1) (h':fb e s1=.ok y s2) (h2:op x y s2=X):zf op fa fb e st=X:=by rw [zlO,h,zL,h',zL,h2]
def zf5 {op:PV->Mo PV}{X:Res PV}(h:fa e st=.ok x s1) (h2:op x s1=X):jy op fa e st=X:=by rw [zlP,h,zL,h2]
def zG {m:List PV->Mo PV}{X:Res PV}(h:fs e st=.ok xs s1) (h2:m xs s1=X):zu m fs e st=X:=by rw [zlY,h,zL,h2]
def jF (h:f e st=.ok x s1) (h':fs e s1=.ok xs s2):zc f fs e st=.ok (x::xs) s2:=by rw [zlS,h,zL,h',zL]
def jS:zk e st=.ok [] st:=(rfl)
def zZ (h:f e st=.ok x s1):zc f zk e st=.ok [x] s1:=jF h jS
def zQ (h:f e st=.ok x s1) (h':fa e s1=.ok y s2):zc f (zc fa zk) e st=.ok [x,y] s2:=jF h (zZ h')
def zK (h:fs e st=.ok xs s1) (hl:xs.length<=1000000):zx fs e st=.ok (.tup xs) s1:=by rw [zlT,h,zL,zE hl]
def jm (h:fs e st=.ok xs s1) (hl:xs.length<=1000000):yR fs e st=.ok (.ref s1.length) (s1++[.lst xs]):=by rw [zlU,h,zL,zE hl]
def yb (h:f e st=.ok (.bl b) s1):mB f e st=.ok b s1:=by rw [zlQ,h,zL,zc5]
def zbn (h:ta e st=.ok false s1):jM ta tb e st=.ok false s1:=by rw [ze9,h,zL,zN (by simp)]
def zaq (h:ta e st=.ok true s1) (h':tb e s1=.ok b s2):jM ta tb e st=.ok b s2:=by rw [ze9,h,zL,zE rfl,h']
def zf6 (h:ta e st=.ok true s1):jn ta tb e st=.ok true s1:=by rw [zfa,h,zL,zE rfl]
def zbo (h:ta e st=.ok false s1) (h':tb e s1=.ok b s2):jn ta tb e st=.ok b s2:=by rw [zfa,h,zL,zN (by simp),h']
def zni (h:ta e st=.ok b s1):za8 ta e st=.ok (!b) s1:=by rw [zlR,h,zL]
def znj {X:Res PV}(h:fa e st=.ok (.bl true) s1) (h':fb e s1=X):zbV fa fb e st=X:=by rw [zfb,h,zL,zc5,zL,zE rfl,h']
def zcc {lo hi:Option Int}{fl fu:ze->Mo (Option Int)}{X:Res PV}(h:fa e st=.ok x s1) (hl:fl e s1=.ok lo s2) (hu:fu e s2=.ok hi s3) (h':oSl x lo hi s3=X):jE fa fl fu e st=X:=by rw [zlV,h,zL,hl,zL,hu,zL,h']
def zbp {i:Int}(h:f e st=.ok (.int i) s1):pSome f e st=.ok (some i) s1:=by rw [zlW,h,zL,zlX]
def zcd:pNone e st=.ok none st:=(rfl)
def wB {op:PV->PV->Mo PV}{n:Nat}{ys:List PV}{X:Res PV}(h:fa e st=.ok (.ref n) s1) (hl:s1[n]?=some (.lst ys)) (h':fb e s1=.ok y s2) (h2:op (.ref n) y s2=X):yP op fa fb e st=X:=by
 rw [zmb,h,zL,zmc]
 simp only [yh,hl,zL]
 rw [h',zL,h2]
def zce (i j:Int):zI (.int i) (.int j) st=.ok (.int (i+j)) st:=(rfl)
def wn (i j:Int):jk (.int i) (.int j) st=.ok (.int (i-j)) st:=(rfl)
def yN (i j:Int) (h:j≠0):zH (.int i) (.int j) st=.ok (.int (yF i j)) st:=by show (if _ then _ else _)=_;rw [zE (by simpa using h)]
def j4 (i j:Int) (h:j≠0) (h2:j.natAbs<2 ^ 200):yr (.int i) (.int j) st=.ok (.int (y6 i j)) st:=by
 show (if _ then _ else _)=_
 rw [zE]
 simp only [cDv,jK,zbC]
 exact ⟨h,h2⟩
def znk (i j:Int):wM (.int i) (.int j) st=.ok (.bl (decide (i<j))) st:=(rfl)
def znl (i j:Int):oGt (.int i) (.int j) st=.ok (.bl (decide (j<i))) st:=(rfl)
def znm (i j:Int):zS (.int i) (.int j) st=.ok (.bl (decide (i=j))) st:=by simp [Mi.plain,dep,eqP];rfl
def znn (i j:Str):zS (.str i) (.str j) st=.ok (.bl (decide (i=j))) st:=by simp [Mi.plain,dep,eqP];rfl
def zno (i j:Int) (h:cMul i j=true):yK (.int i) (.int j) st=.ok (.int (i*j)) st:=by rw [zmO,zE h]
def yi {m:Nat}{n:Nat}{r:Sto}(hl:xs.length=m) (h:g (xs.map some++List.replicate (n-m) none) st=.ok (.rt v) r):yp m n g xs st=.ok v r:=by
 unfold yp
 rw [zE hl,h,zL,zl7]
end
end Mi
namespace Mi
open PySem L2 PySem.W PySem.Spec
def nst:Expr->Bool
 | .Starred _ _=>false
 | _=>true
def znp {e:Expr}{es:List Expr}{env:Env}(h:nst e=true):St1 e es env:=by cases e<;>first|rfl|cases h
def zg {X:Cx}{Er:XK}{e:Expr}{es:List Expr}{fa:ze->Mo PV}{fs:ze->Mo (List PV)}(ha:ME X Er e fa) (hr:MA X Er es fs) (hs:nst e=true:=by rfl):MA X Er (e::es) (zc fa fs):=zeT ha hr (znp hs)
section
variable {X:Cx}{K:Frag}{mg:Str->Option Value}{Er:XK}{e o:Expr}{pos apos cpos:Pos}{fo fa:ze->Mo PV}{x:Str}{h:Heap}
def znq {zs:List Str} (h:∃a,X.mg x=some (.ref a)/\∀ρ H,R X.K X.mg ρ H (.tup (zs.map PV.str)) (.ref a)) (hg:Gl X x:=by rfl) (hd:(x==("__debug__" : Str))=false:=by decide):ME X Er (.Name x pos) (mC (.tup (zs.map PV.str))):=let ⟨a,h,r⟩:=h;zkL (v:=.ref a) h rfl r hg hd
def strVs:List Value->Option (List Str)
 | []=>some []
 | .str z _::r=>(strVs r).map (z::·)
 | _::_=>none
def zf7:∀{us:List Value}{zs:List Str},strVs us=some zs->Vals (zs.map V.str) us
 | [],zs,h=>by cases h;exact .nil
 | u::us,zs,h=>by
  cases u with
  | str z t =>
   simp only [strVs,Option.map_eq_some_iff] at h
   obtain ⟨r,hr,rfl⟩:=h
   exact .cons ⟨_,rfl⟩ (zf7 hr)
  | _=>cases h
def znr {a:Addr} {its:Array Value} {n:Nat} {od:Option Addr} {sl:Array (Option Value)} {zs:List Str} (X:K.In h) (G:h.Ns mainGlobals mg) (e:nsIn K mainGlobals x=some (some (.ref a))) (l:K.lookup a=some ⟨.type "tuple", od,.seq its n,sl⟩) (hz:strVs its.toList=some zs) (hs:its.size<=sizeLine) :
  ∃a,mg x=some (.ref a)/\∀ρ H,R K mg ρ H (.tup (zs.map PV.str)) (.ref a) :=
 ⟨a,mg_of X G e,fun ρ H=>⟨a,zs.map V.str,rfl,.inr ⟨_,its,n,l,rfl,rfl,hs,zf7 hz⟩,zdb⟩⟩
end
end Mi
namespace PySem
section
variable {M:Model}{A:Around}{E:Value->Shared->Prop}
variable {nm q nm' q':Str}{C N B N':Addr}{bs bm bs' bm':List Value}{hdct hdct':Bool}{sn sn':List Str}{sub sub':List Value}{ab ab':Bool}{col col':Option Bool}{dd dd':Option Addr}{k0 k1 k2 k3 k5 k0' k1' k2' k3' k5':Option Value}{newId newId':String}
end
end PySem
namespace L2
open PySem PySem.Spec PyProof.Rows PySem.W
structure ExSub (K:Frag) (C B:Addr):Prop where
 of:ExOf K C
 sub:mroIn K C (.ref B)=some true
end L2
namespace Mi
open PySem L2 PySem.W PySem.Spec
section
variable {X:Cx}{Er:XK}{pos:Pos}
end
end Mi
namespace L2
open PySem PySem.Spec PyProof.Rows PySem.W
end L2
namespace Mi
open PySem L2 PySem.W PySem.Spec
section
variable {X:Cx}{Er:XK}{pos:Pos}{o:Expr}{sts:List Stmt}{gb:ze->Mo Fl}{fo:ze->Mo PV}{fs:ze->Mo (List PV)}
end
end Mi
namespace L2
open PySem PySem.Spec PyProof.Rows PySem.W PySem.Builtin PySem.Builtin.ObjectAttr
end L2
namespace Mi
open PySem L2 PySem.W PySem.Spec
section
variable {K:Frag}{mg:Str->Option Value}{h:Heap}{C:Addr}
end
section
variable {P:Program}{W:World}{A:Around}{s:Shared}
end
section
variable {X:Cx}{K:Frag}{mg:Str->Option Value}{ρ:List Addr}{pins:List (Addr×Obj)}{U:L2.St}{H:Hp}{s:Shared}{st:Sto}
end
section
variable {X:Cx}{K:Frag}{mg:Str->Option Value}{Er:XK}{e o:Expr}{es:List Expr}{pos p apos:Pos}{fs:ze->Mo (List PV)}{fo fa:ze->Mo PV}
def zcf:PV->PV->Mo PV
 | .ref n,.int i,st=>if i=0 then yh st n fun xs=>match xs with
  | y::r=>.ok y (st.set n (.lst r))
  | []=>.stuck
  else .stuck
 | _,_,_=>.stuck
def zns {cpos:Pos} (ho:ME X Er o fo) (he:ME X Er e fa) (hbase:attributeBase o "pop" X.env (eval o X.env)=eval o X.env:=by rfl)
  (hfew:((backTo cpos (starEach [e] X.env)).all (fun x=>!x.1)&&(backToKw cpos (keywordEach [] X.env)).all (fun x=>x.1.isSome)&&decide ([e].length+([]:List Keyword).length+(if ([]:List Keyword).isEmpty then 0 else 1)<30))=true:=by rfl)
  (hline:(apos.endLine==cpos.line)=true:=by rfl) (hs:starEach [e] X.env=(false,eval e X.env)::starEach [] X.env:=by rfl) (hpl:(backTo cpos (starEach [] X.env)).any (·.1)=false:=by rfl):ME X Er (.Call (.Attribute o "pop" apos) [e] [] cpos) (yP zcf fo fa) :=
 PE.weak (zcE PySem.F.plainAttrs_list PySem.F.slot_list_pop PySem.F.type_list_pop zjP ho (zbJ he zbI hs) hbase hfew hline hs hpl) fun U H Q ⟨env,st,ρ,re,rs,h⟩=>⟨env,st,ρ,re,rs,h.then fun af H1 x st1 e1 s1 h1 v rv=>by
  obtain ⟨n,xs,rfl,hn,h1⟩:=zc3 h1
  obtain ⟨p,vs,rfl,hp,k1,k2⟩:=R.refL s1 rv hn
  refine ⟨.inl ⟨rfl,vs,SqL.of k1⟩,env,st1,af,re.ext e1,s1,h1.then fun ao H2 y st2 e2 s2 h2 w rw=>?_⟩
  cases y with
  | int i =>
   cases rw
   obtain ⟨hi,h2⟩:=Out.ifp h2
   subst hi
   obtain ⟨xs2,hn2,h2⟩:=yW h2
   obtain ⟨p',vs2,e3,hp2,k3,k4⟩:=R.refL s2 (R.ext e2 _ rv) hn2
   cases e3
   cases xs2 with
   | nil=>exact h2.elim
   | cons y r =>
    obtain ⟨u,us,rfl,ru,rus⟩:=k4
    have ew:Ext ao H2 ao (upd H2 p (.lst us)):=Ext.write k3 rfl
    exact ⟨p,u::us,0,0,u,rfl,rfl,k3,by decide,by decide,by simp [seqIndex?],rfl,h2 ao _ ew (s2.write hp2 ew ⟨us,yC,Rs.ext ew _ rus⟩) _ (R.ext ew y ru)⟩
  | _=>exact h2.elim⟩
end
end Mi
namespace Mi
open PySem L2 PySem.W PySem.Spec PyProof.Rows
section
variable {prog:Program}{w:World}{A:Around}{E:Value->Shared->Prop}{s:Shared}
end
section
variable {X:Cx}{Er:XK}
end
section
variable {prog:Program}{w:World}{A:Around}{E:Value->Shared->Prop}{s:Shared}
end
section
variable {prog:Program}{w:World}{A:Around}{E:Value->Shared->Prop}{s:Shared}
end
section
variable {X:Cx}{Er:XK}{o:Expr}{fo:ze->Mo PV}{p pos kp cp:Pos}{j:Nat}
end
section
variable {X:Cx}{Er:XK}
end
end Mi
namespace Mi
open PySem L2 PySem.W PySem.Spec
end Mi
namespace HT
open PySem PySem.Spec PyProof.Rows
section
variable {prog:Program}{w:World}{A:Around}{E:Value->Shared->Prop}{s:Shared}
end
end HT
namespace Mi
open PySem L2 PySem.W PySem.Spec PyProof.Rows
section
variable {X:Cx}{K:Frag}{mg:Str->Option Value}{Er:XK}{e k:Expr}{p2 pos:Pos}{fa:ze->Mo PV}{fk:ze->Mo (Option Int)}
end
section
variable {X:Cx}{K:Frag}{mg:Str->Option Value}{Er:XK}
end
end Mi
namespace Mi
open PySem L2 PySem.W PySem.Spec
section
variable {X:Cx}{Er:XK}{pos:Pos}
def znt (i:Nat) {elt iter c:Expr} {x y:Str} {px pos' spos:Pos} {scope:Scope} {src:ze->Mo Sq} {ft:ze->Mo Bool} {fe:ze->Mo PV} {M:List Str} (hc:X.calm=true) (S:CompSN X.env.scope scope [x]) (eN:Hid scope M X.N) (hN0:((".0" : Str)::([x]++M)).Nodup)
  (hi:MI X Er (.Name x px) iter src) (hif:∀cl C aa ag fp,MT (cxNH X M scope cl [x] C aa ag fp (fun _ _=>False)) XN c ft) (he:∀cl C aa ag fp,ME (cxNH X M scope cl [x] C aa ag fp (fun _ _=>False)) XN elt fe)
  (hNX:X.N.Nodup) (hiy:X.N[i]?=some y) (hy:Loc X.env.scope y) (hfy:X.fn y=true\/X.env.scope.names.lookup y=some .local)
  (hsw:swapsWith (.ListComp elt [⟨.Name x px,iter,[c],0⟩] scope pos) (some (.Name y pos')) spos.line X.env=pure true) (hx:scope.names.lookup x=some .local:=by rfl) (hs:∀v,foldedSetIterable iter X.env v=pure v:=by intro _;rfl) :
  MS X Er (.Assign [.Name y pos'] (.ListComp elt [⟨.Name x px,iter,[c],0⟩] scope pos) spos) (zC i (jR src ft fe)):=by
 have hN:([x]++M).Nodup:=(jc.mp hN0).2
 have pgx:∀cl C aa ag fp E,PG (cxNH X M scope cl [x] C aa ag fp E) (.Name x px) (wu 0):=fun cl C aa ag fp E=>zae (X:=cxNH X M scope cl [x] C aa ag fp E) (i:=0) hN rfl (.inl (wH hx)) (.inr (wH hx))
 exact PS.weak (znh (te:=tM X.K X.mg XN fe) (tt:=tMB X.K X.mg XN ft) hc S eN hN0 hi pgx (fun cl C aa ag fp=>zex (hif cl C aa ag fp)) (fun cl C aa ag fp=>he cl C aa ag fp) hNX hiy hy hfy hsw hs) fun D U H ⟨env,st,ρ,re,rs,h⟩=>by
  refine zf1 (X:=X) (Er:=Er) (src:=src) (ft:=ft) (fe:=fe) U H (fun v H2=>D.nx (U.set i (some v)) H2) ⟨env,st,ρ,re,rs,h.then fun af H1 x st1 e1 s1 h1 v rv=>?_⟩
  exact h1.now s1 (U.set i (some v)) ((re.ext e1).set i rv)
end
end Mi
namespace L2
open PySem PySem.Spec PyProof.Rows PySem.W
def znu (l:Addr) (its:Array Value) (n:Nat) (b:Addr) (o:Obj) (us:Array Value) (k:Nat) (hlong:¬(!its.isEmpty&&Builtin.List.listTooLong (its.size+us.size))=true) (hz:its.size+us.size<=sizeLine) :
  Meets (Builtin.«list.extend» ⟨[.ref l,.ref b],[]⟩) fun _ R s=>s.heap.get? l=some { cls:=.type "list", data:=.seq its n }/\(s.heap.get? b=some o/\o.cls=.type "tuple" /\ o.data=.seq us k)/\R (.ok (.ret .none)) { s with heap:=s.heap.update l (Obj.mapSeq (·++us)) }:=by
 intro prog w A R s ⟨hS,⟨ho,hc,hd⟩,hR⟩
 show wpAny _ A.in1 (Builtin.List.listExtendWith (.ref l) (.ref b) .none) _ _ s
 unfold Builtin.List.listExtendWith
 refine zt (wpAny_typeOf ⟨o,ho,hc⟩ ?_)
 have h1:(Builtin.List.listSameRef (.ref l) (.ref b)||Value.type "tuple" == Value.type "list" || Value.type "tuple" == Value.type "tuple")=true:=by simp
 simp only [h1,wb]
 unfold Builtin.List.listItems
 refine zt (zt (wpAny_seqItems ho hd (zM (zt (zt (wpAny_seqItems hS rfl (zM ?_)))))))
 rw [zN hlong]
 show wpAny _ A.in1 (updateSeq l (·++us) >>= fun _=>ret .none) _ _ s
 exact zt (wpAny_updateSeq hS rfl (zM hR) (by show its.size<=sizeLine;omega))
def znv (K:Frag):V->List V->Hp->VK->Prop:=fun x vs H Q=>∃l b xs zs,x=.ref l/\vs=[.ref b]/\H l=some (.lst xs)/\SqT K H b zs/\xs.length+zs.length<=sizeLine/\Q .non (upd H l (.lst (xs++zs)))
def znw {X:Cx}:MtM X "list.extend" fun x vs H Q=>zes x vs H Q\/znv X.K x vs H Q:=by
 intro pins s U H x vs v us Q I rx rv h
 rcases h with h|h
 ·exact zjN pins s U H x vs v us Q I rx rv h
 ·obtain ⟨l,b,xs,zs,rfl,rfl,hH,hB,hz,q⟩:=h
  cases rx
  obtain ⟨u,rfl,ru⟩:=rv.one
  cases ru
  obtain ⟨z,its,n,r,hl,e⟩:=I.lstM hH
  obtain ⟨its2,r2,⟨o,ho,hc,k,hd⟩,_⟩:=I.tuple hB
  have hl2:=r2.length
  have hsz:its.toArray.size+its2.toArray.size<=sizeLine:=by rw [yx,yx];omega
  have hlong:¬(!its.toArray.isEmpty&&Builtin.List.listTooLong (its.toArray.size+its2.toArray.size))=true:=by
   rw [notLongL hsz,Bool.and_false]
   exact Bool.false_ne_true
  refine call_meets F.slot_list_extend ⟨_,e,rfl⟩ F.entry_list_extend (F.args_list_extend_2 _ _) (znu l its.toArray n b o its2.toArray k hlong hsz) ⟨e,⟨ho,hc,hd⟩,?_⟩
  refine ⟨.non,_,I.lset (its':=its++its2) hH e (by simp) (r.append r2) ?_,rfl,q⟩
  rw [zac]
  omega
end L2
namespace Mi
open PySem L2 PySem.W PySem.Spec
section
variable {X:Cx}{Er:XK}{e o:Expr}{apos:Pos}{fo fa:ze->Mo PV}
def zcg:PV->PV->Mo PV
 | .ref n,.tup ys,st=>yh st n fun xs=>if xs.length+ys.length<=lim then .ok .non (st.set n (.lst (xs++ys))) else .stuck
 | x,y,st=>zlI x y st
def znx {cpos:Pos} (ho:ME X Er o fo) (he:ME X Er e fa) (hbase:attributeBase o "extend" X.env (eval o X.env)=eval o X.env:=by rfl)
  (hfew:((backTo cpos (starEach [e] X.env)).all (fun x=>!x.1)&&(backToKw cpos (keywordEach [] X.env)).all (fun x=>x.1.isSome)&&decide ([e].length+([]:List Keyword).length+(if ([]:List Keyword).isEmpty then 0 else 1)<30))=true:=by rfl)
  (hline:(apos.endLine==cpos.line)=true:=by rfl) (hs:starEach [e] X.env=(false,eval e X.env)::starEach [] X.env:=by rfl) (hpl:(backTo cpos (starEach [] X.env)).any (·.1)=false:=by rfl):ME X Er (.Call (.Attribute o "extend" apos) [e] [] cpos) (yP zcg fo fa) :=
 PE.weak (zcE PySem.F.plainAttrs_list PySem.F.slot_list_extend PySem.F.type_list_extend znw ho (zbJ he zbI hs) hbase hfew hline hs hpl) fun U H Q ⟨env,st,ρ,re,rs,h⟩=>⟨env,st,ρ,re,rs,h.then fun af H1 x st1 e1 s1 h1 v rv=>by
  obtain ⟨n,xs,rfl,hn,h1⟩:=zc3 h1
  obtain ⟨p,vs,rfl,hp,k1,k2⟩:=R.refL s1 rv hn
  refine ⟨.inl ⟨rfl,vs,SqL.of k1⟩,env,st1,af,re.ext e1,s1,h1.then fun ao H2 y st2 e2 s2 h2 w rw=>?_⟩
  cases y with
  | ref m =>
   obtain ⟨xs2,hn2,h2⟩:=yW h2
   obtain ⟨ys2,hm2,h2⟩:=yW h2
   obtain ⟨c,h2⟩:=Out.ifp h2
   obtain ⟨p',vs2,e3,hp2,k3,k4⟩:=R.refL s2 (R.ext e2 _ rv) hn2
   cases e3
   obtain ⟨q,ws2,rfl,hq2,k5,k6⟩:=R.refL s2 rw hm2
   have ew:Ext ao H2 ao (upd H2 p (.lst (vs2++ws2))):=Ext.write k3 rfl
   exact .inl ⟨p,q,vs2,ws2,rfl,rfl,k3,k5,by rw [<-k4.len,<-k6.len];exact yQ c,h2 ao _ ew (s2.write hp2 ew ⟨vs2++ws2,yC,Rs.ext ew _ (k4.append k6)⟩) _ rfl⟩
  | tup ys =>
   obtain ⟨xs2,hn2,h2⟩:=yW h2
   obtain ⟨c,h2⟩:=Out.ifp h2
   obtain ⟨p',vs2,e3,hp2,k3,k4⟩:=R.refL s2 (R.ext e2 _ rv) hn2
   cases e3
   obtain ⟨q,ws2,rfl,k5,k6⟩:=rw
   have ew:Ext ao H2 ao (upd H2 p (.lst (vs2++ws2))):=Ext.write k3 rfl
   exact .inr ⟨p,q,vs2,ws2,rfl,rfl,k3,k5,by rw [<-k4.len,<-k6.len];exact yQ c,h2 ao _ ew (s2.write hp2 ew ⟨vs2++ws2,yC,Rs.ext ew _ (k4.append k6)⟩) _ rfl⟩
  | _=>exact h2.elim⟩
end
end Mi
namespace FK51
open PySem L2 PySem.W Mi
def top (i:Nat):Stmt:=PySem.Challenge.pw_foreknown_k51_roots.main.body.getD i (.Pass ⟨0,0,0,0⟩)
abbrev zf8:Stmt:=top 44
abbrev zf9:Stmt:=top 45
abbrev zga:Stmt:=top 47
abbrev zgb:Stmt:=top 48
abbrev zgc:Stmt:=top 49
abbrev zdd:Stmt:=top 50
abbrev zgd:Stmt:=top 51
abbrev zge:Stmt:=top 52
abbrev zgf:Stmt:=top 56
abbrev zgg:Stmt:=top 46
abbrev zgh:Stmt:=top 58
abbrev zgi:Stmt:=top 59
abbrev zgj:Stmt:=top 57
abbrev zgk:Stmt:=top 53
abbrev zgl:Stmt:=top 54
abbrev zch:Stmt:=top 55
abbrev zgm:Stmt:=top 60
abbrev zgn:Stmt:=top 61
abbrev zde:Stmt:=inClass (top 33) 2
abbrev zdf:Stmt:=inClass (top 33) 0
abbrev zgo:Stmt:=top 34
abbrev zgp:Stmt:=top 40
abbrev zgq:Stmt:=top 41
abbrev zgr:Stmt:=top 37
abbrev zgs:Stmt:=top 36
abbrev zgt:Stmt:=top 39
abbrev zgu:Stmt:=top 42
abbrev zci:Stmt:=top 62
abbrev zcj:Stmt:=top 63
abbrev zdg:Stmt:=inClass (top 4) 0
def insOf (c:Str):Bool:=decide (c = "Op")
def excOf (c:Str):Bool:=decide (c = "NoOp")
abbrev ct_FALLING:List Str:=["down", "head", "rest", "item", "field"]
def isT:IsT where
 isx c:=false
 sub c B :=  none
 subT c n :=  none
 tyC _ _:=none
def zar:List Str:=["add", "sub", "mul", "div", "rem", "less", "same", "down", "kind", "front", "head", "rest", "many", "item", "put", "field", "set"]
def zas:List PV:=[.tup [.tup [.str "number", .str "number"],.fn "tell_add"],.tup [.tup [.str "number", .str "number"],.fn "tell_sub"],.tup [.tup [.str "number", .str "number"],.fn "tell_mul"],.tup [.tup [.str "number", .str "number"],.fn "tell_div"],.tup [.tup [.str "number", .str "number"],.fn "tell_rem"],.tup [.tup [.str "number", .str "number"],.fn "tell_less"],.tup [.tup [.str "any", .str "any"],.fn "tell_same"],.tup [.tup [.str "number"],.fn "tell_down"],.tup [.tup [.str "any"],.fn "tell_kind"],.tup [.tup [.str "any", .str "row"],.fn "tell_front"],.tup [.tup [.str "row"],.fn "tell_head"],.tup [.tup [.str "row"],.fn "tell_rest"],.tup [.tup [.str "row"],.fn "tell_many"],.tup [.tup [.str "row", .str "number"],.fn "tell_item"],.tup [.tup [.str "row", .str "number", .str "any"],.fn "tell_put"],.tup [.tup [.str "record", .str "word"],.fn "tell_field"],.tup [.tup [.str "record", .str "word", .str "any"],.fn "tell_set"]]
abbrev zdh:Bool:=true
structure Txt (w:World) (K:Frag) (mg:Str->Option Value):Prop where
 f__law_at:FnF K mg "_law_at" zf8 ["_law_script", "_law_k"]
 f__law_pick:FnF K mg "_law_pick" zf9 ["_law_cell", "_law_turn_here", "_law_many"]
 f__law_word:FnF K mg "_law_word" zga ["_law_cell"]
 f__law_value:FnF K mg "_law_value" zgb ["_law_cell"]
 f__law_atom:FnF K mg "_law_atom" zgc ["_law_cell", "_law_turn_here", "_law_scope"]
 f__law_atoms:FnF K mg "_law_atoms" zdd ["_law_cell", "_law_many", "_law_scope"]
 f__law_op:FnF K mg "_law_op" zgd ["_law_k"]
 f__law_step:FnF K mg "_law_step" zge ["_law_cell", "_law_name_here", "_law_scope", "_law_heads"]
 f__law_long:FnF K mg "_law_long" zgf ["_law_script"]
 f__law_name:FnF K mg "_law_name" zgg ["_law_seed", "_law_k"]
 f__law_turn:FnF K mg "_law_turn" zgh ["_law_cell", "_law_aim"]
 f__law_ring:FnF K mg "_law_ring" zgi ["_law_script"]
 f__law_deep:FnF K mg "_law_deep" zgj ["_law_script"]
 f__law_end:FnF K mg "_law_end" zgk ["_law_cell", "_law_way", "_law_scope", "_law_heads"]
 f__law_block:FnF K mg "_law_block" zgl ["_law_script", "_law_f", "_law_b", "_law_scope", "_law_heads", "_law_seed"]
 f__law_small:FnF K mg "_law_small" zch ["_law_script"]
 f__law_program:FnF K mg "_law_program" zgm ["_law_script"]
 f__law_lines:FnF K mg "_law_lines" zgn ["_law_block_here"]
 m_Op_falls:MtF K mg "Op" "falls" "Op.falls" zde ["self"]
 n_Op:NwF K mg "Op" "Op.__init__" zdf ["self", "word"]
 f_op_of:FnF K mg "op_of" zgo ["word"]
 f_is_falling:FnF K mg "is_falling" zgp ["step"]
 f_root_among:FnF K mg "root_among" zgq ["steps", "atom"]
 f_lines_of:FnF K mg "lines_of" zgr ["block"]
 f_is_step:FnF K mg "is_step" zgs ["line"]
 f_steps_by_name:FnF K mg "steps_by_name" zgt ["function"]
 f_root:FnF K mg "root" zgu ["function", "atom"]
 f__law_root:FnF K mg "_law_root" zci ["_law_function", "_law_atom_here"]
 f_law:FnF K mg "law" zcj ["_law_script"]
 x_NoOp:XnF K mg "NoOp" "word" "NoOp.__init__" zdg
 b_enumerate:mg "enumerate" = none
 b_isinstance:mg "isinstance" = none
 b_len:mg "len" = none
 b_list:mg "list" = none
 b_range:mg "range" = none
 b_str:mg "str" = none
 b_sum:mg "sum" = none
 b_tuple:mg "tuple" = none
 ct_FALLING:∃a,mg "FALLING" = some (.ref a)/\∀ρ H,R K mg ρ H (.tup (List.map PV.str ct_FALLING)) (.ref a)
 d_many:FldF K mg "many" insOf excOf
 d_word:FldF K mg "word" insOf excOf
 is:IsF K mg isT
 kd_OPS:∀X:Cx,X.K=K->X.mg=mg->X.w=w->KdF X "OPS" zar zas zdh
section
variable {P:Program}{w:World}{K:Frag}{mg:Str->Option Value}{base:Heap}
def zny:FnScope ["self", "word"] ["self", "word"] (zT zdg):=⟨rfl,rfl,rfl,by decide +kernel,rfl,by decide +kernel,by decide +kernel⟩
def znz (T:Txt w K mg):XOk P w K mg base "NoOp" "word" := T.x_NoOp.ok zny fun _ _ _ _ _ _ _ _ _=>zdY (zks (pv 0) (pv 1) rfl)
def zgv:FnScope ["_law_script", "_law_k", "_law_number"] ["_law_script", "_law_k"] (zT zf8):=⟨rfl,rfl,rfl,by decide +kernel,rfl,by decide +kernel,by decide +kernel⟩
def zdi:ze->Mo Fl :=
  (zY (zf zH (zf yK (zd 2) (zd 2)) (mC (.int 999983))))
def zdj:ze->Mo Fl :=
  zv (zC 2 (zf zH (zf zI (zf zI (zu zda (zc (jE (zd 0) pNone (pSome (mC (.int 63)))) zk)) (zf yK (mC (.int 977)) (zd 1))) (mC (.int 13))) (mC (.int 1000003)))) (zdi)
def zdk:ze->Mo Fl :=
  zv (ya (mB (zf wM (zd 1) (zu je (zc (zd 0) zk))))
  (zY (zf zq (zd 0) (zd 1)))
  yd) (zdj)
def yJ:List PV->Mo PV:=yp 2 3 (zdk)
def jA (T:Txt w K mg):FOk P w K mg base "_law_at" 1 yJ:=T.f__law_at.ok (k:=0) zgv fun f cdv A outer s H E hr =>
  by
 refine zA ?_ ?_
 refine yv ?_ ?_ ?_
 refine yj zbW ?_ ?_
 exact (zj 1)
 refine wj wV T.b_len wS ?_
 refine zg ?_ ?_
 exact (zj 0)
 exact zo
 refine zJ ?_
 refine ye ?_
 refine zU ?_ ?_ ?_ ?_
 exact (zW (zy hr))
 exact (zj 0)
 exact (zj 1)
 exact fun _ _=>rfl
 exact yw
 refine zA ?_ ?_
 refine zV 2 ?_ ?_
 refine zp yc ?_ ?_
 refine zp yk ?_ ?_
 refine zp yk ?_ ?_
 refine wj (zmH rfl) T.b_sum zmI ?_
 refine zg ?_ ?_
 refine zbc ?_ ?_ ?_
 exact (zj 0)
 exact zbb
 refine zaD ?_
 exact zn
 exact zo
 refine zp jo ?_ ?_
 exact zn
 exact (zj 1)
 exact zn
 exact zn
 exact zgv.nd
 refine zJ ?_
 refine ye ?_
 refine zp yc ?_ ?_
 refine zp jo ?_ ?_
 exact (zj 2)
 exact (zj 2)
 exact zn
def znA:FnScope ["_law_cell", "_law_turn_here", "_law_many"] ["_law_cell", "_law_turn_here", "_law_many"] (zT zf9):=⟨rfl,rfl,rfl,by decide +kernel,rfl,by decide +kernel,by decide +kernel⟩
def znB:ze->Mo Fl :=
  (zY (zf zH (zf zH (zf zI (zf yK (zf zH (zd 0) (mC (.int 1000003))) (zf zI (mC (.int 48271)) (zf yK (mC (.int 2)) (zd 1)))) (zf yK (mC (.int 7919)) (zd 1))) (mC (.int 999983))) (zd 2)))
def jT:List PV->Mo PV:=yp 3 3 (znB)
def wX (T:Txt w K mg):FOk P w K mg base "_law_pick" 1 jT:=T.f__law_pick.ok (k:=0) znA fun f cdv A outer s H E hr =>
  by
 refine zJ ?_
 refine ye ?_
 refine zp yc ?_ ?_
 refine zp yc ?_ ?_
 refine zp yk ?_ ?_
 refine zp jo ?_ ?_
 refine zp yc ?_ ?_
 exact (zj 0)
 exact zn
 refine zp yk ?_ ?_
 exact zn
 refine zp jo ?_ ?_
 exact zn
 exact (zj 1)
 refine zp jo ?_ ?_
 exact zn
 exact (zj 1)
 exact zn
 exact (zj 2)
def zbq:FnScope ["_law_cell", "_law_word_here", "_law_k"] ["_law_cell"] (zT zga):=⟨rfl,rfl,rfl,by decide +kernel,rfl,by decide +kernel,by decide +kernel⟩
def znC:ze->Mo Fl :=
  (zY (zd 1))
def znD:ze->Mo Fl :=
  zv (jd (iRng1 (zc (zf zI (mC (.int 1)) (zf zH (zd 0) (mC (.int 8)))) zk)) (gN 2)
  (zv (zC 1 (zf zI (zd 1) (zf zq (mC (.str "abcdefghijklmnopqrstuvwxyz")) (zf zH (zd 0) (mC (.int 26))))))
  (zC 0 (zf yr (zd 0) (mC (.int 5)))))) (znC)
def znE:ze->Mo Fl :=
  zv (zC 1 (mC (.str ""))) (znD)
def j5:List PV->Mo PV:=yp 1 3 (znE)
def zaN (T:Txt w K mg):FOk P w K mg base "_law_word" 1 j5:=T.f__law_word.ok (k:=0) zbq fun f cdv A outer s H E hr =>
  by
 refine zA ?_ ?_
 refine zV 1 ?_ ?_
 exact zD
 exact zbq.nd
 refine zA ?_ ?_
 refine wz (jD rfl rfl) rfl ?_ ?_ ?_
 refine wQ T.b_range ?_
 refine zg ?_ ?_
 refine zp yk ?_ ?_
 exact zn
 refine zp yc ?_ ?_
 exact (zj 0)
 exact zn
 exact zo
 exact (wy 2 zbq.nd)
 refine zA ?_ ?_
 refine zV 1 ?_ ?_
 refine zp yk ?_ ?_
 exact (zj 1)
 refine zU ?_ ?_ ?_ ?_
 exact (zW (zy hr))
 exact zD
 refine zp yc ?_ ?_
 exact (zj 0)
 exact zn
 exact fun _ _=>rfl
 exact zbq.nd
 refine zJ ?_
 refine zV 0 ?_ ?_
 refine zp yX ?_ ?_
 exact (zj 0)
 exact zn
 exact zbq.nd
 refine zJ ?_
 refine ye ?_
 exact (zj 1)
def zdl:FnScope ["_law_cell", "_law_some"] ["_law_cell"] (zT zgb):=⟨rfl,rfl,rfl,by decide +kernel,rfl,by decide +kernel,by decide +kernel⟩
def znF:ze->Mo Fl :=
  (zY (zf zH (zd 1) (mC (.int 2))))
def znG:ze->Mo Fl :=
  zv (ya (mB (zf zS (zf zH (zd 0) (mC (.int 7))) (mC (.int 5))))
  (zY (zbm [((zu j5 (zc (zd 1) zk)),(zf zH (zd 1) (mC (.int 5)))),((zu j5 (zc (zf zI (zf yr (zd 1) (mC (.int 3))) (mC (.int 1))) zk)),(zx (zc (zf zH (zd 1) (mC (.int 3))) (zc (zu j5 (zc (zf yr (zd 1) (mC (.int 9))) zk)) zk))))]))
  yd) (znF)
def znH:ze->Mo Fl :=
  zv (ya (mB (zf zS (zf zH (zd 0) (mC (.int 7))) (mC (.int 4))))
  (zY (zx (zc (zf zH (zd 1) (mC (.int 7))) (zc (zx (zc (zu j5 (zc (zd 1) zk)) (zc (zf jk (mC (.int 0)) (zf zH (zd 1) (mC (.int 5)))) zk))) (zc (zx zk) zk)))))
  yd) (znG)
def znI:ze->Mo Fl :=
  zv (ya (mB (zf zS (zf zH (zd 0) (mC (.int 7))) (mC (.int 3))))
  (zY (zx zk))
  yd) (znH)
def znJ:ze->Mo Fl :=
  zv (ya (mB (zf zS (zf zH (zd 0) (mC (.int 7))) (mC (.int 2))))
  (zY (zu j5 (zc (zd 1) zk)))
  yd) (znI)
def znK:ze->Mo Fl :=
  zv (ya (mB (zf zS (zf zH (zd 0) (mC (.int 7))) (mC (.int 1))))
  (zY (zf jk (zf zH (zd 1) (mC (.int 1999999999999999999))) (mC (.int 999999999999999999))))
  yd) (znJ)
def zgw:ze->Mo Fl :=
  zv (ya (mB (zf zS (zf zH (zd 0) (mC (.int 7))) (mC (.int 0))))
  (zY (zf zH (zd 1) (mC (.int 10))))
  yd) (znK)
def znL:ze->Mo Fl :=
  zv (zC 1 (zf yr (zd 0) (mC (.int 7)))) (zgw)
def zgx:ze->Mo Fl :=
  zv (zC 0 (zf zH (zd 0) (zf jN (mC (.int 10)) (mC (.int 24))))) (znL)
def zbr:List PV->Mo PV:=yp 1 2 (zgx)
def zgy (T:Txt w K mg):FOk P w K mg base "_law_value" 2 zbr:=T.f__law_value.ok (k:=1) zdl fun f cdv A outer s H E hr =>
  by
 refine zA ?_ ?_
 refine zV 0 ?_ ?_
 refine zp yc ?_ ?_
 exact (zj 0)
 refine zp wL ?_ ?_
 exact zn
 exact zn
 exact zdl.nd
 refine zA ?_ ?_
 refine zV 1 ?_ ?_
 refine zp yX ?_ ?_
 exact (zj 0)
 exact zn
 exact zdl.nd
 refine zA ?_ ?_
 refine yv ?_ ?_ ?_
 refine yj (yy (zy hr)) ?_ ?_
 refine zp yc ?_ ?_
 exact (zj 0)
 exact zn
 exact zn
 refine zJ ?_
 refine ye ?_
 refine zp yc ?_ ?_
 exact (zj 1)
 exact zn
 exact yw
 refine zA ?_ ?_
 refine yv ?_ ?_ ?_
 refine yj (yy (zy hr)) ?_ ?_
 refine zp yc ?_ ?_
 exact (zj 0)
 exact zn
 exact zn
 refine zJ ?_
 refine ye ?_
 refine zp ww ?_ ?_
 refine zp yc ?_ ?_
 exact (zj 1)
 exact zn
 exact zn
 exact yw
 refine zA ?_ ?_
 refine yv ?_ ?_ ?_
 refine yj (yy (zy hr)) ?_ ?_
 refine zp yc ?_ ?_
 exact (zj 0)
 exact zn
 exact zn
 refine zJ ?_
 refine ye ?_
 refine zP (zaN T) (hr.mono (by decide)) zR ?_
 refine zg ?_ ?_
 exact (zj 1)
 exact zo
 exact yw
 refine zA ?_ ?_
 refine yv ?_ ?_ ?_
 refine yj (yy (zy hr)) ?_ ?_
 refine zp yc ?_ ?_
 exact (zj 0)
 exact zn
 exact zn
 refine zJ ?_
 refine ye ?_
 refine zF ?_
 exact zo
 exact yw
 refine zA ?_ ?_
 refine yv ?_ ?_ ?_
 refine yj (yy (zy hr)) ?_ ?_
 refine zp yc ?_ ?_
 exact (zj 0)
 exact zn
 exact zn
 refine zJ ?_
 refine ye ?_
 refine zF ?_
 refine zg ?_ ?_
 refine zp yc ?_ ?_
 exact (zj 1)
 exact zn
 refine zg ?_ ?_
 refine zF ?_
 refine zg ?_ ?_
 refine zP (zaN T) (hr.mono (by decide)) zR ?_
 refine zg ?_ ?_
 exact (zj 1)
 exact zo
 refine zg ?_ ?_
 refine zp ww ?_ ?_
 exact zn
 refine zp yc ?_ ?_
 exact (zj 1)
 exact zn
 exact zo
 refine zg ?_ ?_
 refine zF ?_
 exact zo
 exact zo
 exact yw
 refine zA ?_ ?_
 refine yv ?_ ?_ ?_
 refine yj (yy (zy hr)) ?_ ?_
 refine zp yc ?_ ?_
 exact (zj 0)
 exact zn
 exact zn
 refine zJ ?_
 refine ye ?_
 refine znc ?_ (by simp) (by decide)
 refine zfX ?_ ?_ ?_
 refine zP (zaN T) (hr.mono (by decide)) zR ?_
 refine zg ?_ ?_
 exact (zj 1)
 exact zo
 refine zp yc ?_ ?_
 exact (zj 1)
 exact zn
 refine zfX ?_ ?_ ?_
 refine zP (zaN T) (hr.mono (by decide)) zR ?_
 refine zg ?_ ?_
 refine zp yk ?_ ?_
 refine zp yX ?_ ?_
 exact (zj 1)
 exact zn
 exact zn
 exact zo
 refine zF ?_
 refine zg ?_ ?_
 refine zp yc ?_ ?_
 exact (zj 1)
 exact zn
 refine zg ?_ ?_
 refine zP (zaN T) (hr.mono (by decide)) zR ?_
 refine zg ?_ ?_
 refine zp yX ?_ ?_
 exact (zj 1)
 exact zn
 exact zo
 exact zo
 exact znb
 exact yw
 refine zJ ?_
 refine ye ?_
 refine zp yc ?_ ?_
 exact (zj 1)
 exact zn
def zgz:FnScope ["_law_cell", "_law_turn_here", "_law_scope", "_law_k"] ["_law_cell", "_law_turn_here", "_law_scope"] (zT zgc):=⟨rfl,rfl,rfl,by decide +kernel,rfl,by decide +kernel,by decide +kernel⟩
def znM:ze->Mo Fl :=
  (zY (zx (zc (mC (.str "is")) (zc (zu zbr (zc (zf zI (zf yK (zf zH (zd 0) (zf jN (mC (.int 10)) (mC (.int 24)))) (zf zI (zd 1) (mC (.int 1)))) (zd 1)) zk)) zk))))
def zgA:ze->Mo Fl :=
  zv (ya (mB (zf wM (zd 3) (zu je (zc (zd 2) zk))))
  (zY (zx (zc (mC (.str "of")) (zc (zf zq (zd 2) (zd 3)) zk))))
  yd) (znM)
def zgB:ze->Mo Fl :=
  zv (zC 3 (zu jT (zc (zd 0) (zc (zd 1) (zc (zf zI (zu je (zc (zd 2) zk)) (mC (.int 2))) zk))))) (zgA)
def zaO:List PV->Mo PV:=yp 3 4 (zgB)
def zdm (T:Txt w K mg):FOk P w K mg base "_law_atom" 3 zaO:=T.f__law_atom.ok (k:=2) zgz fun f cdv A outer s H E hr =>
  by
 refine zA ?_ ?_
 refine zV 3 ?_ ?_
 refine zP (wX T) (hr.mono (by decide)) zR ?_
 refine zg ?_ ?_
 exact (zj 0)
 refine zg ?_ ?_
 exact (zj 1)
 refine zg ?_ ?_
 refine zp yk ?_ ?_
 refine wj wV T.b_len wS ?_
 refine zg ?_ ?_
 exact (zj 2)
 exact zo
 exact zn
 exact zo
 exact zgz.nd
 refine zA ?_ ?_
 refine yv ?_ ?_ ?_
 refine yj zbW ?_ ?_
 exact (zj 3)
 refine wj wV T.b_len wS ?_
 refine zg ?_ ?_
 exact (zj 2)
 exact zo
 refine zJ ?_
 refine ye ?_
 refine zF ?_
 refine zg ?_ ?_
 exact zD
 refine zg ?_ ?_
 refine zU ?_ ?_ ?_ ?_
 exact (zW (zy hr))
 exact (zj 2)
 exact (zj 3)
 exact fun _ _=>rfl
 exact zo
 exact yw
 refine zJ ?_
 refine ye ?_
 refine zF ?_
 refine zg ?_ ?_
 exact zD
 refine zg ?_ ?_
 refine zP (zgy T) (hr.mono (by decide)) zR ?_
 refine zg ?_ ?_
 refine zp yk ?_ ?_
 refine zp jo ?_ ?_
 refine zp yc ?_ ?_
 exact (zj 0)
 refine zp wL ?_ ?_
 exact zn
 exact zn
 refine zp yk ?_ ?_
 exact (zj 1)
 exact zn
 exact (zj 1)
 exact zo
 exact zo
def znN:FnScope ["_law_cell", "_law_many", "_law_scope"] ["_law_cell", "_law_many", "_law_scope"] (zT zdd):=⟨rfl,rfl,rfl,by decide +kernel,rfl,by decide +kernel,by decide +kernel⟩
def znO:ze->Mo Fl :=
  (zY (zu js (zc (j2 (iRng1 (zc (zd 1) zk)) (zu zaO (zc (zd 1) (zc (zf zI (mC (.int 4)) (zd 0)) (zc (zd 3) zk))))) zk)))
def wC:List PV->Mo PV:=yp 3 3 (znO)
def zaP (T:Txt w K mg):FOk P w K mg base "_law_atoms" 4 wC:=T.f__law_atoms.ok (k:=3) znN fun f cdv A outer s H E hr =>
  by
 refine zJ ?_
 refine ye ?_
 refine jO wO T.b_tuple wA ?_
 refine zg ?_ ?_
 refine zmv (N:=["_law_cell", "_law_many", "_law_scope"]) rfl (by exact ⟨rfl,by decide +kernel,by decide +kernel,rfl,by show ∀y:Str×NameKind,y∈_->y.2=NameKind.free->List.lookup y.1 (zT zdd).names=some NameKind.cell;decide +kernel⟩) rfl (by decide +kernel) ?_ ?_
 refine wQ T.b_range ?_
 refine zg ?_ ?_
 exact (zj 1)
 exact zo
 intro _ _ _ _ _
 refine zP (zdm T) (hr.mono (by decide)) zb7 ?_
 refine zg ?_ ?_
 exact (zj 1)
 refine zg ?_ ?_
 refine zp yk ?_ ?_
 exact zn
 exact (zj 0)
 refine zg ?_ ?_
 exact (zj 3)
 exact zo
 exact zo
def zck:FnScope ["_law_k", "_law_some"] ["_law_k"] (zT zgd):=⟨rfl,rfl,rfl,by decide +kernel,rfl,by decide +kernel,by decide +kernel⟩
def znP:ze->Mo Fl :=
  (zY (zf zq (zd 1) (zf zH (zd 0) (mC (.int 5)))))
def zgC:ze->Mo Fl :=
  zv (ya (mB (zf wM (zd 0) (zu je (zc (zd 1) zk))))
  (zY (zf zq (zd 1) (zd 0)))
  yd) (znP)
def znQ:ze->Mo Fl :=
  zv (zC 1 (zf zI (zd 1) (yR (zc (zx (zc (mC (.str "put")) (zc (mC (.int 3)) zk))) (zc (zx (zc (mC (.str "set")) (zc (mC (.int 3)) zk))) zk))))) (zgC)
def znR:ze->Mo Fl :=
  zv (zC 1 (zf zI (zd 1) (yR (zc (zx (zc (mC (.str "div")) (zc (mC (.int 2)) zk))) (zc (zx (zc (mC (.str "rem")) (zc (mC (.int 2)) zk))) (zc (zx (zc (mC (.str "less")) (zc (mC (.int 2)) zk))) (zc (zx (zc (mC (.str "same")) (zc (mC (.int 2)) zk))) (zc (zx (zc (mC (.str "kind")) (zc (mC (.int 1)) zk))) (zc (zx (zc (mC (.str "front")) (zc (mC (.int 2)) zk))) (zc (zx (zc (mC (.str "many")) (zc (mC (.int 1)) zk))) zk)))))))))) (znQ)
def zgD:ze->Mo Fl :=
  zv (zC 1 (yR (zc (zx (zc (mC (.str "down")) (zc (mC (.int 1)) zk))) (zc (zx (zc (mC (.str "head")) (zc (mC (.int 1)) zk))) (zc (zx (zc (mC (.str "rest")) (zc (mC (.int 1)) zk))) (zc (zx (zc (mC (.str "item")) (zc (mC (.int 2)) zk))) (zc (zx (zc (mC (.str "field")) (zc (mC (.int 2)) zk))) (zc (zx (zc (mC (.str "add")) (zc (mC (.int 2)) zk))) (zc (zx (zc (mC (.str "sub")) (zc (mC (.int 2)) zk))) (zc (zx (zc (mC (.str "mul")) (zc (mC (.int 2)) zk))) zk)))))))))) (znR)
def zdn:List PV->Mo PV:=yp 1 2 (zgD)
def znS (T:Txt w K mg):FOk P w K mg base "_law_op" 1 zdn:=T.f__law_op.ok (k:=0) zck fun f cdv A outer s H E hr =>
  by
 refine zA ?_ ?_
 refine zV 1 ?_ ?_
 refine jj ?_
 refine zg ?_ ?_
 refine zF ?_
 refine zg ?_ ?_
 exact zD
 refine zg ?_ ?_
 exact zn
 exact zo
 refine zg ?_ ?_
 refine zF ?_
 refine zg ?_ ?_
 exact zD
 refine zg ?_ ?_
 exact zn
 exact zo
 refine zg ?_ ?_
 refine zF ?_
 refine zg ?_ ?_
 exact zD
 refine zg ?_ ?_
 exact zn
 exact zo
 refine zg ?_ ?_
 refine zF ?_
 refine zg ?_ ?_
 exact zD
 refine zg ?_ ?_
 exact zn
 exact zo
 refine zg ?_ ?_
 refine zF ?_
 refine zg ?_ ?_
 exact zD
 refine zg ?_ ?_
 exact zn
 exact zo
 refine zg ?_ ?_
 refine zF ?_
 refine zg ?_ ?_
 exact zD
 refine zg ?_ ?_
 exact zn
 exact zo
 refine zg ?_ ?_
 refine zF ?_
 refine zg ?_ ?_
 exact zD
 refine zg ?_ ?_
 exact zn
 exact zo
 refine zg ?_ ?_
 refine zF ?_
 refine zg ?_ ?_
 exact zD
 refine zg ?_ ?_
 exact zn
 exact zo
 exact zo
 exact zck.nd
 refine zA ?_ ?_
 refine zV 1 ?_ ?_
 refine zp yk ?_ ?_
 exact (zj 1)
 refine jj ?_
 refine zg ?_ ?_
 refine zF ?_
 refine zg ?_ ?_
 exact zD
 refine zg ?_ ?_
 exact zn
 exact zo
 refine zg ?_ ?_
 refine zF ?_
 refine zg ?_ ?_
 exact zD
 refine zg ?_ ?_
 exact zn
 exact zo
 refine zg ?_ ?_
 refine zF ?_
 refine zg ?_ ?_
 exact zD
 refine zg ?_ ?_
 exact zn
 exact zo
 refine zg ?_ ?_
 refine zF ?_
 refine zg ?_ ?_
 exact zD
 refine zg ?_ ?_
 exact zn
 exact zo
 refine zg ?_ ?_
 refine zF ?_
 refine zg ?_ ?_
 exact zD
 refine zg ?_ ?_
 exact zn
 exact zo
 refine zg ?_ ?_
 refine zF ?_
 refine zg ?_ ?_
 exact zD
 refine zg ?_ ?_
 exact zn
 exact zo
 refine zg ?_ ?_
 refine zF ?_
 refine zg ?_ ?_
 exact zD
 refine zg ?_ ?_
 exact zn
 exact zo
 exact zo
 exact zck.nd
 refine zA ?_ ?_
 refine zV 1 ?_ ?_
 refine zp yk ?_ ?_
 exact (zj 1)
 refine jj ?_
 refine zg ?_ ?_
 refine zF ?_
 refine zg ?_ ?_
 exact zD
 refine zg ?_ ?_
 exact zn
 exact zo
 refine zg ?_ ?_
 refine zF ?_
 refine zg ?_ ?_
 exact zD
 refine zg ?_ ?_
 exact zn
 exact zo
 exact zo
 exact zck.nd
 refine zA ?_ ?_
 refine yv ?_ ?_ ?_
 refine yj zbW ?_ ?_
 exact (zj 0)
 refine wj wV T.b_len wS ?_
 refine zg ?_ ?_
 exact (zj 1)
 exact zo
 refine zJ ?_
 refine ye ?_
 refine zU ?_ ?_ ?_ ?_
 exact (zW (zy hr))
 exact (zj 1)
 exact (zj 0)
 exact fun _ _=>rfl
 exact yw
 refine zJ ?_
 refine ye ?_
 refine zU ?_ ?_ ?_ ?_
 exact (zW (zy hr))
 exact (zj 1)
 refine zp yc ?_ ?_
 exact (zj 0)
 exact zn
 exact fun _ _=>rfl
def zdo:FnScope ["_law_cell", "_law_name_here", "_law_scope", "_law_heads", "_law_head", "_law_op_here"] ["_law_cell", "_law_name_here", "_law_scope", "_law_heads"] (zT zge):=⟨rfl,rfl,rfl,by decide +kernel,rfl,by decide +kernel,by decide +kernel⟩
def znT:ze->Mo Fl :=
  (zY (zx (zc (mC (.str "let")) (zc (zd 1) (zc (zf zq (zd 5) (mC (.int 0))) (zc (zu wC (zc (zd 0) (zc (zf zq (zd 5) (mC (.int 1))) (zc (zd 2) zk)))) zk))))))
def znU:ze->Mo Fl :=
  zv (zC 5 (zu zdn (zc (zu jT (zc (zd 0) (zc (mC (.int 1)) (zc (mC (.int 29)) zk)))) zk))) (znT)
def znV:ze->Mo Fl :=
  zv (ya (mB (zf zS (zu jT (zc (zd 0) (zc (mC (.int 2)) (zc (mC (.int 5)) zk)))) (mC (.int 0))))
  (zv (zC 4 (zf zq (zd 3) (zu jT (zc (zd 0) (zc (mC (.int 3)) (zc (zu je (zc (zd 3) zk)) zk))))))
  (zY (zx (zc (mC (.str "call")) (zc (zd 1) (zc (zf zq (zd 4) (mC (.int 0))) (zc (zu wC (zc (zd 0) (zc (zf zq (zd 4) (mC (.int 1))) (zc (zd 2) zk)))) zk)))))))
  yd) (znU)
def wY:List PV->Mo PV:=yp 4 6 (znV)
def zdp (T:Txt w K mg):FOk P w K mg base "_law_step" 5 wY:=T.f__law_step.ok (k:=4) zdo fun f cdv A outer s H E hr =>
  by
 refine zA ?_ ?_
 refine yv ?_ ?_ ?_
 refine yj (yy (zy hr)) ?_ ?_
 refine zP (wX T) (hr.mono (by decide)) zR ?_
 refine zg ?_ ?_
 exact (zj 0)
 refine zg ?_ ?_
 exact zn
 refine zg ?_ ?_
 exact zn
 exact zo
 exact zn
 refine zA ?_ ?_
 refine zV 4 ?_ ?_
 refine zU ?_ ?_ ?_ ?_
 exact (zW (zy hr))
 exact (zj 3)
 refine zP (wX T) (hr.mono (by decide)) zR ?_
 refine zg ?_ ?_
 exact (zj 0)
 refine zg ?_ ?_
 exact zn
 refine zg ?_ ?_
 refine wj wV T.b_len wS ?_
 refine zg ?_ ?_
 exact (zj 3)
 exact zo
 exact zo
 exact fun _ _=>rfl
 exact zdo.nd
 refine zJ ?_
 refine ye ?_
 refine zF ?_
 refine zg ?_ ?_
 exact zD
 refine zg ?_ ?_
 exact (zj 1)
 refine zg ?_ ?_
 refine zU ?_ ?_ ?_ ?_
 exact (zW (zy hr))
 exact (zj 4)
 exact zn
 exact fun _ _=>rfl
 refine zg ?_ ?_
 refine zP (zaP T) (hr.mono (by decide)) zR ?_
 refine zg ?_ ?_
 exact (zj 0)
 refine zg ?_ ?_
 refine zU ?_ ?_ ?_ ?_
 exact (zW (zy hr))
 exact (zj 4)
 exact zn
 exact fun _ _=>rfl
 refine zg ?_ ?_
 exact (zj 2)
 exact zo
 exact zo
 exact yw
 refine zA ?_ ?_
 refine zV 5 ?_ ?_
 refine zP (znS T) (hr.mono (by decide)) zR ?_
 refine zg ?_ ?_
 refine zP (wX T) (hr.mono (by decide)) zR ?_
 refine zg ?_ ?_
 exact (zj 0)
 refine zg ?_ ?_
 exact zn
 refine zg ?_ ?_
 exact zn
 exact zo
 exact zo
 exact zdo.nd
 refine zJ ?_
 refine ye ?_
 refine zF ?_
 refine zg ?_ ?_
 exact zD
 refine zg ?_ ?_
 exact (zj 1)
 refine zg ?_ ?_
 refine zU ?_ ?_ ?_ ?_
 exact (zW (zy hr))
 exact (zj 5)
 exact zn
 exact fun _ _=>rfl
 refine zg ?_ ?_
 refine zP (zaP T) (hr.mono (by decide)) zR ?_
 refine zg ?_ ?_
 exact (zj 0)
 refine zg ?_ ?_
 refine zU ?_ ?_ ?_ ?_
 exact (zW (zy hr))
 exact (zj 5)
 exact zn
 exact fun _ _=>rfl
 refine zg ?_ ?_
 exact (zj 2)
 exact zo
 exact zo
def zat:FnScope ["_law_script", "_law_cell", "_law_heads", "_law_scope", "_law_steps", "_law_k", "_law_name_here"] ["_law_script"] (zT zgf):=⟨rfl,rfl,rfl,by decide +kernel,rfl,by decide +kernel,by decide +kernel⟩
def znW:ze->Mo Fl :=
  (zY (zx (zc (zx (zc (mC (.str "long")) (zc (zx (zc (mC (.str "x")) (zc (mC (.str "y")) zk))) (zc (zx (zc (zu js (zc (zd 4) zk)) (zc (zx (zc (mC (.str "go")) (zc (mC (.str "long")) (zc (zu wC (zc (zd 1) (zc (mC (.int 2)) (zc (zd 3) zk)))) zk)))) zk))) zk)))) zk)))
def znX:ze->Mo Fl :=
  zv (jd (iRng1 (zc (zf zH (zd 1) (mC (.int 60))) zk)) (gN 5)
  (zv (zC 6 (zf zI (mC (.str "n")) (zu zao (zc (zf zI (zf zH (zf yr (zd 1) (mC (.int 60))) (mC (.int 100000))) (zd 5)) zk))))
  (zv (y7 (yP yZ (zd 4) (zu wY (zc (zf zI (zu yJ (zc (zd 0) (zc (zf zI (mC (.int 7)) (zf zH (zd 5) (mC (.int 50)))) zk))) (zd 5)) (zc (zd 6) (zc (zd 3) (zc (zd 2) zk)))))))
  (y7 (yP yZ (zd 3) (zd 6)))))) (znW)
def znY:ze->Mo Fl :=
  zv (zC 4 (yR zk)) (znX)
def znZ:ze->Mo Fl :=
  zv (zC 3 (yR (zc (mC (.str "x")) (zc (mC (.str "y")) zk)))) (znY)
def zn0:ze->Mo Fl :=
  zv (zC 2 (yR (zc (zx (zc (mC (.str "long")) (zc (mC (.int 2)) zk))) zk))) (znZ)
def zn1:ze->Mo Fl :=
  zv (zC 1 (zf zH (zu yJ (zc (zd 0) (zc (mC (.int 6)) zk))) (zf jN (mC (.int 10)) (mC (.int 9))))) (zn0)
def zdq:List PV->Mo PV:=yp 1 7 (zn1)
def zn2 (T:Txt w K mg):FOk P w K mg base "_law_long" 6 zdq:=T.f__law_long.ok (k:=5) zat fun f cdv A outer s H E hr =>
  by
 refine zA ?_ ?_
 refine zV 1 ?_ ?_
 refine zp yc ?_ ?_
 refine zP (jA T) (hr.mono (by decide)) zR ?_
 refine zg ?_ ?_
 exact (zj 0)
 refine zg ?_ ?_
 exact zn
 exact zo
 refine zp wL ?_ ?_
 exact zn
 exact zn
 exact zat.nd
 refine zA ?_ ?_
 refine zV 2 ?_ ?_
 refine jj ?_
 refine zg ?_ ?_
 refine zF ?_
 refine zg ?_ ?_
 exact zD
 refine zg ?_ ?_
 exact zn
 exact zo
 exact zo
 exact zat.nd
 refine zA ?_ ?_
 refine zV 3 ?_ ?_
 refine jj ?_
 refine zg ?_ ?_
 exact zD
 refine zg ?_ ?_
 exact zD
 exact zo
 exact zat.nd
 refine zA ?_ ?_
 refine zV 4 ?_ ?_
 refine jj ?_
 exact zo
 exact zat.nd
 refine zA ?_ ?_
 refine wz (jD rfl rfl) rfl ?_ ?_ ?_
 refine wQ T.b_range ?_
 refine zg ?_ ?_
 refine zp yc ?_ ?_
 exact (zj 1)
 exact zn
 exact zo
 exact (wy 5 zat.nd)
 refine zA ?_ ?_
 refine zV 6 ?_ ?_
 refine zp yk ?_ ?_
 exact zD
 refine jO zfz T.b_str ze6 ?_
 refine zg ?_ ?_
 refine zp yk ?_ ?_
 refine zp yc ?_ ?_
 refine zp yX ?_ ?_
 exact (zj 1)
 exact zn
 exact zn
 exact (zj 5)
 exact zo
 exact zat.nd
 refine zA ?_ ?_
 refine wP ?_
 refine zam ?_ ?_
 exact (zj 4)
 refine zP (zdp T) (hr.mono (by decide)) zR ?_
 refine zg ?_ ?_
 refine zp yk ?_ ?_
 refine zP (jA T) (hr.mono (by decide)) zR ?_
 refine zg ?_ ?_
 exact (zj 0)
 refine zg ?_ ?_
 refine zp yk ?_ ?_
 exact zn
 refine zp yc ?_ ?_
 exact (zj 5)
 exact zn
 exact zo
 exact (zj 5)
 refine zg ?_ ?_
 exact (zj 6)
 refine zg ?_ ?_
 exact (zj 3)
 refine zg ?_ ?_
 exact (zj 2)
 exact zo
 refine zJ ?_
 refine wP ?_
 refine zam ?_ ?_
 exact (zj 3)
 exact (zj 6)
 refine zJ ?_
 refine ye ?_
 refine zF ?_
 refine zg ?_ ?_
 refine zF ?_
 refine zg ?_ ?_
 exact zD
 refine zg ?_ ?_
 refine zF ?_
 refine zg ?_ ?_
 exact zD
 refine zg ?_ ?_
 exact zD
 exact zo
 refine zg ?_ ?_
 refine zF ?_
 refine zg ?_ ?_
 refine jO wO T.b_tuple wA ?_
 refine zg ?_ ?_
 exact (zj 4)
 exact zo
 refine zg ?_ ?_
 refine zF ?_
 refine zg ?_ ?_
 exact zD
 refine zg ?_ ?_
 exact zD
 refine zg ?_ ?_
 refine zP (zaP T) (hr.mono (by decide)) zR ?_
 refine zg ?_ ?_
 exact (zj 1)
 refine zg ?_ ?_
 exact zn
 refine zg ?_ ?_
 exact (zj 3)
 exact zo
 exact zo
 exact zo
 exact zo
 exact zo
def zcl:FnScope ["_law_seed", "_law_k", "_law_some", "_law_signs", "_law_place"] ["_law_seed", "_law_k"] (zT zgg):=⟨rfl,rfl,rfl,by decide +kernel,rfl,by decide +kernel,by decide +kernel⟩
def zn3:ze->Mo Fl :=
  (zY (zf zq (zf zI (zd 2) (yR (zaI ["kind", "same", "put", "field", "many"]))) (zf zH (zf zI (zf yr (zd 0) (mC (.int 4))) (zd 1)) (mC (.int 20)))))
def zgE:ze->Mo Fl :=
  zv (ya (mB (zf zS (zf zH (zd 0) (mC (.int 4))) (mC (.int 2))))
  (zY (zf zI (mC (.str "n")) (zu zao (zc (zf zI (zf zH (zf yr (zd 0) (mC (.int 4))) (mC (.int 900000))) (zd 1)) zk))))
  yd) (zn3)
def zdr:ze->Mo Fl :=
  zv (ya (mB (zf zS (zf zH (zd 0) (mC (.int 4))) (mC (.int 1))))
  (zv (zC 4 (zf zH (zf yr (zd 0) (mC (.int 4))) (mC (.int 7))))
  (zY (zf zI (zf zI (zf zI (mC (.str "u")) (zf yK (mC (.str "7")) (zd 4))) (zf zq (zd 3) (zf zH (zf zI (zf yr (zd 0) (mC (.int 28))) (zd 1)) (mC (.int 36))))) (zf yK (mC (.str "e")) (zf jk (mC (.int 6)) (zd 4))))))
  yd) (zgE)
def zds:ze->Mo Fl :=
  zv (ya (mB (zf zS (zf zH (zd 0) (mC (.int 4))) (mC (.int 0))))
  (zY (zf zq (zd 3) (zf zH (zf zI (zf yr (zd 0) (mC (.int 4))) (zd 1)) (mC (.int 26)))))
  yd) (zdr)
def zn4:ze->Mo Fl :=
  zv (zC 3 (mC (.str "abcdefghijklmnopqrstuvwxyz0123456789"))) (zds)
def zgF:ze->Mo Fl :=
  zv (zC 2 (yR (zaI ["of", "is", "let", "call", "go", "if", "give", "fail", "else", "end", "fun", "add", "head", "rest", "item"]))) (zn4)
def jG:List PV->Mo PV:=yp 2 5 (zgF)
def zbs (T:Txt w K mg):FOk P w K mg base "_law_name" 1 jG:=T.f__law_name.ok (k:=0) zcl fun f cdv A outer s H E hr =>
  by
 refine zA ?_ ?_
 refine zV 2 ?_ ?_
 refine jj ?_
 refine zca ?_
 decide +kernel
 exact zcl.nd
 refine zA ?_ ?_
 refine zV 3 ?_ ?_
 exact zD
 exact zcl.nd
 refine zA ?_ ?_
 refine yv ?_ ?_ ?_
 refine yj (yy (zy hr)) ?_ ?_
 refine zp yc ?_ ?_
 exact (zj 0)
 exact zn
 exact zn
 refine zJ ?_
 refine ye ?_
 refine zU ?_ ?_ ?_ ?_
 exact (zW (zy hr))
 exact (zj 3)
 refine zp yc ?_ ?_
 refine zp yk ?_ ?_
 refine zp yX ?_ ?_
 exact (zj 0)
 exact zn
 exact (zj 1)
 exact zn
 exact fun _ _=>rfl
 exact yw
 refine zA ?_ ?_
 refine yv ?_ ?_ ?_
 refine yj (yy (zy hr)) ?_ ?_
 refine zp yc ?_ ?_
 exact (zj 0)
 exact zn
 exact zn
 refine zA ?_ ?_
 refine zV 4 ?_ ?_
 refine zp yc ?_ ?_
 refine zp yX ?_ ?_
 exact (zj 0)
 exact zn
 exact zn
 exact zcl.nd
 refine zJ ?_
 refine ye ?_
 refine zp yk ?_ ?_
 refine zp yk ?_ ?_
 refine zp yk ?_ ?_
 exact zD
 refine zp jo ?_ ?_
 exact zD
 exact (zj 4)
 refine zU ?_ ?_ ?_ ?_
 exact (zW (zy hr))
 exact (zj 3)
 refine zp yc ?_ ?_
 refine zp yk ?_ ?_
 refine zp yX ?_ ?_
 exact (zj 0)
 exact zn
 exact (zj 1)
 exact zn
 exact fun _ _=>rfl
 refine zp jo ?_ ?_
 exact zD
 refine zp ww ?_ ?_
 exact zn
 exact (zj 4)
 exact yw
 refine zA ?_ ?_
 refine yv ?_ ?_ ?_
 refine yj (yy (zy hr)) ?_ ?_
 refine zp yc ?_ ?_
 exact (zj 0)
 exact zn
 exact zn
 refine zJ ?_
 refine ye ?_
 refine zp yk ?_ ?_
 exact zD
 refine jO zfz T.b_str ze6 ?_
 refine zg ?_ ?_
 refine zp yk ?_ ?_
 refine zp yc ?_ ?_
 refine zp yX ?_ ?_
 exact (zj 0)
 exact zn
 exact zn
 exact (zj 1)
 exact zo
 exact yw
 refine zJ ?_
 refine ye ?_
 refine zU ?_ ?_ ?_ ?_
 exact (zW (zy hr))
 refine zp yk ?_ ?_
 exact (zj 2)
 refine jj ?_
 refine zca ?_
 decide +kernel
 refine zp yc ?_ ?_
 refine zp yk ?_ ?_
 refine zp yX ?_ ?_
 exact (zj 0)
 exact zn
 exact (zj 1)
 exact zn
 exact fun _ _=>rfl
def zbt:FnScope ["_law_cell", "_law_aim", "_law_step_here", "_law_atoms_here"] ["_law_cell", "_law_aim"] (zT zgh):=⟨rfl,rfl,rfl,by decide +kernel,rfl,by decide +kernel,by decide +kernel⟩
def zn5:ze->Mo Fl :=
  (zY (zx (zc (mC (.str "if")) (zc (zx (zc (mC (.str "of")) (zc (mC (.str "p")) zk))) (zc (zx (zc (zx (zc (zd 2) zk)) (zc (zx (zc (mC (.str "go")) (zc (zd 1) (zc (zu js (zc (zd 3) zk)) zk)))) zk))) (zc (zx (zc (zx zk) (zc (zx (zc (mC (.str "give")) (zc (zx (zc (mC (.str "of")) (zc (mC (.str "q")) zk))) zk))) zk))) zk))))))
def zn6:ze->Mo Fl :=
  zv (ya (mB (zf zS (zf zH (zf yr (zd 0) (mC (.int 35))) (mC (.int 3))) (mC (.int 1))))
  (zC 3 (zbk (zd 3) (pSome (jy zba (mC (.int 1))))))
  yd) (zn5)
def zn7:ze->Mo Fl :=
  zv (ya (mB (zf zS (zf zH (zf yr (zd 0) (mC (.int 7))) (mC (.int 5))) (mC (.int 2))))
  (zap (zd 3) (mC (.int 1)) (zx (zc (mC (.str "is")) (zc (zf zH (zf yr (zd 0) (mC (.int 35))) (mC (.int 9))) zk))))
  yd) (zn6)
def zn8:ze->Mo Fl :=
  zv (zC 3 (yR (zc (zx (zc (mC (.str "of")) (zc (mC (.str "z")) zk))) (zc (zx (zc (mC (.str "of")) (zc (mC (.str "q")) zk))) zk)))) (zn7)
def zn9:ze->Mo Fl :=
  zv (ya (mB (zf zS (zf zH (zd 0) (mC (.int 7))) (mC (.int 3))))
  (zC 2 (zx (zc (mC (.str "let")) (zc (mC (.str "z")) (zc (mC (.str "add")) (zc (zx (zc (zx (zc (mC (.str "of")) (zc (mC (.str "p")) zk))) (zc (zx (zc (mC (.str "is")) (zc (mC (.int 1)) zk))) zk))) zk))))))
  yd) (zn8)
def zoa:ze->Mo Fl :=
  zv (zC 2 (zx (zc (mC (.str "let")) (zc (mC (.str "z")) (zc (mC (.str "down")) (zc (zx (zc (zx (zc (mC (.str "of")) (zc (mC (.str "p")) zk))) zk)) zk)))))) (zn9)
def zcm:List PV->Mo PV:=yp 2 4 (zoa)
def zob (T:Txt w K mg):FOk P w K mg base "_law_turn" 1 zcm:=T.f__law_turn.ok (k:=0) zbt fun f cdv A outer s H E hr =>
  by
 refine zA ?_ ?_
 refine zV 2 ?_ ?_
 refine zF ?_
 refine zg ?_ ?_
 exact zD
 refine zg ?_ ?_
 exact zD
 refine zg ?_ ?_
 exact zD
 refine zg ?_ ?_
 refine zF ?_
 refine zg ?_ ?_
 refine zF ?_
 refine zg ?_ ?_
 exact zD
 refine zg ?_ ?_
 exact zD
 exact zo
 exact zo
 exact zo
 exact zbt.nd
 refine zA ?_ ?_
 refine yv ?_ ?_ ?_
 refine yj (yy (zy hr)) ?_ ?_
 refine zp yc ?_ ?_
 exact (zj 0)
 exact zn
 exact zn
 refine zJ ?_
 refine zV 2 ?_ ?_
 refine zF ?_
 refine zg ?_ ?_
 exact zD
 refine zg ?_ ?_
 exact zD
 refine zg ?_ ?_
 exact zD
 refine zg ?_ ?_
 refine zF ?_
 refine zg ?_ ?_
 refine zF ?_
 refine zg ?_ ?_
 exact zD
 refine zg ?_ ?_
 exact zD
 exact zo
 refine zg ?_ ?_
 refine zF ?_
 refine zg ?_ ?_
 exact zD
 refine zg ?_ ?_
 exact zn
 exact zo
 exact zo
 exact zo
 exact zbt.nd
 exact yw
 refine zA ?_ ?_
 refine zV 3 ?_ ?_
 refine jj ?_
 refine zg ?_ ?_
 refine zF ?_
 refine zg ?_ ?_
 exact zD
 refine zg ?_ ?_
 exact zD
 exact zo
 refine zg ?_ ?_
 refine zF ?_
 refine zg ?_ ?_
 exact zD
 refine zg ?_ ?_
 exact zD
 exact zo
 exact zo
 exact zbt.nd
 refine zA ?_ ?_
 refine yv ?_ ?_ ?_
 refine yj (yy (zy hr)) ?_ ?_
 refine zp yc ?_ ?_
 refine zp yX ?_ ?_
 exact (zj 0)
 exact zn
 exact zn
 exact zn
 refine zJ ?_
 refine zf0 ?_ ?_ ?_
 exact (zj 3)
 exact zn
 refine zF ?_
 refine zg ?_ ?_
 exact zD
 refine zg ?_ ?_
 refine zp yc ?_ ?_
 refine zp yX ?_ ?_
 exact (zj 0)
 exact zn
 exact zn
 exact zo
 exact yw
 refine zA ?_ ?_
 refine yv ?_ ?_ ?_
 refine yj (yy (zy hr)) ?_ ?_
 refine zp yc ?_ ?_
 refine zp yX ?_ ?_
 exact (zj 0)
 exact zn
 exact zn
 exact zn
 refine zJ ?_
 refine zV 3 ?_ ?_
 refine zmJ ?_ ?_
 exact (zj 3)
 refine zaD ?_
 refine zkW zk4 ?_
 exact zn
 exact zbt.nd
 exact yw
 refine zJ ?_
 refine ye ?_
 refine zF ?_
 refine zg ?_ ?_
 exact zD
 refine zg ?_ ?_
 refine zF ?_
 refine zg ?_ ?_
 exact zD
 refine zg ?_ ?_
 exact zD
 exact zo
 refine zg ?_ ?_
 refine zF ?_
 refine zg ?_ ?_
 refine zF ?_
 refine zg ?_ ?_
 exact (zj 2)
 exact zo
 refine zg ?_ ?_
 refine zF ?_
 refine zg ?_ ?_
 exact zD
 refine zg ?_ ?_
 exact (zj 1)
 refine zg ?_ ?_
 refine jO wO T.b_tuple wA ?_
 refine zg ?_ ?_
 exact (zj 3)
 exact zo
 exact zo
 exact zo
 refine zg ?_ ?_
 refine zF ?_
 refine zg ?_ ?_
 refine zF ?_
 exact zo
 refine zg ?_ ?_
 refine zF ?_
 refine zg ?_ ?_
 exact zD
 refine zg ?_ ?_
 refine zF ?_
 refine zg ?_ ?_
 exact zD
 refine zg ?_ ?_
 exact zD
 exact zo
 exact zo
 exact zo
 exact zo
def wo:FnScope ["_law_script", "_law_cell", "_law_many", "_law_seed", "_law_program_here", "_law_k", "_law_here", "_law_aim"] ["_law_script"] (zT zgi):=⟨rfl,rfl,rfl,by decide +kernel,rfl,by decide +kernel,by decide +kernel⟩
def zoc:ze->Mo Fl :=
  (zY (zu js (zc (zd 4) zk)))
def zod:ze->Mo Fl :=
  zv (jd (iRng1 (zc (zd 2) zk)) (gN 5)
  (zv (zC 6 (zu yJ (zc (zd 0) (zc (zf zI (mC (.int 7)) (zf zH (zd 5) (mC (.int 50)))) zk))))
  (zv (zC 7 (zf zI (zd 5) (mC (.int 1))))
  (zv (ya (mB (zf jQ (zd 5) (zf jk (zd 2) (mC (.int 1)))))
  (zC 7 (zf zH (zd 6) (zd 2)))
  yd)
  (y7 (yP yZ (zd 4) (zx (zc (zu jG (zc (zd 3) (zc (zd 5) zk))) (zc (zx (zc (mC (.str "p")) (zc (mC (.str "q")) zk))) (zc (zx (zc (zx zk) (zc (zu zcm (zc (zd 6) (zc (zu jG (zc (zd 3) (zc (zd 7) zk))) zk))) zk))) zk)))))))))) (zoc)
def zoe:ze->Mo Fl :=
  zv (zC 4 (yR zk)) (zod)
def zof:ze->Mo Fl :=
  zv (zC 3 (zf zI (zf yK (mC (.int 4)) (zf zH (zf yr (zd 1) (mC (.int 17))) (mC (.int 900000)))) (mC (.int 2)))) (zoe)
def zog:ze->Mo Fl :=
  zv (ya (mB (zf zS (zf zH (zf yr (zd 1) (mC (.int 12))) (mC (.int 8))) (mC (.int 1))))
  (zC 2 (zf zI (mC (.int 1)) (zf zH (zf yr (zd 1) (mC (.int 96))) (mC (.int 90)))))
  yd) (zof)
def zoh:ze->Mo Fl :=
  zv (zC 2 (zf zI (mC (.int 1)) (zf zH (zd 1) (mC (.int 12))))) (zog)
def zoi:ze->Mo Fl :=
  zv (zC 1 (zf zH (zu yJ (zc (zd 0) (zc (mC (.int 6)) zk))) (zf jN (mC (.int 10)) (mC (.int 9))))) (zoh)
def zdt:List PV->Mo PV:=yp 1 8 (zoi)
def zoj (T:Txt w K mg):FOk P w K mg base "_law_ring" 2 zdt:=T.f__law_ring.ok (k:=1) wo fun f cdv A outer s H E hr =>
  by
 refine zA ?_ ?_
 refine zV 1 ?_ ?_
 refine zp yc ?_ ?_
 refine zP (jA T) (hr.mono (by decide)) zR ?_
 refine zg ?_ ?_
 exact (zj 0)
 refine zg ?_ ?_
 exact zn
 exact zo
 refine zp wL ?_ ?_
 exact zn
 exact zn
 exact wo.nd
 refine zA ?_ ?_
 refine zV 2 ?_ ?_
 refine zp yk ?_ ?_
 exact zn
 refine zp yc ?_ ?_
 exact (zj 1)
 exact zn
 exact wo.nd
 refine zA ?_ ?_
 refine yv ?_ ?_ ?_
 refine yj (yy (zy hr)) ?_ ?_
 refine zp yc ?_ ?_
 refine zp yX ?_ ?_
 exact (zj 1)
 exact zn
 exact zn
 exact zn
 refine zJ ?_
 refine zV 2 ?_ ?_
 refine zp yk ?_ ?_
 exact zn
 refine zp yc ?_ ?_
 refine zp yX ?_ ?_
 exact (zj 1)
 exact zn
 exact zn
 exact wo.nd
 exact yw
 refine zA ?_ ?_
 refine zV 3 ?_ ?_
 refine zp yk ?_ ?_
 refine zp jo ?_ ?_
 exact zn
 refine zp yc ?_ ?_
 refine zp yX ?_ ?_
 exact (zj 1)
 exact zn
 exact zn
 exact zn
 exact wo.nd
 refine zA ?_ ?_
 refine zV 4 ?_ ?_
 refine jj ?_
 exact zo
 exact wo.nd
 refine zA ?_ ?_
 refine wz (jD rfl rfl) rfl ?_ ?_ ?_
 refine wQ T.b_range ?_
 refine zg ?_ ?_
 exact (zj 2)
 exact zo
 exact (wy 5 wo.nd)
 refine zA ?_ ?_
 refine zV 6 ?_ ?_
 refine zP (jA T) (hr.mono (by decide)) zR ?_
 refine zg ?_ ?_
 exact (zj 0)
 refine zg ?_ ?_
 refine zp yk ?_ ?_
 exact zn
 refine zp yc ?_ ?_
 exact (zj 5)
 exact zn
 exact zo
 exact wo.nd
 refine zA ?_ ?_
 refine zV 7 ?_ ?_
 refine zp yk ?_ ?_
 exact (zj 5)
 exact zn
 exact wo.nd
 refine zA ?_ ?_
 refine yv ?_ ?_ ?_
 refine yj (zfU (zy hr)) ?_ ?_
 exact (zj 5)
 refine zp ww ?_ ?_
 exact (zj 2)
 exact zn
 refine zJ ?_
 refine zV 7 ?_ ?_
 refine zp yc ?_ ?_
 exact (zj 6)
 exact (zj 2)
 exact wo.nd
 exact yw
 refine zJ ?_
 refine wP ?_
 refine zam ?_ ?_
 exact (zj 4)
 refine zF ?_
 refine zg ?_ ?_
 refine zP (zbs T) (hr.mono (by decide)) zR ?_
 refine zg ?_ ?_
 exact (zj 3)
 refine zg ?_ ?_
 exact (zj 5)
 exact zo
 refine zg ?_ ?_
 refine zF ?_
 refine zg ?_ ?_
 exact zD
 refine zg ?_ ?_
 exact zD
 exact zo
 refine zg ?_ ?_
 refine zF ?_
 refine zg ?_ ?_
 refine zF ?_
 exact zo
 refine zg ?_ ?_
 refine zP (zob T) (hr.mono (by decide)) zR ?_
 refine zg ?_ ?_
 exact (zj 6)
 refine zg ?_ ?_
 refine zP (zbs T) (hr.mono (by decide)) zR ?_
 refine zg ?_ ?_
 exact (zj 3)
 refine zg ?_ ?_
 exact (zj 7)
 exact zo
 exact zo
 exact zo
 exact zo
 refine zJ ?_
 refine ye ?_
 refine jO wO T.b_tuple wA ?_
 refine zg ?_ ?_
 exact (zj 4)
 exact zo
def j6:FnScope ["_law_script", "_law_cell", "_law_names", "_law_block_here", "_law_k", "_law_here", "_law_step_here", "_law_other", "_law_test"] ["_law_script"] (zT zgj):=⟨rfl,rfl,rfl,by decide +kernel,rfl,by decide +kernel,by decide +kernel⟩
def zok:ze->Mo Fl :=
  (zY (zx (zc (zx (zc (mC (.str "deep")) (zc (zx (zc (mC (.str "p")) (zc (mC (.str "q")) zk))) (zc (zd 3) zk)))) zk)))
def zol:ze->Mo Fl :=
  zv (jd (iRng1 (zc (mC (.int 8)) zk)) (gN 4)
  (zv (zC 5 (zu yJ (zc (zd 0) (zc (zf zI (mC (.int 7)) (zd 4)) zk))))
  (zv (zC 6 (zu wY (zc (zd 5) (zc (zf zq (zd 2) (zf jk (mC (.int 9)) (zd 4))) (zc (jE (zd 2) pNone (pSome (zf jk (mC (.int 9)) (zd 4)))) (zc (yR (zc (zx (zc (mC (.str "deep")) (zc (mC (.int 2)) zk))) zk)) zk))))))
  (zv (zC 7 (zx (zc (zx zk) (zc (zx (zc (mC (.str "go")) (zc (mC (.str "deep")) (zc (zu wC (zc (zf yr (zd 5) (mC (.int 7))) (zc (mC (.int 2)) (zc (jE (zd 2) pNone (pSome (zf jk (mC (.int 10)) (zd 4)))) zk)))) zk)))) zk))))
  (zv (zC 8 (zx (zc (mC (.str "of")) (zc (zf zq (zd 2) (zu jT (zc (zd 5) (zc (mC (.int 15)) (zc (zf jk (mC (.int 10)) (zd 4)) zk))))) zk))))
  (ya (mB (zf zS (zf zH (zd 5) (mC (.int 2))) (mC (.int 0))))
  (zC 3 (zx (zc (zx (zc (zd 6) zk)) (zc (zx (zc (mC (.str "if")) (zc (zd 8) (zc (zd 3) (zc (zd 7) zk))))) zk))))
  (zC 3 (zx (zc (zx (zc (zd 6) zk)) (zc (zx (zc (mC (.str "if")) (zc (zd 8) (zc (zd 7) (zc (zd 3) zk))))) zk)))))))))) (zok)
def zom:ze->Mo Fl :=
  zv (zC 3 (zx (zc (zx zk) (zc (zx (zc (mC (.str "go")) (zc (mC (.str "deep")) (zc (zu wC (zc (zd 1) (zc (mC (.int 2)) (zc (zd 2) zk)))) zk)))) zk)))) (zol)
def zon:ze->Mo Fl :=
  zv (zC 2 (yR (zaI ["p", "q", "s1", "s2", "s3", "s4", "s5", "s6", "s7", "s8"]))) (zom)
def zoo:ze->Mo Fl :=
  zv (zC 1 (zf zH (zu yJ (zc (zd 0) (zc (mC (.int 6)) zk))) (zf jN (mC (.int 10)) (mC (.int 9))))) (zon)
def zdu:List PV->Mo PV:=yp 1 9 (zoo)
def zop (T:Txt w K mg):FOk P w K mg base "_law_deep" 6 zdu:=T.f__law_deep.ok (k:=5) j6 fun f cdv A outer s H E hr =>
  by
 refine zA ?_ ?_
 refine zV 1 ?_ ?_
 refine zp yc ?_ ?_
 refine zP (jA T) (hr.mono (by decide)) zR ?_
 refine zg ?_ ?_
 exact (zj 0)
 refine zg ?_ ?_
 exact zn
 exact zo
 refine zp wL ?_ ?_
 exact zn
 exact zn
 exact j6.nd
 refine zA ?_ ?_
 refine zV 2 ?_ ?_
 refine jj ?_
 refine zca ?_
 decide +kernel
 exact j6.nd
 refine zA ?_ ?_
 refine zV 3 ?_ ?_
 refine zF ?_
 refine zg ?_ ?_
 refine zF ?_
 exact zo
 refine zg ?_ ?_
 refine zF ?_
 refine zg ?_ ?_
 exact zD
 refine zg ?_ ?_
 exact zD
 refine zg ?_ ?_
 refine zP (zaP T) (hr.mono (by decide)) zR ?_
 refine zg ?_ ?_
 exact (zj 1)
 refine zg ?_ ?_
 exact zn
 refine zg ?_ ?_
 exact (zj 2)
 exact zo
 exact zo
 exact zo
 exact j6.nd
 refine zA ?_ ?_
 refine wz (jD rfl rfl) rfl ?_ ?_ ?_
 refine wQ T.b_range ?_
 refine zg ?_ ?_
 exact zn
 exact zo
 exact (wy 4 j6.nd)
 refine zA ?_ ?_
 refine zV 5 ?_ ?_
 refine zP (jA T) (hr.mono (by decide)) zR ?_
 refine zg ?_ ?_
 exact (zj 0)
 refine zg ?_ ?_
 refine zp yk ?_ ?_
 exact zn
 exact (zj 4)
 exact zo
 exact j6.nd
 refine zA ?_ ?_
 refine zV 6 ?_ ?_
 refine zP (zdp T) (hr.mono (by decide)) zR ?_
 refine zg ?_ ?_
 exact (zj 5)
 refine zg ?_ ?_
 refine zU ?_ ?_ ?_ ?_
 exact (zW (zy hr))
 exact (zj 2)
 refine zp ww ?_ ?_
 exact zn
 exact (zj 4)
 exact fun _ _=>rfl
 refine zg ?_ ?_
 refine zbc ?_ ?_ ?_
 exact (zj 2)
 exact zbb
 refine zaD ?_
 refine zp ww ?_ ?_
 exact zn
 exact (zj 4)
 refine zg ?_ ?_
 refine jj ?_
 refine zg ?_ ?_
 refine zF ?_
 refine zg ?_ ?_
 exact zD
 refine zg ?_ ?_
 exact zn
 exact zo
 exact zo
 exact zo
 exact j6.nd
 refine zA ?_ ?_
 refine zV 7 ?_ ?_
 refine zF ?_
 refine zg ?_ ?_
 refine zF ?_
 exact zo
 refine zg ?_ ?_
 refine zF ?_
 refine zg ?_ ?_
 exact zD
 refine zg ?_ ?_
 exact zD
 refine zg ?_ ?_
 refine zP (zaP T) (hr.mono (by decide)) zR ?_
 refine zg ?_ ?_
 refine zp yX ?_ ?_
 exact (zj 5)
 exact zn
 refine zg ?_ ?_
 exact zn
 refine zg ?_ ?_
 refine zbc ?_ ?_ ?_
 exact (zj 2)
 exact zbb
 refine zaD ?_
 refine zp ww ?_ ?_
 exact zn
 exact (zj 4)
 exact zo
 exact zo
 exact zo
 exact j6.nd
 refine zA ?_ ?_
 refine zV 8 ?_ ?_
 refine zF ?_
 refine zg ?_ ?_
 exact zD
 refine zg ?_ ?_
 refine zU ?_ ?_ ?_ ?_
 exact (zW (zy hr))
 exact (zj 2)
 refine zP (wX T) (hr.mono (by decide)) zR ?_
 refine zg ?_ ?_
 exact (zj 5)
 refine zg ?_ ?_
 exact zn
 refine zg ?_ ?_
 refine zp ww ?_ ?_
 exact zn
 exact (zj 4)
 exact zo
 exact fun _ _=>rfl
 exact zo
 exact j6.nd
 refine zJ ?_
 refine yv ?_ ?_ ?_
 refine yj (yy (zy hr)) ?_ ?_
 refine zp yc ?_ ?_
 exact (zj 5)
 exact zn
 exact zn
 refine zJ ?_
 refine zV 3 ?_ ?_
 refine zF ?_
 refine zg ?_ ?_
 refine zF ?_
 refine zg ?_ ?_
 exact (zj 6)
 exact zo
 refine zg ?_ ?_
 refine zF ?_
 refine zg ?_ ?_
 exact zD
 refine zg ?_ ?_
 exact (zj 8)
 refine zg ?_ ?_
 exact (zj 3)
 refine zg ?_ ?_
 exact (zj 7)
 exact zo
 exact zo
 exact j6.nd
 refine zJ ?_
 refine zV 3 ?_ ?_
 refine zF ?_
 refine zg ?_ ?_
 refine zF ?_
 refine zg ?_ ?_
 exact (zj 6)
 exact zo
 refine zg ?_ ?_
 refine zF ?_
 refine zg ?_ ?_
 exact zD
 refine zg ?_ ?_
 exact (zj 8)
 refine zg ?_ ?_
 exact (zj 7)
 refine zg ?_ ?_
 exact (zj 3)
 exact zo
 exact zo
 exact j6.nd
 refine zJ ?_
 refine ye ?_
 refine zF ?_
 refine zg ?_ ?_
 refine zF ?_
 refine zg ?_ ?_
 exact zD
 refine zg ?_ ?_
 refine zF ?_
 refine zg ?_ ?_
 exact zD
 refine zg ?_ ?_
 exact zD
 exact zo
 refine zg ?_ ?_
 exact (zj 3)
 exact zo
 exact zo
def zgG:FnScope ["_law_cell", "_law_way", "_law_scope", "_law_heads", "_law_head"] ["_law_cell", "_law_way", "_law_scope", "_law_heads"] (zT zgk):=⟨rfl,rfl,rfl,by decide +kernel,rfl,by decide +kernel,by decide +kernel⟩
def zoq:ze->Mo Fl :=
  (zY (zx (zc (mC (.str "go")) (zc (zf zq (zd 4) (mC (.int 0))) (zc (zu wC (zc (zd 0) (zc (zf zq (zd 4) (mC (.int 1))) (zc (zd 2) zk)))) zk)))))
def zor:ze->Mo Fl :=
  zv (zC 4 (zf zq (zd 3) (zu jT (zc (zd 0) (zc (mC (.int 14)) (zc (zu je (zc (zd 3) zk)) zk)))))) (zoq)
def zos:ze->Mo Fl :=
  zv (ya (mB (zf zS (zd 1) (mC (.int 4))))
  (zY (zx (zc (mC (.str "fail")) (zc (zu j5 (zc (zf zH (zd 0) (zf jN (mC (.int 10)) (mC (.int 9)))) zk)) zk))))
  yd) (zor)
def zot:ze->Mo Fl :=
  zv (ya (mB (zf zS (zd 1) (mC (.int 3))))
  (zY (zx (zc (mC (.str "give")) (zc (zu zaO (zc (zd 0) (zc (mC (.int 13)) (zc (zd 2) zk)))) zk))))
  yd) (zos)
def zdv:List PV->Mo PV:=yp 4 5 (zot)
def zou (T:Txt w K mg):FOk P w K mg base "_law_end" 5 zdv:=T.f__law_end.ok (k:=4) zgG fun f cdv A outer s H E hr =>
  by
 refine zA ?_ ?_
 refine yv ?_ ?_ ?_
 refine yj (yy (zy hr)) ?_ ?_
 exact (zj 1)
 exact zn
 refine zJ ?_
 refine ye ?_
 refine zF ?_
 refine zg ?_ ?_
 exact zD
 refine zg ?_ ?_
 refine zP (zdm T) (hr.mono (by decide)) zR ?_
 refine zg ?_ ?_
 exact (zj 0)
 refine zg ?_ ?_
 exact zn
 refine zg ?_ ?_
 exact (zj 2)
 exact zo
 exact zo
 exact yw
 refine zA ?_ ?_
 refine yv ?_ ?_ ?_
 refine yj (yy (zy hr)) ?_ ?_
 exact (zj 1)
 exact zn
 refine zJ ?_
 refine ye ?_
 refine zF ?_
 refine zg ?_ ?_
 exact zD
 refine zg ?_ ?_
 refine zP (zaN T) (hr.mono (by decide)) zR ?_
 refine zg ?_ ?_
 refine zp yc ?_ ?_
 exact (zj 0)
 refine zp wL ?_ ?_
 exact zn
 exact zn
 exact zo
 exact zo
 exact yw
 refine zA ?_ ?_
 refine zV 4 ?_ ?_
 refine zU ?_ ?_ ?_ ?_
 exact (zW (zy hr))
 exact (zj 3)
 refine zP (wX T) (hr.mono (by decide)) zR ?_
 refine zg ?_ ?_
 exact (zj 0)
 refine zg ?_ ?_
 exact zn
 refine zg ?_ ?_
 refine wj wV T.b_len wS ?_
 refine zg ?_ ?_
 exact (zj 3)
 exact zo
 exact zo
 exact fun _ _=>rfl
 exact zgG.nd
 refine zJ ?_
 refine ye ?_
 refine zF ?_
 refine zg ?_ ?_
 exact zD
 refine zg ?_ ?_
 refine zU ?_ ?_ ?_ ?_
 exact (zW (zy hr))
 exact (zj 4)
 exact zn
 exact fun _ _=>rfl
 refine zg ?_ ?_
 refine zP (zaP T) (hr.mono (by decide)) zR ?_
 refine zg ?_ ?_
 exact (zj 0)
 refine zg ?_ ?_
 refine zU ?_ ?_ ?_ ?_
 exact (zW (zy hr))
 exact (zj 4)
 exact zn
 exact fun _ _=>rfl
 refine zg ?_ ?_
 exact (zj 2)
 exact zo
 exact zo
def j7:FnScope ["_law_script", "_law_f", "_law_b", "_law_scope", "_law_heads", "_law_seed", "_law_at_here", "_law_cell", "_law_steps", "_law_j", "_law_name_here", "_law_way", "_law_one", "_law_other"] ["_law_script", "_law_f", "_law_b", "_law_scope", "_law_heads", "_law_seed"] (zT zgl):=⟨rfl,rfl,rfl,by decide +kernel,rfl,by decide +kernel,by decide +kernel⟩
def zov (mr:List PV->Mo PV):ze->Mo Fl :=
  (zY (zx (zc (zu js (zc (zd 8) zk)) (zc (zu zdv (zc (zd 7) (zc (zd 11) (zc (zd 3) (zc (zd 4) zk))))) zk))))
def zgH (mr:List PV->Mo PV):ze->Mo Fl :=
  zv (ya (jM (mB (zf oGt (zd 11) (mC (.int 4)))) (mB (zf wM (zd 2) (mC (.int 4)))))
  (zv (zC 12 (zu mr (zc (zd 0) (zc (zd 1) (zc (zf yK (mC (.int 2)) (zd 2)) (zc (zd 3) (zc (zd 4) (zc (zd 5) zk))))))))
  (zv (zC 13 (zu mr (zc (zd 0) (zc (zd 1) (zc (zf zI (zf yK (mC (.int 2)) (zd 2)) (mC (.int 1))) (zc (zd 3) (zc (zd 4) (zc (zd 5) zk))))))))
  (zY (zx (zc (zu js (zc (zd 8) zk)) (zc (zx (zc (mC (.str "if")) (zc (zu zaO (zc (zd 7) (zc (mC (.int 13)) (zc (zd 3) zk)))) (zc (zd 12) (zc (zd 13) zk))))) zk))))))
  yd) (zov mr)
def zow (mr:List PV->Mo PV):ze->Mo Fl :=
  zv (zC 11 (zu jT (zc (zd 7) (zc (mC (.int 12)) (zc (mC (.int 7)) zk))))) (zgH mr)
def zox (mr:List PV->Mo PV):ze->Mo Fl :=
  zv (jd (iRng1 (zc (zu jT (zc (zd 7) (zc (mC (.int 11)) (zc (mC (.int 3)) zk)))) zk)) (gN 9)
  (zv (zC 10 (zu jG (zc (zd 5) (zc (zf zI (zf zI (mC (.int 4)) (zf yK (mC (.int 2)) (zd 2))) (zd 9)) zk))))
  (zv (y7 (yP yZ (zd 8) (zu wY (zc (zu yJ (zc (zd 0) (zc (zf zI (zd 6) (zd 9)) zk))) (zc (zd 10) (zc (zd 3) (zc (zd 4) zk)))))))
  (y7 (yP yZ (zd 3) (zd 10)))))) (zow mr)
def zoy (mr:List PV->Mo PV):ze->Mo Fl :=
  zv (zC 8 (yR zk)) (zox mr)
def zoz (mr:List PV->Mo PV):ze->Mo Fl :=
  zv (zC 3 (zu j3 (zc (zd 3) zk))) (zoy mr)
def zoA (mr:List PV->Mo PV):ze->Mo Fl :=
  zv (zC 7 (zu yJ (zc (zd 0) (zc (zf zI (zd 6) (mC (.int 2))) zk)))) (zoz mr)
def zgI (mr:List PV->Mo PV):ze->Mo Fl :=
  zv (zC 6 (zf zI (zf zI (mC (.int 6)) (zf yK (zf jk (zd 2) (mC (.int 1))) (mC (.int 9)))) (zf yK (zd 1) (mC (.int 3))))) (zoA mr)
def zdw (mr:List PV->Mo PV):List PV->Mo PV:=yp 6 14 (zgI mr)
def zoB (T:Txt w K mg) {k:Nat} (hk:5<=k) {mr:List PV->Mo PV} (hmr:FOk P w K mg base "_law_block" k mr):FOk P w K mg base "_law_block" (k+1) (zdw mr):=T.f__law_block.ok (k:=k+0) j7 fun f cdv A outer s H E hr =>
  by
 refine zA ?_ ?_
 refine zV 6 ?_ ?_
 refine zp yk ?_ ?_
 refine zp yk ?_ ?_
 exact zn
 refine zp jo ?_ ?_
 refine zp ww ?_ ?_
 exact (zj 2)
 exact zn
 exact zn
 refine zp jo ?_ ?_
 exact (zj 1)
 exact zn
 exact j7.nd
 refine zA ?_ ?_
 refine zV 7 ?_ ?_
 refine zP (jA T) (hr.mono (by omega)) zR ?_
 refine zg ?_ ?_
 exact (zj 0)
 refine zg ?_ ?_
 refine zp yk ?_ ?_
 exact (zj 6)
 exact zn
 exact zo
 exact j7.nd
 refine zA ?_ ?_
 refine zV 3 ?_ ?_
 refine jO (zfL rfl) T.b_list ze7 ?_
 refine zg ?_ ?_
 exact (zj 3)
 exact zo
 exact j7.nd
 refine zA ?_ ?_
 refine zV 8 ?_ ?_
 refine jj ?_
 exact zo
 exact j7.nd
 refine zA ?_ ?_
 refine wz (jD rfl rfl) rfl ?_ ?_ ?_
 refine wQ T.b_range ?_
 refine zg ?_ ?_
 refine zP (wX T) (hr.mono (by omega)) zR ?_
 refine zg ?_ ?_
 exact (zj 7)
 refine zg ?_ ?_
 exact zn
 refine zg ?_ ?_
 exact zn
 exact zo
 exact zo
 exact (wy 9 j7.nd)
 refine zA ?_ ?_
 refine zV 10 ?_ ?_
 refine zP (zbs T) (hr.mono (by omega)) zR ?_
 refine zg ?_ ?_
 exact (zj 5)
 refine zg ?_ ?_
 refine zp yk ?_ ?_
 refine zp yk ?_ ?_
 exact zn
 refine zp jo ?_ ?_
 exact zn
 exact (zj 2)
 exact (zj 9)
 exact zo
 exact j7.nd
 refine zA ?_ ?_
 refine wP ?_
 refine zam ?_ ?_
 exact (zj 8)
 refine zP (zdp T) (hr.mono (by omega)) zR ?_
 refine zg ?_ ?_
 refine zP (jA T) (hr.mono (by omega)) zR ?_
 refine zg ?_ ?_
 exact (zj 0)
 refine zg ?_ ?_
 refine zp yk ?_ ?_
 exact (zj 6)
 exact (zj 9)
 exact zo
 refine zg ?_ ?_
 exact (zj 10)
 refine zg ?_ ?_
 exact (zj 3)
 refine zg ?_ ?_
 exact (zj 4)
 exact zo
 refine zJ ?_
 refine wP ?_
 refine zam ?_ ?_
 exact (zj 3)
 exact (zj 10)
 refine zA ?_ ?_
 refine zV 11 ?_ ?_
 refine zP (wX T) (hr.mono (by omega)) zR ?_
 refine zg ?_ ?_
 exact (zj 7)
 refine zg ?_ ?_
 exact zn
 refine zg ?_ ?_
 exact zn
 exact zo
 exact j7.nd
 refine zA ?_ ?_
 refine yv ?_ ?_ ?_
 refine zah ?_
 refine zbT ?_ ?_
 refine yj zeX ?_ ?_
 exact (zj 11)
 exact zn
 refine zcT ?_
 refine yj zbW ?_ ?_
 exact (zj 2)
 exact zn
 refine zA ?_ ?_
 refine zV 12 ?_ ?_
 refine zP hmr (hr.mono (by omega)) zR ?_
 refine zg ?_ ?_
 exact (zj 0)
 refine zg ?_ ?_
 exact (zj 1)
 refine zg ?_ ?_
 refine zp jo ?_ ?_
 exact zn
 exact (zj 2)
 refine zg ?_ ?_
 exact (zj 3)
 refine zg ?_ ?_
 exact (zj 4)
 refine zg ?_ ?_
 exact (zj 5)
 exact zo
 exact j7.nd
 refine zA ?_ ?_
 refine zV 13 ?_ ?_
 refine zP hmr (hr.mono (by omega)) zR ?_
 refine zg ?_ ?_
 exact (zj 0)
 refine zg ?_ ?_
 exact (zj 1)
 refine zg ?_ ?_
 refine zp yk ?_ ?_
 refine zp jo ?_ ?_
 exact zn
 exact (zj 2)
 exact zn
 refine zg ?_ ?_
 exact (zj 3)
 refine zg ?_ ?_
 exact (zj 4)
 refine zg ?_ ?_
 exact (zj 5)
 exact zo
 exact j7.nd
 refine zJ ?_
 refine ye ?_
 refine zF ?_
 refine zg ?_ ?_
 refine jO wO T.b_tuple wA ?_
 refine zg ?_ ?_
 exact (zj 8)
 exact zo
 refine zg ?_ ?_
 refine zF ?_
 refine zg ?_ ?_
 exact zD
 refine zg ?_ ?_
 refine zP (zdm T) (hr.mono (by omega)) zR ?_
 refine zg ?_ ?_
 exact (zj 7)
 refine zg ?_ ?_
 exact zn
 refine zg ?_ ?_
 exact (zj 3)
 exact zo
 refine zg ?_ ?_
 exact (zj 12)
 refine zg ?_ ?_
 exact (zj 13)
 exact zo
 exact zo
 exact yw
 refine zJ ?_
 refine ye ?_
 refine zF ?_
 refine zg ?_ ?_
 refine jO wO T.b_tuple wA ?_
 refine zg ?_ ?_
 exact (zj 8)
 exact zo
 refine zg ?_ ?_
 refine zP (zou T) (hr.mono (by omega)) zR ?_
 refine zg ?_ ?_
 exact (zj 7)
 refine zg ?_ ?_
 exact (zj 11)
 refine zg ?_ ?_
 exact (zj 3)
 refine zg ?_ ?_
 exact (zj 4)
 exact zo
 exact zo
def wD:Nat->List PV->Mo PV
 | 0=>yp 6 14 zc4
 | n+1=>zdw (wD n)
def zgJ (T:Txt w K mg):∀n,FOk P w K mg base "_law_block" (5+1+1*n) (wD n)
 | 0=>T.f__law_block.ok (k:=5) j7 fun f cdv A outer s H E hr=>zfM
 | n+1=>(zoB T (by omega) (zgJ T n)).mono (by omega)
def wZ:FnScope ["_law_script", "_law_cell", "_law_seed", "_law_heads", "_law_program_here", "_law_f", "_law_head", "_law_own", "_law_params"] ["_law_script"] (zT zch):=⟨rfl,rfl,rfl,by decide +kernel,rfl,by decide +kernel,by decide +kernel⟩
def zoC:ze->Mo Fl :=
  (zY (zu js (zc (zd 4) zk)))
def zoD:ze->Mo Fl :=
  zv (zb8 (zc (zd 3) zk) (g2 5 6)
  (zv (zC 7 (zf zI (zd 2) (zf yK (zf yK (mC (.int 4)) (zd 5)) (zf zH (zf yr (zd 1) (mC (.int 12))) (mC (.int 2))))))
  (zv (zC 8 (j2 (iRng1 (zc (zf zq (zd 6) (mC (.int 1))) zk)) (zu jG (zc (zd 8) (zc (zd 0) zk)))))
  (y7 (yP yZ (zd 4) (zx (zc (zf zq (zd 6) (mC (.int 0))) (zc (zu js (zc (zd 8) zk)) (zc (zu (wD 6) (zc (zd 0) (zc (zd 5) (zc (mC (.int 1)) (zc (zd 8) (zc (zd 3) (zc (zd 7) zk))))))) zk))))))))) (zoC)
def zoE:ze->Mo Fl :=
  zv (zC 4 (yR zk)) (zoD)
def zoF:ze->Mo Fl :=
  zv (ya (mB (zf zS (zf zH (zf yr (zd 1) (mC (.int 3))) (mC (.int 4))) (mC (.int 1))))
  (zap (zd 3) (mC (.int 0)) (zx (zc (zf zq (zf zq (zd 3) (mC (.int 0))) (mC (.int 0))) (zc (zf zH (zu yJ (zc (zd 0) (zc (mC (.int 2)) zk))) (mC (.int 7))) zk))))
  yd) (zoE)
def zoG:ze->Mo Fl :=
  zv (zC 3 (j2 (iRng1 (zc (zf zI (mC (.int 1)) (zf zH (zd 1) (mC (.int 3)))) zk)) (zx (zc (zu jG (zc (zf yr (zd 2) (mC (.int 12))) (zc (zd 0) zk))) (zc (zf zH (zu yJ (zc (zd 1) (zc (zf zI (mC (.int 2)) (zd 0)) zk))) (mC (.int 4))) zk))))) (zoF)
def zoH:ze->Mo Fl :=
  zv (zC 2 (zf zH (zu yJ (zc (zd 0) (zc (mC (.int 1)) zk))) (zf jN (mC (.int 10)) (mC (.int 9))))) (zoG)
def zoI:ze->Mo Fl :=
  zv (zC 1 (zf zH (zu yJ (zc (zd 0) (zc (mC (.int 0)) zk))) (zf jN (mC (.int 10)) (mC (.int 9))))) (zoH)
def zdx:List PV->Mo PV:=yp 1 9 (zoI)
def zoJ (T:Txt w K mg):FOk P w K mg base "_law_small" 13 zdx:=T.f__law_small.ok (k:=12) wZ fun f cdv A outer s H E hr =>
  by
 refine zA ?_ ?_
 refine zV 1 ?_ ?_
 refine zp yc ?_ ?_
 refine zP (jA T) (hr.mono (by decide)) zR ?_
 refine zg ?_ ?_
 exact (zj 0)
 refine zg ?_ ?_
 exact zn
 exact zo
 refine zp wL ?_ ?_
 exact zn
 exact zn
 exact wZ.nd
 refine zA ?_ ?_
 refine zV 2 ?_ ?_
 refine zp yc ?_ ?_
 refine zP (jA T) (hr.mono (by decide)) zR ?_
 refine zg ?_ ?_
 exact (zj 0)
 refine zg ?_ ?_
 exact zn
 exact zo
 refine zp wL ?_ ?_
 exact zn
 exact zn
 exact wZ.nd
 refine zA ?_ ?_
 refine zfW 3 (M:=["_law_script", "_law_cell", "_law_seed", "_law_heads", "_law_program_here", "~_law_f", "_law_head", "_law_own", "_law_params"]) rfl (by exact ⟨rfl,by decide +kernel,by decide +kernel,rfl,by show ∀y:Str×NameKind,y∈_->y.2=NameKind.free->List.lookup y.1 (zT zch).names=some NameKind.cell;decide +kernel⟩) (by exact ⟨rfl,by show ∀p∈List.zip (["_law_script", "_law_cell", "_law_seed", "_law_heads", "_law_program_here", "~_law_f", "_law_head", "_law_own", "_law_params"]:List Str) (["_law_script", "_law_cell", "_law_seed", "_law_heads", "_law_program_here", "_law_f", "_law_head", "_law_own", "_law_params"]:List Str),p.1=p.2\/p.1∉(_:List Str);decide +kernel⟩) (by decide +kernel) ?_ ?_ wZ.nd rfl (by first|exact Or.inl rfl|exact Or.inr rfl) (by first|exact .inl rfl|exact .inr rfl|assumption) (by rfl)
 refine wQ T.b_range ?_
 refine zg ?_ ?_
 refine zp yk ?_ ?_
 exact zn
 refine zp yc ?_ ?_
 exact (zj 1)
 exact zn
 exact zo
 intro _ _ _ _ _
 refine zF ?_
 refine zg ?_ ?_
 refine zP (zbs T) (hr.mono (by decide)) zb7 ?_
 refine zg ?_ ?_
 refine zp yX ?_ ?_
 exact (zj 2)
 exact zn
 refine zg ?_ ?_
 exact (zj 0)
 exact zo
 refine zg ?_ ?_
 refine zp yc ?_ ?_
 refine zP (jA T) (hr.mono (by decide)) zb7 ?_
 refine zg ?_ ?_
 exact (zj 1)
 refine zg ?_ ?_
 refine zp yk ?_ ?_
 exact zn
 exact (zj 0)
 exact zo
 exact zn
 exact zo
 refine zA ?_ ?_
 refine yv ?_ ?_ ?_
 refine yj (yy (zy hr)) ?_ ?_
 refine zp yc ?_ ?_
 refine zp yX ?_ ?_
 exact (zj 1)
 exact zn
 exact zn
 exact zn
 refine zJ ?_
 refine zf0 ?_ ?_ ?_
 exact (zj 3)
 exact zn
 refine zF ?_
 refine zg ?_ ?_
 refine zU ?_ ?_ ?_ ?_
 exact (zW (zy hr))
 refine zU ?_ ?_ ?_ ?_
 exact (zW (zy hr))
 exact (zj 3)
 exact zn
 exact fun _ _=>rfl
 exact zn
 exact fun _ _=>rfl
 refine zg ?_ ?_
 refine zp yc ?_ ?_
 refine zP (jA T) (hr.mono (by decide)) zR ?_
 refine zg ?_ ?_
 exact (zj 0)
 refine zg ?_ ?_
 exact zn
 exact zo
 exact zn
 exact zo
 exact yw
 refine zA ?_ ?_
 refine zV 4 ?_ ?_
 refine jj ?_
 exact zo
 exact wZ.nd
 refine zA ?_ ?_
 refine zmC (jD rfl rfl) rfl T.b_enumerate ?_ ?_ ?_
 refine zg ?_ ?_
 exact (zj 3)
 exact zo
 exact (ze5 5 6 rfl wZ.nd)
 refine zA ?_ ?_
 refine zV 7 ?_ ?_
 refine zp yk ?_ ?_
 exact (zj 2)
 refine zp jo ?_ ?_
 refine zp jo ?_ ?_
 exact zn
 exact (zj 5)
 refine zp yc ?_ ?_
 refine zp yX ?_ ?_
 exact (zj 1)
 exact zn
 exact zn
 exact wZ.nd
 refine zA ?_ ?_
 refine zm8 8 (N:=["_law_script", "_law_cell", "_law_seed", "_law_heads", "_law_program_here", "_law_f", "_law_head", "_law_own", "_law_params"]) rfl (by exact ⟨rfl,by decide +kernel,by decide +kernel,rfl,by show ∀y:Str×NameKind,y∈_->y.2=NameKind.free->List.lookup y.1 (zT zch).names=some NameKind.cell;decide +kernel⟩) rfl (by decide +kernel) ?_ ?_ wZ.nd rfl (by first|exact Or.inl rfl|exact Or.inr rfl) (by first|exact .inl rfl|exact .inr rfl|assumption) (by rfl)
 refine wQ T.b_range ?_
 refine zg ?_ ?_
 refine zU ?_ ?_ ?_ ?_
 exact (zW (zy hr))
 exact (zj 6)
 exact zn
 exact fun _ _=>rfl
 exact zo
 intro _ _ _ _ _
 refine zP (zbs T) (hr.mono (by decide)) zb7 ?_
 refine zg ?_ ?_
 exact (zj 8)
 refine zg ?_ ?_
 exact (zj 0)
 exact zo
 refine zJ ?_
 refine wP ?_
 refine zam ?_ ?_
 exact (zj 4)
 refine zF ?_
 refine zg ?_ ?_
 refine zU ?_ ?_ ?_ ?_
 exact (zW (zy hr))
 exact (zj 6)
 exact zn
 exact fun _ _=>rfl
 refine zg ?_ ?_
 refine jO wO T.b_tuple wA ?_
 refine zg ?_ ?_
 exact (zj 8)
 exact zo
 refine zg ?_ ?_
 refine zP (zgJ T 6) (hr.mono (by decide)) zR ?_
 refine zg ?_ ?_
 exact (zj 0)
 refine zg ?_ ?_
 exact (zj 5)
 refine zg ?_ ?_
 exact zn
 refine zg ?_ ?_
 exact (zj 8)
 refine zg ?_ ?_
 exact (zj 3)
 refine zg ?_ ?_
 exact (zj 7)
 exact zo
 exact zo
 refine zJ ?_
 refine ye ?_
 refine jO wO T.b_tuple wA ?_
 refine zg ?_ ?_
 exact (zj 4)
 exact zo
def zgK:FnScope ["_law_script", "_law_way"] ["_law_script"] (zT zgm):=⟨rfl,rfl,rfl,by decide +kernel,rfl,by decide +kernel,by decide +kernel⟩
def zoK:ze->Mo Fl :=
  (zY (zu zdx (zc (zd 0) zk)))
def zoL:ze->Mo Fl :=
  zv (ya (mB (zf zS (zd 1) (mC (.int 5))))
  (zY (zu zdu (zc (zd 0) zk)))
  yd) (zoK)
def zoM:ze->Mo Fl :=
  zv (ya (mB (zf zS (zd 1) (mC (.int 7))))
  (zY (zu zdt (zc (zd 0) zk)))
  yd) (zoL)
def zgL:ze->Mo Fl :=
  zv (ya (mB (zf zS (zd 1) (mC (.int 6))))
  (zY (zu zdq (zc (zd 0) zk)))
  yd) (zoM)
def zgM:ze->Mo Fl :=
  zv (zC 1 (zf zH (zu yJ (zc (zd 0) (zc (mC (.int 5)) zk))) (mC (.int 8)))) (zgL)
def zdy:List PV->Mo PV:=yp 1 2 (zgM)
def zoN (T:Txt w K mg):FOk P w K mg base "_law_program" 14 zdy:=T.f__law_program.ok (k:=13) zgK fun f cdv A outer s H E hr =>
  by
 refine zA ?_ ?_
 refine zV 1 ?_ ?_
 refine zp yc ?_ ?_
 refine zP (jA T) (hr.mono (by decide)) zR ?_
 refine zg ?_ ?_
 exact (zj 0)
 refine zg ?_ ?_
 exact zn
 exact zo
 exact zn
 exact zgK.nd
 refine zA ?_ ?_
 refine yv ?_ ?_ ?_
 refine yj (yy (zy hr)) ?_ ?_
 exact (zj 1)
 exact zn
 refine zJ ?_
 refine ye ?_
 refine zP (zn2 T) (hr.mono (by decide)) zR ?_
 refine zg ?_ ?_
 exact (zj 0)
 exact zo
 exact yw
 refine zA ?_ ?_
 refine yv ?_ ?_ ?_
 refine yj (yy (zy hr)) ?_ ?_
 exact (zj 1)
 exact zn
 refine zJ ?_
 refine ye ?_
 refine zP (zoj T) (hr.mono (by decide)) zR ?_
 refine zg ?_ ?_
 exact (zj 0)
 exact zo
 exact yw
 refine zA ?_ ?_
 refine yv ?_ ?_ ?_
 refine yj (yy (zy hr)) ?_ ?_
 exact (zj 1)
 exact zn
 refine zJ ?_
 refine ye ?_
 refine zP (zop T) (hr.mono (by decide)) zR ?_
 refine zg ?_ ?_
 exact (zj 0)
 exact zo
 exact yw
 refine zJ ?_
 refine ye ?_
 refine zP (zoJ T) (hr.mono (by decide)) zR ?_
 refine zg ?_ ?_
 exact (zj 0)
 exact zo
def zbu:FnScope ["_law_block_here", "_law_lines_here", "_law_todo", "_law_steps", "_law_end_here"] ["_law_block_here"] (zT zgn):=⟨rfl,rfl,rfl,by decide +kernel,rfl,by decide +kernel,by decide +kernel⟩
def zoO:ze->Mo Fl :=
  (zY (zd 1))
def zoP:ze->Mo Fl :=
  zv (zb3 (mB (zf oGt (zu je (zc (zd 2) zk)) (mC (.int 0))))
  (zv (sTo (g2 3 4) (yP zcf (zd 2) (mC (.int 0))))
  (zv (y7 (yP zcg (zd 1) (zd 3)))
  (zv (y7 (yP yZ (zd 1) (zd 4)))
  (ya (mB (zf zS (zf zq (zd 4) (mC (.int 0))) (mC (.str "if"))))
  (zC 2 (zf zI (yR (zc (zf zq (zd 4) (mC (.int 2))) (zc (zf zq (zd 4) (mC (.int 3))) zk))) (zd 2)))
  yd))))) (zoO)
def zoQ:ze->Mo Fl :=
  zv (zC 2 (yR (zc (zd 0) zk))) (zoP)
def zoR:ze->Mo Fl :=
  zv (zC 1 (yR zk)) (zoQ)
def zau:List PV->Mo PV:=yp 1 5 (zoR)
def zgN (T:Txt w K mg):FOk P w K mg base "_law_lines" 1 zau:=T.f__law_lines.ok (k:=0) zbu fun f cdv A outer s H E hr =>
  by
 refine zA ?_ ?_
 refine zV 1 ?_ ?_
 refine jj ?_
 exact zo
 exact zbu.nd
 refine zA ?_ ?_
 refine zV 2 ?_ ?_
 refine jj ?_
 refine zg ?_ ?_
 exact (zj 0)
 exact zo
 exact zbu.nd
 refine zA ?_ ?_
 refine zc1 (jD rfl rfl) ?_ ?_
 refine yj zeX ?_ ?_
 refine wj wV T.b_len wS ?_
 refine zg ?_ ?_
 exact (zj 2)
 exact zo
 exact zn
 refine zA ?_ ?_
 refine zlv ?_ ?_
 exact (ze5 3 4 rfl zbu.nd)
 refine zns ?_ ?_
 exact (zj 2)
 exact zn
 refine zA ?_ ?_
 refine wP ?_
 refine znx ?_ ?_
 exact (zj 1)
 exact (zj 3)
 refine zA ?_ ?_
 refine wP ?_
 refine zam ?_ ?_
 exact (zj 1)
 exact (zj 4)
 refine zJ ?_
 refine yv ?_ ?_ ?_
 refine yj (yy (zy hr)) ?_ ?_
 refine zU ?_ ?_ ?_ ?_
 exact (zW (zy hr))
 exact (zj 4)
 exact zn
 exact fun _ _=>rfl
 exact zD
 refine zJ ?_
 refine zV 2 ?_ ?_
 refine zp yk ?_ ?_
 refine jj ?_
 refine zg ?_ ?_
 refine zU ?_ ?_ ?_ ?_
 exact (zW (zy hr))
 exact (zj 4)
 exact zn
 exact fun _ _=>rfl
 refine zg ?_ ?_
 refine zU ?_ ?_ ?_ ?_
 exact (zW (zy hr))
 exact (zj 4)
 exact zn
 exact fun _ _=>rfl
 exact zo
 exact (zj 2)
 exact zbu.nd
 exact yw
 refine zJ ?_
 refine ye ?_
 exact (zj 1)
def zoS:FnScope ["self"] ["self"] (zT zde):=⟨rfl,rfl,rfl,by decide +kernel,rfl,by decide +kernel,by decide +kernel⟩
def zoT:ze->Mo Fl :=
  (zY (zf (yM false) (jy (fldAt "word" insOf excOf) (zd 0)) (mC (.tup (List.map PV.str ct_FALLING)))))
def m_Op_falls:List PV->Mo PV:=yp 1 1 (zoT)
def zoU (T:Txt w K mg):MOk P w K mg base "Op" "falls" 1 m_Op_falls:=T.m_Op_falls.ok (k:=0) zoS fun f cdv A outer s H E hr =>
  by
 refine zJ ?_
 refine ye ?_
 refine zcU (zb6 (zy hr)) ?_ ?_
 refine zlq T.d_word ?_
 exact (zj 0)
 exact (znq T.ct_FALLING)
def zaQ (c:Str):Option (List PV->Mo PV):=if c = "Op" then some m_Op_falls else none
def zoV (T:Txt w K mg) {c:Str} {m:List PV->Mo PV} (h:zaQ c=some m):MOk P w K mg base c "falls" 1 m:=by
 unfold zaQ at h
 by_cases e0:c = "Op"
 ·rw [zE e0] at h;cases h;rw [e0];exact (zoU T).mono (by decide)
 rw [zN e0] at h
 cases h
def zoW:FnScope ["self", "word"] ["self", "word"] (zT zdf):=⟨rfl,rfl,rfl,by decide +kernel,rfl,by decide +kernel,by decide +kernel⟩
def zgO:ze->Mo Fl :=
  (sFld "many" insOf (zd 0) (zu je (zc (zf zq (jy (kdAt zar zas) (zd 1)) (mC (.int 0))) zk)))
def zgP:ze->Mo Fl :=
  zv (sFld "word" insOf (zd 0) (zd 1)) (zgO)
def zdz:List PV->Mo PV:=yp 2 2 (zgP)
def zoX (T:Txt w K mg):NOk P w K mg base "Op" 1 zdz:=T.n_Op.ok (k:=0) zoW fun f cdv A outer s H E hr =>
  by
 refine zA ?_ ?_
 refine ze4 T.d_word ?_ ?_
 exact (zj 0)
 exact (zj 1)
 refine zJ ?_
 refine ze4 T.d_many ?_ ?_
 exact (zj 0)
 refine wj wV T.b_len wS ?_
 refine zg ?_ ?_
 refine zU ?_ ?_ ?_ ?_
 exact (zW (zy hr))
 refine zlF (T.kd_OPS _ rfl rfl rfl) ?_
 exact (zj 1)
 exact zn
 exact fun _ _=>rfl
 exact zo
def zoY:FnScope ["word"] ["word"] (zT zgo):=⟨rfl,rfl,rfl,by decide +kernel,rfl,by decide +kernel,by decide +kernel⟩
def zgQ:ze->Mo Fl :=
  (zY (zu (newI "Op" zdz) (zc (zd 0) zk)))
def zgR:ze->Mo Fl :=
  zv (ya (mB (jy (kdIn true zar zas zdh) (zd 0)))
  (zc2 "NoOp" "word" (zd 0))
  yd) (zgQ)
def zbv:List PV->Mo PV:=yp 1 1 (zgR)
def zoZ (T:Txt w K mg):FOk P w K mg base "op_of" 3 zbv:=T.f_op_of.ok (k:=2) zoY fun f cdv A outer s H E hr =>
  by
 refine zA ?_ ?_
 refine yv ?_ ?_ ?_
 refine zlH (T.kd_OPS _ rfl rfl rfl) ?_
 exact (zj 0)
 refine zJ ?_
 refine zlE (znz T) ?_ (hr.mono (by decide)) zR rfl
 exact (zj 0)
 exact yw
 refine zJ ?_
 refine ye ?_
 refine zln (zoX T) (hr.mono (by decide)) zR ?_
 refine zg ?_ ?_
 exact (zj 0)
 exact zo
def zo0:FnScope ["step"] ["step"] (zT zgp):=⟨rfl,rfl,rfl,by decide +kernel,rfl,by decide +kernel,by decide +kernel⟩
def zo1:ze->Mo Fl :=
  (zY (zbV (zf zS (zf zq (zd 0) (mC (.int 0))) (mC (.str "let"))) (zb0 "falls" zaQ (zu zbv (zc (zf zq (zd 0) (mC (.int 2))) zk)) zk)))
def zcn:List PV->Mo PV:=yp 1 1 (zo1)
def zo2 (T:Txt w K mg):FOk P w K mg base "is_falling" 4 zcn:=T.f_is_falling.ok (k:=3) zo0 fun f cdv A outer s H E hr =>
  by
 refine zJ ?_
 refine ye ?_
 refine zkU ?_ ?_
 refine zcU (yy (zy hr)) ?_ ?_
 refine zU ?_ ?_ ?_ ?_
 exact (zW (zy hr))
 exact (zj 0)
 exact zn
 exact fun _ _=>rfl
 exact zD
 refine zkT ?_
 refine zlk (fun c m h=>zoV T h) ?_ (hr.mono (by decide)) zR
 refine zP (zoZ T) (hr.mono (by decide)) zR ?_
 refine zg ?_ ?_
 refine zU ?_ ?_ ?_ ?_
 exact (zW (zy hr))
 exact (zj 0)
 exact zn
 exact fun _ _=>rfl
 exact zo
def zgS:FnScope ["steps", "atom"] ["steps", "atom"] (zT zgq):=⟨rfl,rfl,rfl,by decide +kernel,rfl,by decide +kernel,by decide +kernel⟩
def zo3:ze->Mo Fl :=
  (zY (zd 1))
def zo4:ze->Mo Fl :=
  zv (ya (mB (zf (yM false) (zf zq (zd 1) (mC (.int 1))) (zd 0)))
  (zY (zx (zc (mC (.str "made")) (zc (zf zq (zd 1) (mC (.int 1))) zk))))
  yd) (zo3)
def zgT:ze->Mo Fl :=
  zv (ya (mB (zf zS (zf zq (zd 1) (mC (.int 0))) (mC (.str "is"))))
  (zY (zx (zc (mC (.str "is")) (zc (mC .non) zk))))
  yd) (zo4)
def zo5:ze->Mo Fl :=
  zv (zb3 (jM (mB (zf zS (zf zq (zd 1) (mC (.int 0))) (mC (.str "of")))) (jM (mB (zf (yM false) (zf zq (zd 1) (mC (.int 1))) (zd 0))) (mB (zu zcn (zc (zf zq (zd 0) (zf zq (zd 1) (mC (.int 1)))) zk)))))
  (zC 1 (zf zq (zf zq (zf zq (zd 0) (zf zq (zd 1) (mC (.int 1)))) (mC (.int 3))) (mC (.int 0))))) (zgT)
def zgU:List PV->Mo PV:=yp 2 2 (zo5)
def zo6 (T:Txt w K mg):FOk P w K mg base "root_among" 5 zgU:=T.f_root_among.ok (k:=4) zgS fun f cdv A outer s H E hr =>
  by
 refine zA ?_ ?_
 refine zc1 (jD rfl rfl) ?_ ?_
 refine zah ?_
 refine zbT ?_ ?_
 refine yj (yy (zy hr)) ?_ ?_
 refine zU ?_ ?_ ?_ ?_
 exact (zW (zy hr))
 exact (zj 1)
 exact zn
 exact fun _ _=>rfl
 exact zD
 refine zbT ?_ ?_
 refine yj (zb6 (zy hr)) ?_ ?_
 refine zU ?_ ?_ ?_ ?_
 exact (zW (zy hr))
 exact (zj 1)
 exact zn
 exact fun _ _=>rfl
 exact (zj 0)
 refine zcT ?_
 refine zcS ?_
 refine zP (zo2 T) (hr.mono (by decide)) zR ?_
 refine zg ?_ ?_
 refine zU ?_ ?_ ?_ ?_
 exact (zW (zy hr))
 exact (zj 0)
 refine zU ?_ ?_ ?_ ?_
 exact (zW (zy hr))
 exact (zj 1)
 exact zn
 exact fun _ _=>rfl
 exact fun _ _=>rfl
 exact zo
 refine zJ ?_
 refine zV 1 ?_ ?_
 refine zU ?_ ?_ ?_ ?_
 exact (zW (zy hr))
 refine zU ?_ ?_ ?_ ?_
 exact (zW (zy hr))
 refine zU ?_ ?_ ?_ ?_
 exact (zW (zy hr))
 exact (zj 0)
 refine zU ?_ ?_ ?_ ?_
 exact (zW (zy hr))
 exact (zj 1)
 exact zn
 exact fun _ _=>rfl
 exact fun _ _=>rfl
 exact zn
 exact fun _ _=>rfl
 exact zn
 exact fun _ _=>rfl
 exact zgS.nd
 refine zA ?_ ?_
 refine yv ?_ ?_ ?_
 refine yj (yy (zy hr)) ?_ ?_
 refine zU ?_ ?_ ?_ ?_
 exact (zW (zy hr))
 exact (zj 1)
 exact zn
 exact fun _ _=>rfl
 exact zD
 refine zJ ?_
 refine ye ?_
 refine zF ?_
 refine zg ?_ ?_
 exact zD
 refine zg ?_ ?_
 exact zcQ
 exact zo
 exact yw
 refine zA ?_ ?_
 refine yv ?_ ?_ ?_
 refine yj (zb6 (zy hr)) ?_ ?_
 refine zU ?_ ?_ ?_ ?_
 exact (zW (zy hr))
 exact (zj 1)
 exact zn
 exact fun _ _=>rfl
 exact (zj 0)
 refine zJ ?_
 refine ye ?_
 refine zF ?_
 refine zg ?_ ?_
 exact zD
 refine zg ?_ ?_
 refine zU ?_ ?_ ?_ ?_
 exact (zW (zy hr))
 exact (zj 1)
 exact zn
 exact fun _ _=>rfl
 exact zo
 exact yw
 refine zJ ?_
 refine ye ?_
 exact (zj 1)
def zco:FnScope ["block", "end", "lines"] ["block"] (zT zgr):=⟨rfl,rfl,rfl,by decide +kernel,rfl,by decide +kernel,by decide +kernel⟩
def zo7 (mr:List PV->Mo PV):ze->Mo Fl :=
  (zY (zd 2))
def zo8 (mr:List PV->Mo PV):ze->Mo Fl :=
  zv (ya (mB (zf zS (zf zq (zd 1) (mC (.int 0))) (mC (.str "if"))))
  (zY (zf zI (zf zI (zd 2) (zu mr (zc (zf zq (zd 1) (mC (.int 2))) zk))) (zu mr (zc (zf zq (zd 1) (mC (.int 3))) zk))))
  yd) (zo7 mr)
def zo9 (mr:List PV->Mo PV):ze->Mo Fl :=
  zv (zC 2 (zf zI (zf zq (zd 0) (mC (.int 0))) (zx (zc (zd 1) zk)))) (zo8 mr)
def zpa (mr:List PV->Mo PV):ze->Mo Fl :=
  zv (zC 1 (zf zq (zd 0) (mC (.int 1)))) (zo9 mr)
def zdA (mr:List PV->Mo PV):List PV->Mo PV:=yp 1 3 (zpa mr)
def zpb (T:Txt w K mg) {k:Nat} (hk:1<=k) {mr:List PV->Mo PV} (hmr:FOk P w K mg base "lines_of" k mr):FOk P w K mg base "lines_of" (k+1) (zdA mr):=T.f_lines_of.ok (k:=k+0) zco fun f cdv A outer s H E hr =>
  by
 refine zA ?_ ?_
 refine zV 1 ?_ ?_
 refine zU ?_ ?_ ?_ ?_
 exact (zW (zy hr))
 exact (zj 0)
 exact zn
 exact fun _ _=>rfl
 exact zco.nd
 refine zA ?_ ?_
 refine zV 2 ?_ ?_
 refine zp yk ?_ ?_
 refine zU ?_ ?_ ?_ ?_
 exact (zW (zy hr))
 exact (zj 0)
 exact zn
 exact fun _ _=>rfl
 refine zF ?_
 refine zg ?_ ?_
 exact (zj 1)
 exact zo
 exact zco.nd
 refine zA ?_ ?_
 refine yv ?_ ?_ ?_
 refine yj (yy (zy hr)) ?_ ?_
 refine zU ?_ ?_ ?_ ?_
 exact (zW (zy hr))
 exact (zj 1)
 exact zn
 exact fun _ _=>rfl
 exact zD
 refine zJ ?_
 refine ye ?_
 refine zp yk ?_ ?_
 refine zp yk ?_ ?_
 exact (zj 2)
 refine zP hmr (hr.mono (by omega)) zR ?_
 refine zg ?_ ?_
 refine zU ?_ ?_ ?_ ?_
 exact (zW (zy hr))
 exact (zj 1)
 exact zn
 exact fun _ _=>rfl
 exact zo
 refine zP hmr (hr.mono (by omega)) zR ?_
 refine zg ?_ ?_
 refine zU ?_ ?_ ?_ ?_
 exact (zW (zy hr))
 exact (zj 1)
 exact zn
 exact fun _ _=>rfl
 exact zo
 exact yw
 refine zJ ?_
 refine ye ?_
 exact (zj 2)
def zaR:Nat->List PV->Mo PV
 | 0=>yp 1 3 zc4
 | n+1=>zdA (zaR n)
def zgV (T:Txt w K mg):∀n,FOk P w K mg base "lines_of" (1+1+1*n) (zaR n)
 | 0=>T.f_lines_of.ok (k:=1) zco fun f cdv A outer s H E hr=>zfM
 | n+1=>(zpb T (by omega) (zgV T n)).mono (by omega)
def zpc:FnScope ["line"] ["line"] (zT zgs):=⟨rfl,rfl,rfl,by decide +kernel,rfl,by decide +kernel,by decide +kernel⟩
def zpd:ze->Mo Fl :=
  (zY (zf (yM false) (zf zq (zd 0) (mC (.int 0))) (zx (zc (mC (.str "let")) (zc (mC (.str "call")) zk)))))
def zaS:List PV->Mo PV:=yp 1 1 (zpd)
def zpe (T:Txt w K mg):FOk P w K mg base "is_step" 1 zaS:=T.f_is_step.ok (k:=0) zpc fun f cdv A outer s H E hr =>
  by
 refine zJ ?_
 refine ye ?_
 refine zcU (zb6 (zy hr)) ?_ ?_
 refine zU ?_ ?_ ?_ ?_
 exact (zW (zy hr))
 exact (zj 0)
 exact zn
 exact fun _ _=>rfl
 refine zF ?_
 refine zg ?_ ?_
 exact zD
 refine zg ?_ ?_
 exact zD
 exact zo
def zdB:FnScope ["function", "steps", "line"] ["function"] (zT zgt):=⟨rfl,rfl,rfl,by decide +kernel,rfl,by decide +kernel,by decide +kernel⟩
def zpf:ze->Mo Fl :=
  (zY (zd 1))
def zpg:ze->Mo Fl :=
  zv (jd (yY (zu (zaR 12) (zc (zf zq (zd 0) (mC (.int 2))) zk))) (gN 2)
  (ya (mB (zu zaS (zc (zd 2) zk)))
  (zbj (zd 1) (zf zq (zd 2) (mC (.int 1))) (zd 2))
  yd)) (zpf)
def zph:ze->Mo Fl :=
  zv (zC 1 zfn) (zpg)
def zdC:List PV->Mo PV:=yp 1 3 (zph)
def zpi (T:Txt w K mg):FOk P w K mg base "steps_by_name" 15 zdC:=T.f_steps_by_name.ok (k:=14) zdB fun f cdv A outer s H E hr =>
  by
 refine zA ?_ ?_
 refine zV 1 ?_ ?_
 exact zmm
 exact zdB.nd
 refine zA ?_ ?_
 refine wz (jD rfl rfl) rfl ?_ ?_ ?_
 refine zak ?_
 refine zP (zgV T 12) (hr.mono (by decide)) zR ?_
 refine zg ?_ ?_
 refine zU ?_ ?_ ?_ ?_
 exact (zW (zy hr))
 exact (zj 0)
 exact zn
 exact fun _ _=>rfl
 exact zo
 exact (wy 2 zdB.nd)
 refine zJ ?_
 refine yv ?_ ?_ ?_
 refine zcS ?_
 refine zP (zpe T) (hr.mono (by decide)) zR ?_
 refine zg ?_ ?_
 exact (zj 2)
 exact zo
 refine zJ ?_
 refine zmp ?_ ?_ ?_ ?_ ?_
 exact (zy hr)
 exact (zj 1)
 refine zU ?_ ?_ ?_ ?_
 exact (zW (zy hr))
 exact (zj 2)
 exact zn
 exact fun _ _=>rfl
 exact (zj 2)
 rfl
 exact yw
 refine zJ ?_
 refine ye ?_
 exact (zj 1)
def zpj:FnScope ["function", "atom"] ["function", "atom"] (zT zgu):=⟨rfl,rfl,rfl,by decide +kernel,rfl,by decide +kernel,by decide +kernel⟩
def zpk:ze->Mo Fl :=
  (zY (zu zgU (zc (zu zdC (zc (zd 0) zk)) (zc (zd 1) zk))))
def wE:List PV->Mo PV:=yp 2 2 (zpk)
def zdD (T:Txt w K mg):FOk P w K mg base "root" 16 wE:=T.f_root.ok (k:=15) zpj fun f cdv A outer s H E hr =>
  by
 refine zJ ?_
 refine ye ?_
 refine zP (zo6 T) (hr.mono (by decide)) zR ?_
 refine zg ?_ ?_
 refine zP (zpi T) (hr.mono (by decide)) zR ?_
 refine zg ?_ ?_
 exact (zj 0)
 exact zo
 refine zg ?_ ?_
 exact (zj 1)
 exact zo
def zcp:FnScope ["_law_function", "_law_atom_here", "_law_steps", "_law_line"] ["_law_function", "_law_atom_here"] (zT zci):=⟨rfl,rfl,rfl,by decide +kernel,rfl,by decide +kernel,by decide +kernel⟩
def zpl:ze->Mo Fl :=
  (zY (zx (zc (mC (.str "of")) (zc (zf zq (zd 1) (mC (.int 1))) zk))))
def zgW:ze->Mo Fl :=
  zv (ya (mB (zf zS (zf zq (zd 1) (mC (.int 0))) (mC (.str "is"))))
  (zY (zx (zc (mC (.str "is")) (zc (mC .non) zk))))
  yd) (zpl)
def zpm:ze->Mo Fl :=
  zv (zb3 (jM (mB (zf zS (zf zq (zd 1) (mC (.int 0))) (mC (.str "of")))) (mB (zf (yM true) (zf zq (zd 1) (mC (.int 1))) (zf zq (zd 0) (mC (.int 1))))))
  (zv (zC 3 (zf zq (jR (yY (zd 2)) (mB (zf jQ (zf zq (zd 0) (mC (.int 1))) (zf zq (zd 2) (mC (.int 1))))) (zd 0)) (mC (.int 0))))
  (zv (ya (jn (mB (zf zS (zf zq (zd 3) (mC (.int 0))) (mC (.str "call")))) (mB (zf (yM true) (zf zq (zd 3) (mC (.int 2))) (zx (zaI ["down", "head", "rest", "item", "field"])))))
  (zY (zx (zc (mC (.str "made")) (zc (zf zq (zd 1) (mC (.int 1))) zk))))
  yd)
  (zC 1 (zf zq (zf zq (zd 3) (mC (.int 3))) (mC (.int 0))))))) (zgW)
def zpn:ze->Mo Fl :=
  zv (zC 2 (jR (yY (zu zau (zc (zf zq (zd 0) (mC (.int 2))) zk))) (jn (mB (zf zS (zf zq (zd 0) (mC (.int 0))) (mC (.str "let")))) (mB (zf zS (zf zq (zd 0) (mC (.int 0))) (mC (.str "call"))))) (zd 0))) (zpm)
def zaT:List PV->Mo PV:=yp 2 4 (zpn)
def zgX (T:Txt w K mg):FOk P w K mg base "_law_root" 2 zaT:=T.f__law_root.ok (k:=1) zcp fun f cdv A outer s H E hr =>
  by
 refine zA ?_ ?_
 refine znt 2 (M:=["_law_function", "_law_atom_here", "_law_steps", "~_law_line"]) rfl (by exact ⟨rfl,by decide +kernel,by decide +kernel,by show ∀y:Str×NameKind,y∈_->y.2=NameKind.free->List.lookup y.1 (zT zci).names=some NameKind.cell;decide +kernel⟩) (by exact ⟨rfl,by show ∀p∈List.zip (["_law_function", "_law_atom_here", "_law_steps", "~_law_line"]:List Str) (["_law_function", "_law_atom_here", "_law_steps", "_law_line"]:List Str),p.1=p.2\/p.1∉(_:List Str);decide +kernel⟩) (by decide +kernel) ?_ ?_ ?_ zcp.nd rfl (by first|exact Or.inl rfl|exact Or.inr rfl) (by first|exact .inl rfl|exact .inr rfl|assumption) (by rfl)
 refine zak ?_
 refine zP (zgN T) (hr.mono (by decide)) zR ?_
 refine zg ?_ ?_
 refine zU ?_ ?_ ?_ ?_
 exact (zW (zy hr))
 exact (zj 0)
 exact zn
 exact fun _ _=>rfl
 exact zo
 intro _ _ _ _ _
 refine zah ?_
 refine zbU ?_ ?_
 refine yj (yy (zy hr)) ?_ ?_
 refine zU ?_ ?_ ?_ ?_
 exact (zW (zy hr))
 exact (zj 0)
 exact zn
 exact fun _ _=>rfl
 exact zD
 refine zbS ?_
 refine yj (yy (zy hr)) ?_ ?_
 refine zU ?_ ?_ ?_ ?_
 exact (zW (zy hr))
 exact (zj 0)
 exact zn
 exact fun _ _=>rfl
 exact zD
 intro _ _ _ _ _
 exact (zj 0)
 refine zA ?_ ?_
 refine zc1 (jD rfl rfl) ?_ ?_
 refine zah ?_
 refine zbT ?_ ?_
 refine yj (yy (zy hr)) ?_ ?_
 refine zU ?_ ?_ ?_ ?_
 exact (zW (zy hr))
 exact (zj 1)
 exact zn
 exact fun _ _=>rfl
 exact zD
 refine zcT ?_
 refine yj (zfr (zy hr)) ?_ ?_
 refine zU ?_ ?_ ?_ ?_
 exact (zW (zy hr))
 exact (zj 1)
 exact zn
 exact fun _ _=>rfl
 refine zU ?_ ?_ ?_ ?_
 exact (zW (zy hr))
 exact (zj 0)
 exact zn
 exact fun _ _=>rfl
 refine zA ?_ ?_
 refine zV 3 ?_ ?_
 refine zU ?_ ?_ ?_ ?_
 exact (zW (zy hr))
 refine zf2 (N:=["_law_function", "_law_atom_here", "_law_steps", "_law_line"]) rfl (by exact ⟨rfl,by decide +kernel,by decide +kernel,by show ∀y:Str×NameKind,y∈_->y.2=NameKind.free->List.lookup y.1 (zT zci).names=some NameKind.cell;decide +kernel⟩) rfl (by decide +kernel) ?_ ?_ ?_
 refine zak ?_
 exact (zj 2)
 intro _ _ _ _ _
 refine yj (zfU (zy hr)) ?_ ?_
 refine zU ?_ ?_ ?_ ?_
 exact (zW (zy hr))
 exact (zj 0)
 exact zn
 exact fun _ _=>rfl
 refine zU ?_ ?_ ?_ ?_
 exact (zW (zy hr))
 exact (zj 2)
 exact zn
 exact fun _ _=>rfl
 intro _ _ _ _ _
 exact (zj 0)
 exact zn
 exact fun _ _=>rfl
 exact zcp.nd
 refine zA ?_ ?_
 refine yv ?_ ?_ ?_
 refine zah ?_
 refine zbU ?_ ?_
 refine yj (yy (zy hr)) ?_ ?_
 refine zU ?_ ?_ ?_ ?_
 exact (zW (zy hr))
 exact (zj 3)
 exact zn
 exact fun _ _=>rfl
 exact zD
 refine zbS ?_
 refine yj (zfr (zy hr)) ?_ ?_
 refine zU ?_ ?_ ?_ ?_
 exact (zW (zy hr))
 exact (zj 3)
 exact zn
 exact fun _ _=>rfl
 refine zF ?_
 refine zca ?_
 decide +kernel
 refine zJ ?_
 refine ye ?_
 refine zF ?_
 refine zg ?_ ?_
 exact zD
 refine zg ?_ ?_
 refine zU ?_ ?_ ?_ ?_
 exact (zW (zy hr))
 exact (zj 1)
 exact zn
 exact fun _ _=>rfl
 exact zo
 exact yw
 refine zJ ?_
 refine zV 1 ?_ ?_
 refine zU ?_ ?_ ?_ ?_
 exact (zW (zy hr))
 refine zU ?_ ?_ ?_ ?_
 exact (zW (zy hr))
 exact (zj 3)
 exact zn
 exact fun _ _=>rfl
 exact zn
 exact fun _ _=>rfl
 exact zcp.nd
 refine zA ?_ ?_
 refine yv ?_ ?_ ?_
 refine yj (yy (zy hr)) ?_ ?_
 refine zU ?_ ?_ ?_ ?_
 exact (zW (zy hr))
 exact (zj 1)
 exact zn
 exact fun _ _=>rfl
 exact zD
 refine zJ ?_
 refine ye ?_
 refine zF ?_
 refine zg ?_ ?_
 exact zD
 refine zg ?_ ?_
 exact zcQ
 exact zo
 exact yw
 refine zJ ?_
 refine ye ?_
 refine zF ?_
 refine zg ?_ ?_
 exact zD
 refine zg ?_ ?_
 refine zU ?_ ?_ ?_ ?_
 exact (zW (zy hr))
 exact (zj 1)
 exact zn
 exact fun _ _=>rfl
 exact zo
def w6:FnScope ["_law_script", "_law_program_here", "_law_function", "_law_names", "_law_name_here", "_law_found"] ["_law_script"] (zT zcj):=⟨rfl,rfl,rfl,by decide +kernel,rfl,by decide +kernel,by decide +kernel⟩
def zpo:ze->Mo Fl :=
  (zY (mC (.bl true)))
def zpp:ze->Mo Fl :=
  zv (jd (yY (jE (zd 1) pNone (pSome (mC (.int 12))))) (gN 2)
  (zv (zC 3 (zu j3 (zc (zf zq (zd 2) (mC (.int 1))) zk)))
  (zv (zC 3 (zf zI (zd 3) (jR (yY (zu zau (zc (zf zq (zd 2) (mC (.int 2))) zk))) (jn (mB (zf zS (zf zq (zd 0) (mC (.int 0))) (mC (.str "let")))) (mB (zf zS (zf zq (zd 0) (mC (.int 0))) (mC (.str "call"))))) (zf zq (zd 0) (mC (.int 1))))))
  (zv (jd (yY (zd 3)) (gN 4)
  (zv (zC 5 (zu wE (zc (zd 2) (zc (zx (zc (mC (.str "of")) (zc (zd 4) zk))) zk))))
  (ya (jn (za8 (mB (zu (zb2 isT) (zc (zd 5) (zc (mC (.ty "tuple")) zk))))) (mB (zf wx (zd 5) (zu zaT (zc (zd 2) (zc (zx (zc (mC (.str "of")) (zc (zd 4) zk))) zk))))))
  (zY (mC (.bl false)))
  yd)))
  (zv (ya (mB (zf wx (zu wE (zc (zd 2) (zc (zx (zc (mC (.str "is")) (zc (zu zbr (zc (zu yJ (zc (zd 0) (zc (mC (.int 7)) zk))) zk)) zk))) zk))) (zx (zc (mC (.str "is")) (zc (mC .non) zk)))))
  (zY (mC (.bl false)))
  yd)
  (jd (yY (jE (zd 3) pNone (pSome (mC (.int 3))))) (gN 4)
  (ya (mB (zf wx (zu wE (zc (zd 2) (zc (zx (zc (mC (.str "of")) (zc (zd 4) zk))) zk))) (zu zaT (zc (zd 2) (zc (zx (zc (mC (.str "of")) (zc (zd 4) zk))) zk)))))
  (zY (mC (.bl false)))
  yd))))))) (zpo)
def zpq:ze->Mo Fl :=
  zv (zC 1 (zu zdy (zc (zd 0) zk))) (zpp)
def zgY:List PV->Mo PV:=yp 1 6 (zpq)
def zpr (T:Txt w K mg) {f:Addr} {fd:FuncData} (F:Fun K "law" "law" zcj f fd):FnOk P w K mg base (CXe P w) 17 f fd ["_law_script"] (spM K mg zgY):=zb4 (k:=16) F w6 fun cdv A outer s H E hr =>
  by
 refine zA ?_ ?_
 refine zV 1 ?_ ?_
 refine zP (zoN T) (hr.mono (by decide)) zR ?_
 refine zg ?_ ?_
 exact (zj 0)
 exact zo
 exact w6.nd
 refine zA ?_ ?_
 refine wz (jD rfl rfl) rfl ?_ ?_ ?_
 refine zak ?_
 refine zbc ?_ ?_ ?_
 exact (zj 1)
 exact zbb
 refine zaD ?_
 exact zn
 exact (wy 2 w6.nd)
 refine zA ?_ ?_
 refine zV 3 ?_ ?_
 refine jO (zfL rfl) T.b_list ze7 ?_
 refine zg ?_ ?_
 refine zU ?_ ?_ ?_ ?_
 exact (zW (zy hr))
 exact (zj 2)
 exact zn
 exact fun _ _=>rfl
 exact zo
 exact w6.nd
 refine zA ?_ ?_
 refine zV 3 ?_ ?_
 refine zp yk ?_ ?_
 exact (zj 3)
 refine zf2 (N:=["_law_script", "_law_program_here", "_law_function", "_law_names", "_law_name_here", "_law_found"]) rfl (by exact ⟨rfl,by decide +kernel,by decide +kernel,by show ∀y:Str×NameKind,y∈_->y.2=NameKind.free->List.lookup y.1 (zT zcj).names=some NameKind.cell;decide +kernel⟩) rfl (by decide +kernel) ?_ ?_ ?_
 refine zak ?_
 refine zP (zgN T) (hr.mono (by decide)) zR ?_
 refine zg ?_ ?_
 refine zU ?_ ?_ ?_ ?_
 exact (zW (zy hr))
 exact (zj 2)
 exact zn
 exact fun _ _=>rfl
 exact zo
 intro _ _ _ _ _
 refine zah ?_
 refine zbU ?_ ?_
 refine yj (yy (zy hr)) ?_ ?_
 refine zU ?_ ?_ ?_ ?_
 exact (zW (zy hr))
 exact (zj 0)
 exact zn
 exact fun _ _=>rfl
 exact zD
 refine zbS ?_
 refine yj (yy (zy hr)) ?_ ?_
 refine zU ?_ ?_ ?_ ?_
 exact (zW (zy hr))
 exact (zj 0)
 exact zn
 exact fun _ _=>rfl
 exact zD
 intro _ _ _ _ _
 refine zU ?_ ?_ ?_ ?_
 exact (zW (zy hr))
 exact (zj 0)
 exact zn
 exact fun _ _=>rfl
 exact w6.nd
 refine zA ?_ ?_
 refine wz (jD rfl rfl) rfl ?_ ?_ ?_
 refine zak ?_
 exact (zj 3)
 exact (wy 4 w6.nd)
 refine zA ?_ ?_
 refine zV 5 ?_ ?_
 refine zP (zdD T) (hr.mono (by decide)) zR ?_
 refine zg ?_ ?_
 exact (zj 2)
 refine zg ?_ ?_
 refine zF ?_
 refine zg ?_ ?_
 exact zD
 refine zg ?_ ?_
 exact (zj 4)
 exact zo
 exact zo
 exact w6.nd
 refine zJ ?_
 refine yv ?_ ?_ ?_
 refine zah ?_
 refine zbU ?_ ?_
 refine zkS ?_
 refine zcS ?_
 refine wj (zlt T.is) T.b_isinstance zlK ?_
 refine zg ?_ ?_
 exact (zj 5)
 refine zg ?_ ?_
 exact (zld T.b_tuple wA)
 exact zo
 refine zbS ?_
 refine yj (zcZ (zy hr)) ?_ ?_
 exact (zj 5)
 refine zP (zgX T) (hr.mono (by decide)) zR ?_
 refine zg ?_ ?_
 exact (zj 2)
 refine zg ?_ ?_
 refine zF ?_
 refine zg ?_ ?_
 exact zD
 refine zg ?_ ?_
 exact (zj 4)
 exact zo
 exact zo
 refine zJ ?_
 refine ye ?_
 exact zbQ
 exact yw
 refine zA ?_ ?_
 refine yv ?_ ?_ ?_
 refine yj (zcZ (zy hr)) ?_ ?_
 refine zP (zdD T) (hr.mono (by decide)) zR ?_
 refine zg ?_ ?_
 exact (zj 2)
 refine zg ?_ ?_
 refine zF ?_
 refine zg ?_ ?_
 exact zD
 refine zg ?_ ?_
 refine zP (zgy T) (hr.mono (by decide)) zR ?_
 refine zg ?_ ?_
 refine zP (jA T) (hr.mono (by decide)) zR ?_
 refine zg ?_ ?_
 exact (zj 0)
 refine zg ?_ ?_
 exact zn
 exact zo
 exact zo
 exact zo
 exact zo
 refine zF ?_
 refine zg ?_ ?_
 exact zD
 refine zg ?_ ?_
 exact zcQ
 exact zo
 refine zJ ?_
 refine ye ?_
 exact zbQ
 exact yw
 refine zJ ?_
 refine wz (jD rfl rfl) rfl ?_ ?_ ?_
 refine zak ?_
 refine zbc ?_ ?_ ?_
 exact (zj 3)
 exact zbb
 refine zaD ?_
 exact zn
 exact (wy 4 w6.nd)
 refine zJ ?_
 refine yv ?_ ?_ ?_
 refine yj (zcZ (zy hr)) ?_ ?_
 refine zP (zdD T) (hr.mono (by decide)) zR ?_
 refine zg ?_ ?_
 exact (zj 2)
 refine zg ?_ ?_
 refine zF ?_
 refine zg ?_ ?_
 exact zD
 refine zg ?_ ?_
 exact (zj 4)
 exact zo
 exact zo
 refine zP (zgX T) (hr.mono (by decide)) zR ?_
 refine zg ?_ ?_
 exact (zj 2)
 refine zg ?_ ?_
 refine zF ?_
 refine zg ?_ ?_
 exact zD
 refine zg ?_ ?_
 exact (zj 4)
 exact zo
 exact zo
 refine zJ ?_
 refine ye ?_
 exact zbQ
 exact yw
 refine zJ ?_
 refine ye ?_
 exact zbQ
end
def zdE (i j:Int) (h:0<j):yF i j=i%j:=by unfold yF;rw [zE h]
def zps (i j:Int) (h:0<j):y6 i j=i/j:=by unfold y6;rw [zE h]
abbrev abc:Str := "abcdefghijklmnopqrstuvwxyz"
def Old (a b:Sto):Prop:=∀(n:Nat) so,a[n]?=some so->b[n]?=some so
def Old.refl (a:Sto):Old a a:=fun _ _ e=>e
def Old.trans {a b c:Sto}(h:Old a b) (h':Old b c):Old a c:=fun n so e=>h' n so (h n so e)
def zpt {a b:Sto}(h:Pre a b):Old a b:=fun n so e=>h.get e
def yf (a d:Sto):Old a (a++d):=zpt (Pre.of a d)
def zgZ {g:PV->ze->Option ze}{body:ze->Mo Fl}(I:Nat->ze->Sto->Prop) (n:Nat) (hb:∀i e st,i<n->I i e st->∃e1 e2 st2,g (.int i) e=some e1/\body e1 st=.ok (.nx e2) st2/\I (i+1) e2 st2) :
  ∀(k i:Nat) (env:ze) (st:Sto),i+k=n->I i env st->∃env' st',forL g body ((List.range' i k).map fun i:Nat=>PV.int i) env st=.ok (.nx env') st'/\I n env' st'
 | 0,i,env,st,hk,h=>⟨env,st,by simp,by rw [<-hk];exact h⟩
 | k+1,i,env,st,hk,h=>by
  obtain ⟨e1,e2,st2,q1,q2,q3⟩:=hb i env st (by omega) h
  obtain ⟨env',st',r1,r2⟩:=zgZ I n hb k (i+1) e2 st2 (by omega) q3
  refine ⟨env',st',?_,r2⟩
  rw [List.range'_succ,ji]
  unfold forL
  rw [q1]
  simp only
  rw [q2]
  simp only [zL]
  exact r1
def zpu (m:Nat) (st:Sto) (h:m<=1000):zal [.int (m:Int)] st=.ok (.im ((List.range' 0 m).map fun i:Nat=>PV.int i)) st:=by
 have hr:cR (m:Int)=true:=by simp [cR];omega
 simp [hr,nums,List.range_eq_range']
def modNat (i:Int) (j:Nat) (h:0<j):∃b:Nat,b<j/\yF i j=b:=by
 have h1:=Int.emod_nonneg i (show (j:Int)≠0 by omega)
 have h2:=Int.emod_lt_of_pos i (show (0:Int)<j by omega)
 exact ⟨(i%j).toNat,by omega,by rw [zdE _ _ (by omega)];omega⟩
def yS {st:Sto}{n:Nat}{so:SO}(h:st[n]?=some so):n<st.length:=(yE.mp h).1
def zg0 {fe:ze->Mo PV}{env:ze}(xs:List PV) (I:Nat->List PV->Sto->Prop) (step:∀i x ys st,xs[i]?=some x->I i ys st->∃y st1,fe (some x::env) st=.ok y st1/\I (i+1) (ys++[y]) st1) :
  ∀(k i:Nat) (ys:List PV) (st:Sto),i+k=xs.length->I i ys st->∃ys' st',compL fe env (xs.drop i) ys st=.ok (.ref st'.length) (st'++[.lst ys'])/\I xs.length ys' st'
 | 0,i,ys,st,hk,h=>⟨ys,st,by rw [za0 (by omega)];rfl,by rw [<-hk];exact h⟩
 | k+1,i,ys,st,hk,h=>by
  have hx:xs[i]?=some (xs[i]'(by omega)):=yn (by omega)
  obtain ⟨y,st1,e,h1⟩:=step i _ ys st hx h
  obtain ⟨ys',st',r,h2⟩:=zg0 xs I step k (i+1) (ys++[y]) st1 (by omega) h1
  refine ⟨ys',st',?_,h2⟩
  rw [jJ (by omega)]
  unfold compL
  rw [e]
  simp only [zc6,zL]
  exact r
abbrev S (l:List Nat):Str:=⟨l.toArray⟩
def zcq (z:Str):S z.cps.toList=z:=by cases z;simp [S]
def ad (x y:Str) (h:x.length+y.length<=1000000) (st:Sto):zI (.str x) (.str y) st=.ok (.str (x++y)) st:=by
 rw [zlZ,zE h]
def zpv {α:Type}{l:List α}{i:Nat}{x:α}(h:l[i]?=some x):l.take (i+1)=l.take i++[x]:=by
 obtain ⟨hi,e⟩:=yE.mp h
 rw [<-e,List.take_append_getElem]
def zdF {g:PV->ze->Option ze}{body:ze->Mo Fl}{n:Nat}(xs:List PV) (I:Nat->ze->Sto->Prop) (at_:∀i e st,I i e st->st[n]?=some (.lst xs)) (step:∀i x e st,xs[i]?=some x->I i e st->∃e1 e2 st2,g x e=some e1/\body e1 st=.ok (.nx e2) st2/\I (i+1) e2 st2) :
  ∀(k i m:Nat) (env:ze) (st:Sto),i+k=xs.length->k<m->I i env st->∃env' st',forR g body n m i env st=.ok (.nx env') st'/\I xs.length env' st'
 | 0,i,m,env,st,hk,hm,h=>by
  obtain ⟨m,rfl⟩:∃j,m=j+1:=⟨m-1,by omega⟩
  refine ⟨env,st,?_,by rw [<-hk];exact h⟩
  unfold forR
  rw [yt (at_ _ _ _ h),zcB (by omega)]
 | k+1,i,m,env,st,hk,hm,h=>by
  obtain ⟨m,rfl⟩:∃j,m=j+1:=⟨m-1,by omega⟩
  have hx:xs[i]?=some (xs[i]'(by omega)):=yn (by omega)
  obtain ⟨e1,e2,st2,q1,q2,q3⟩:=step i _ env st hx h
  obtain ⟨env',st',r,h2⟩:=zdF xs I at_ step k (i+1) m e2 st2 (by omega) (by omega) q3
  refine ⟨env',st',?_,h2⟩
  unfold forR
  rw [yt (at_ _ _ _ h),hx]
  simp only
  rw [q1]
  simp only
  rw [q2]
  simp only [zL]
  exact r
def atI_get {α:Type}{l:List α}{k:Nat}{x:α}(h:l[k]?=some x):atI l (k:Int)=some x:=by
 have:=(yE.mp h).1
 have e:=(yE.mp h).2
 simp [atI,ixN,this,e]
def zg1 (st:Sto):jN (.int 10) (.int 9) st=.ok (.int 1000000000) st:=by
 have cp:cPow 10 9=true:=by decide
 have pw:((10:Int) ^ (9:Int).toNat)=1000000000:=by decide
 show (if cPow 10 9=true then Res.ok (PV.int (10 ^ (9:Int).toNat)) st else .stuck)=_
 rw [zE cp,pw]
def ltT {i j:Int}(b:Bool) (h:decide (i<j)=b) (st:Sto):wM (.int i) (.int j) st=.ok (.bl b) st:=by rw [znk,h]
def eqT' {i j:Int}(b:Bool) (h:decide (i=j)=b) (st:Sto):zS (.int i) (.int j) st=.ok (.bl b) st:=by rw [znm,h]
def gtT {i j:Int}(b:Bool) (h:decide (j<i)=b) (st:Sto):oGt (.int i) (.int j) st=.ok (.bl b) st:=by rw [znl,h]
def lt_ (j:Nat):Nat:=(abc.cps.toList[j]?).getD 0
def zpw (j:Nat) (hj:j<26) (st:Sto):zq (.str abc) (.int j) st=.ok (.str ⟨#[lt_ j]⟩) st/\lt_ j∈abc.cps.toList:=by
 have hz:abc.cps.toList.length=26:=by decide +kernel
 have lt:j<abc.cps.toList.length:=by omega
 have hl:abc.length<=1000000:=by decide +kernel
 have e:abc.cps.toList[j]?=some (lt_ j):=by unfold lt_;rw [yn lt];rfl
 refine ⟨?_,wc e⟩
 rw [zfA,zme,zE hl,atI_get e]
 rfl
def zpx {n i:Nat}{x:PV}(h:(nums 0 n)[i]?=some x):i<n/\x=.int (i:Int):=by
 unfold nums at h
 rw [jt] at h
 cases e:(List.range n)[i]? with
 | none=>rw [e] at h;cases h
 | some j =>
  rw [e] at h
  obtain ⟨h1,h2⟩:=yE.mp e
  rw [List.getElem_range] at h2
  rw [List.length_range] at h1
  cases h
  exact ⟨h1,by subst h2;simp⟩
def zdG (n:Nat):(nums 0 n).length=n:=by simp [nums]
def zpy (m:Nat) (st:Sto) (h:m<=1000):zal [.int (m:Int)] st=.ok (.im (nums 0 m)) st:=by
 have hr:cR (m:Int)=true:=by simp [cR];omega
 rw [zmM,zE hr];simp
def zdH {fe:ze->Mo PV}{fs:ze->Mo (List PV)}{env:ze}{st s0:Sto}(n:Nat) (hn:n<=1000) (hf:fs env st=.ok [.int (n:Int)] s0) (I:Nat->List PV->Sto->Prop) (step:∀i ys st,i<n->I i ys st->∃y st1,fe (some (.int (i:Int))::env) st=.ok y st1/\I (i+1) (ys++[y]) st1) (h0:I 0 [] s0) :
  ∃ys' st',(j2 (iRng1 fs) fe) env st=.ok (.ref st'.length) (st'++[.lst ys'])/\I n ys' st':=by
 obtain ⟨ys,s1,C,h⟩:=zg0 (fe:=fe) (env:=env) (nums 0 n) I (fun i x ys st hx h=>by
  obtain ⟨hi,rfl⟩:=zpx hx
  exact step i ys st hi h) n 0 [] s0 (by rw [zdG];omega) h0
 rw [zdG] at h
 refine ⟨ys,s1,?_,h⟩
 rw [zmK,zfB,hf,zL,zpy n _ hn,zL,zmL,zE (by rw [zdG];simp [lim];omega)]
 exact C
def le0:("" : Str).length=0:=by decide +kernel
def zpA {fo fi fv:ze->Mo PV}{e:ze}{s s1:Sto}{r:Nat}{z:Str}{x:PV}{ks:List Str}{xs:List PV}(hv:fv e s=.ok x s1) (ho:fo e s1=.ok (.ref r) s1) (hi:fi e s1=.ok (.str z) s1) (hr:s1[r]?=some (.dic ks xs)) (hl:ks.length<=1000) :
  zbj fo fi fv e s=.ok (.nx e) (s1.set r (.dic (jP z x ks xs).1 (jP z x ks xs).2)):=by
 unfold zbj
 rw [hv,zL,ho,zL,hi,zL]
 show (jz s1 r _).bind _=_
 rw [znf hr,zE (by simp [lim];omega),zL]
def zbw {fs:ze->Mo (List PV)}{gt:PV->ze->Option ze}{body:ze->Mo Fl}{e:ze}{st s0:Sto}(I:Nat->ze->Sto->Prop) (n:Nat) (hn:n<=1000) (hf:fs e st=.ok [.int (n:Int)] s0) (step:∀i e st,i<n->I i e st->∃e1 e2 st2,gt (.int (i:Int)) e=some e1/\body e1 st=.ok (.nx e2) st2/\I (i+1) e2 st2) (h0:I 0 e s0) :
  ∃e' s',jd (iRng1 fs) gt body e st=.ok (.nx e') s'/\I n e' s':=by
 obtain ⟨e',s',F,h⟩:=zgZ (g:=gt) (body:=body) I n step n 0 e s0 (by omega) h0
 refine ⟨e',s',?_,h⟩
 rw [zbf,zfB,hf,zL,zpu n _ hn,zL,zl8]
 exact F
def zpB {z:Str}{i c:Nat}(hl:z.length<=1000) (h:z.cps.toList[i]?=some c) (st:Sto):zq (.str z) (.int (i:Int)) st=.ok (.str ⟨#[c]⟩) st:=by
 rw [zfA,zE (by simp [lim];omega),atI_get h]
 rfl
def dvL (c:Nat) (m:Nat) (hm:0<m):y6 (c:Int) (m:Int)=((c/m:Nat):Int):=by rw [zps _ _ (by omega)];exact (Int.natCast_ediv c m).symm
def mdL (c:Nat) (m:Nat) (hm:0<m):yF (c:Int) (m:Int)=((c%m:Nat):Int):=by rw [zdE _ _ (by omega)];exact (Int.natCast_emod c m).symm
def j8 {st:Sto}(c m:Nat) (hm:0<m) (h2:m<2 ^ 60):yr (.int (c:Int)) (.int (m:Int)) st=.ok (.int ((c/m:Nat):Int)) st:=by rw [j4 _ _ (by omega) (by omega),dvL c m hm]
def y0 {st:Sto}(c m:Nat) (hm:0<m):zH (.int (c:Int)) (.int (m:Int)) st=.ok (.int ((c%m:Nat):Int)) st:=by rw [yN _ _ (by omega),mdL c m hm]
def yI {st:Sto}(a b:Nat):zI (.int (a:Int)) (.int (b:Int)) st=.ok (.int ((a+b:Nat):Int)) st:=by rw [zce];congr 2
def jU {st:Sto}(a b:Nat) (h:a<2 ^ 60\/b<2 ^ 60):yK (.int (a:Int)) (.int (b:Int)) st=.ok (.int ((a*b:Nat):Int)) st:=by
 rw [zno _ _ (by simp only [cMul,Bool.or_eq_true,jK,zbC];exact h.elim (fun h=>.inl ⟨by omega,by omega⟩) (fun h=>.inr ⟨by omega,by omega⟩))]
 congr 2
def zg2 {α:Type}{l:List α}(nd:l.Nodup) {i j:Nat}(hi:i<l.length) (hj:j<l.length) (h:l[i]=l[j]):i=j:=by
 have p:=List.pairwise_iff_getElem.mp nd
 rcases Nat.lt_trichotomy i j with q|q|q
 ·exact absurd h (p i j hi hj q)
 ·exact q
 ·exact absurd h.symm (p j i hj hi q)
def zpC {i j:Nat}{f:ze->Mo PV}{e:ze}{st s1:Sto}{x y:PV}(h:f e st=.ok (.tup [x,y]) s1):sTo (g2 i j) f e st=.ok (.nx ((e.set i (some x)).set j (some y))) s1:=by
 unfold sTo
 rw [h,zL]
 rfl
def yB {f fa fb:ze->Mo PV}{e:ze}{st s1 s2 s3:Sto}{x y z:PV}(h:f e st=.ok x s1) (h':fa e s1=.ok y s2) (h2:fb e s2=.ok z s3):zc f (zc fa (zc fb zk)) e st=.ok [x,y,z] s3:=jF h (zQ h' h2)
def jV {f fa fb fc:ze->Mo PV}{e:ze}{st s1 s2 s3 s4:Sto}{x y z w:PV}(h:f e st=.ok x s1) (h':fa e s1=.ok y s2) (h2:fb e s2=.ok z s3) (h3:fc e s3=.ok w s4):zc f (zc fa (zc fb (zc fc zk))) e st=.ok [x,y,z,w] s4:=jF h (yB h' h2 h3)
def zcr {s:Sto}{n:Nat}{xs:List PV}{y:PV}(h:s[n]?=some (.lst xs)) (hl:xs.length<=100000):yZ (.ref n) y s=.ok .non (s.set n (.lst (xs++[y]))):=by rw [zfE,yt h,zE (by simp [lim];omega)]
def zpD {s:Sto}{n:Nat}{xs:List PV}(h:s[n]?=some (.lst xs)):j3 [.ref n] s=.ok (.ref s.length) (s++[.lst xs]):=by
 simp only [j3,h]
 show yh s n _=_
 rw [yt h]
def zpE {s:Sto}{xs:List PV}:j3 [.tup xs] s=.ok (.ref s.length) (s++[.lst xs]):=by
 show zbd [.tup xs] s=_
 rfl
def jg {x:PV}{r:List PV}{st:Sto}:zq (.tup (x::r)) (.int 0) st=.ok x st:=by
 have e:=atI_get (l:=x::r) (k:=0) (x:=x) rfl
 exact (congrArg (fun z=>optR z st) e).trans rfl
def yU {x y:PV}{r:List PV}{st:Sto}:zq (.tup (x::y::r)) (.int 1) st=.ok y st:=by
 have e:=atI_get (l:=x::y::r) (k:=1) (x:=y) rfl
 exact (congrArg (fun z=>optR z st) e).trans rfl
def w8 {x y z:PV}{r:List PV}{st:Sto}:zq (.tup (x::y::z::r)) (.int 2) st=.ok z st:=by
 have e:=atI_get (l:=x::y::z::r) (k:=2) (x:=z) rfl
 exact (congrArg (fun z=>optR z st) e).trans rfl
def ix3 {x y z w:PV}{r:List PV}{st:Sto}:zq (.tup (x::y::z::w::r)) (.int 3) st=.ok w st:=by
 have e:=atI_get (l:=x::y::z::w::r) (k:=3) (x:=w) rfl
 exact (congrArg (fun z=>optR z st) e).trans rfl
def adT {xs ys:List PV}{st:Sto}(h:xs.length+ys.length<=1000000):zI (.tup xs) (.tup ys) st=.ok (.tup (xs++ys)) st:=by
 show (if xs.length+ys.length<=lim then _ else _)=_
 rw [zE (by simpa [lim] using h)]
def eqs (a b:Str) (c:Bool) (h:decide (a=b)=c) (st:Sto):zS (.str a) (.str b) st=.ok (.bl c) st:=by rw [znn,h]
def eqTs (a b:Str) (c:Bool) (h:(a==b)=c) (st:Sto):jQ (.str a) (.str b) st=.ok (.bl c) st:=by
 unfold jQ
 rw [show eqT st 150 (.str a) (.str b)=some c by show some (a==b)=_;rw [h]]
def adL {s:Sto}{m n:Nat}{xs ys:List PV}(h:s[m]?=some (.lst xs)) (h':s[n]?=some (.lst ys)) (hl:xs.length+ys.length<=1000000):zI (.ref m) (.ref n) s=.ok (.ref s.length) (s++[.lst (xs++ys)]):=by
 show yh s m _=_
 rw [yt h,yt h']
 exact zE (by simpa [lim] using hl)
def n1:("let" : Str) ≠ "call" := by decide +kernel
def n2:("let" : Str) ≠ "go" := by decide +kernel
def n3:("give" : Str) ≠ "call" := by decide +kernel
def n5:("fail" : Str) ≠ "call" := by decide +kernel
def n7:("go" : Str) ≠ "call" := by decide +kernel
def n8:("if" : Str) ≠ "call" := by decide +kernel
def n10:("give" : Str) ≠ "let" := by decide +kernel
def n11:("fail" : Str) ≠ "let" := by decide +kernel
def n12:("go" : Str) ≠ "let" := by decide +kernel
def n13:("if" : Str) ≠ "let" := by decide +kernel
def eqF {a b:Str}(h:a≠b) (st:Sto):zS (.str a) (.str b) st=.ok (.bl false) st:=eqs a b false (by simpa using h) st
def eqY {a:Str}(st:Sto):zS (.str a) (.str a) st=.ok (.bl true) st:=eqs a a true (by simp) st
def q0 {z y:Str}{c:Bool}{e:ze}{r:List PV}{s:Sto}{i:Nat}(hi:e[i]?=some (some (.tup (.str z::r)))) (h:zS (.str z) (.str y) s=.ok (.bl c) s):(mB (zf zS (zf zq (zd i) (mC (.int 0))) (mC (.str y)))) e s=.ok c s:=yb (zm (zm (zh hi) rfl jg) rfl h)
def in2 (z:Str) (c:Bool) (h:((("let" : Str)==z)||(("call" : Str)==z))=c) (st:Sto):yM false (.str z) (.tup [.str "let", .str "call"]) st=.ok (.bl c) st:=by
 rw [zfD,zE ⟨rfl,rfl,by simp [deps,dep]⟩]
 simp [eqP,h]
def zct {ft:ze->Mo Bool}{fe:ze->Mo PV}{env:ze}{st:Sto}{n:Nat}{p:PV->Bool}{f:PV->PV}(xs:List PV) (hn:st[n]?=some (.lst xs)) (h:∀x∈xs,ft (some x::env) st=.ok (p x) st) (h':∀x∈xs,p x=true->fe (some x::env) st=.ok (f x) st):∀(k i m:Nat) (ys:List PV),i+k=xs.length->k<m->compRI ft fe env n m i ys st=.ok (.ref st.length) (st++[.lst (ys++(xs.drop i).flatMap fun x=>if p x=true then [f x] else [])])
 | 0,i,m,ys,hk,hm=>by
  obtain ⟨m,rfl⟩:∃j,m=j+1:=⟨m-1,by omega⟩
  unfold compRI
  rw [yt hn,zcB (by omega),za0 (by omega)]
  simp
 | k+1,i,m,ys,hk,hm=>by
  obtain ⟨m,rfl⟩:∃j,m=j+1:=⟨m-1,by omega⟩
  have hi:i<xs.length:=by omega
  have hx:xs[i]?=some (xs[i]'hi):=yn hi
  have mem:=zab hi
  have ih:=zct (ft:=ft) (fe:=fe) (env:=env) xs hn h h' k (i+1) m
  unfold compRI
  rw [yt hn,hx]
  simp only
  rw [h _ mem]
  simp only [zc6,zL]
  rw [jJ hi,za1]
  cases hp:p (xs[i]'hi) with
  | true =>
   simp only [wb]
   rw [h' _ mem hp]
   simp only [zc6,zL]
   rw [ih _ (by omega) (by omega)]
   simp
  | false =>
   rw [zN (by simp),ih _ (by omega) (by omega)]
   simp
def for_tup {g:PV->ze->Option ze}{body:ze->Mo Fl}(xs:List PV) (I:Nat->ze->Sto->Prop) (step:∀i x e st,xs[i]?=some x->I i e st->∃e1 e2 st2,g x e=some e1/\body e1 st=.ok (.nx e2) st2/\I (i+1) e2 st2) :
  ∀(k i:Nat) (env:ze) (st:Sto),i+k=xs.length->I i env st->∃env' st',forL g body (xs.drop i) env st=.ok (.nx env') st'/\I xs.length env' st'
 | 0,i,env,st,hk,h=>⟨env,st,by rw [za0 (by omega)];rfl,by rw [<-hk];exact h⟩
 | k+1,i,env,st,hk,h=>by
  have hx:xs[i]?=some (xs[i]'(by omega)):=yn (by omega)
  obtain ⟨e1,e2,st2,q1,q2,q3⟩:=step i _ env st hx h
  obtain ⟨env',st',r,h2⟩:=for_tup xs I step k (i+1) e2 st2 (by omega) q3
  refine ⟨env',st',?_,h2⟩
  rw [jJ (by omega)]
  unfold forL
  rw [q1]
  simp only
  rw [q2]
  simp only [zL]
  exact r
def zpH {s:Sto}{n:Nat}{xs:List PV}{y:PV}(h:s[n]?=some (.lst xs)) (hl:xs.length<1000000):yZ (.ref n) y s=.ok .non (s.set n (.lst (xs++[y]))):=by rw [zfE,yt h,zE (by simpa [lim] using hl)]
def w9 (c:Int) (t m:Nat) (ht:t<=1000) (hm:0<m) (st:Sto):∃j:Nat,j<m/\jT [.int c,.int (t:Int),.int (m:Int)] st=.ok (.int (j:Int)) st:=by
 obtain ⟨a,ha,ea⟩:=modNat c 1000003 (by decide)
 have ea:yF c 1000003=(a:Int):=ea
 obtain ⟨b,hb,eb⟩:=modNat ((a*(48271+2*t)+7919*t:Nat):Int) 999983 (by decide)
 obtain ⟨j,hj,ej⟩:=modNat (b:Int) m hm
 refine ⟨j,hj,yi rfl (yl (zm (zm (zm (zm (zm (zh rfl) rfl ((yN _ _ (by decide)).trans (by rw [ea]))) (zm rfl (zm rfl (zh rfl) (jU 2 t (.inl (by decide)))) (yI 48271 _)) (jU a _ (.inl (by omega)))) (zm rfl (zh rfl) (jU 7919 t (.inl (by decide)))) (yI _ _)) rfl ((yN _ _ (by decide)).trans ?_)) (zh rfl) ((yN _ _ (by omega)).trans (by rw [ej]))))⟩
 have:yF ((a*(48271+2*t)+7919*t:Nat):Int) 999983=(b:Int):=eb
 rw [this]
def zpI (is:List Int):intsP (is.map PV.int)=some is:=by
 induction is with
 | nil=>rfl
 | cons i r ih=>simp [intsP,ih]
def wt (ns:List Int) (k:Nat) (h9:k<1000) (st:Sto):∃c s1,yJ [.frl (ns.map PV.int),.int (k:Int)] st=.ok (.int c) s1/\Old st s1:=by
 by_cases hk:(k:Int)<ns.length
 ·have:atI (ns.map PV.int) k=some (.int (ns[k]'(by omega))):=atI_get (by rw [jt,yn (by omega)];rfl)
  simp only [yJ,yp,zdk,zdj,zdi]
  simp [this]
  rw [zE (by omega)]
  exact ⟨_,_,rfl,Old.refl _⟩
 ·have hc:cutP (List.map PV.int ns) none (some 63)=(ns.take 63).map PV.int:=by
   simp [cutP,HT.sIx,List.map_take]
  have h1:cMul 977 k=true:=by simp [cMul]
  simp only [yJ,yp,zdk,zdj,zdi]
  have hi:intsP (List.take 63 (ns.map PV.int))=some (ns.take 63):=by rw [<-List.map_take];exact zpI _
  have hk':¬k<ns.length:=by omega
  simp [hk',hc,hi,h1,cNz]
  generalize hx:yF ((ns.take 63).sum+977*(k:Int)+13) 1000003=x
  have hx2 : -18446744073709551616<x/\x<18446744073709551616:=by
   rw [zdE _ _ (by decide)] at hx
   have:=Int.emod_nonneg ((ns.take 63).sum+977*(k:Int)+13) (show (1000003:Int)≠0 by decide)
   have:=Int.emod_lt_of_pos ((ns.take 63).sum+977*(k:Int)+13) (show (0:Int)<1000003 by decide)
   constructor<;>omega
  rw [zE hx2]
  exact ⟨_,_,rfl,yf _ _⟩
abbrev sg:Str := "abcdefghijklmnopqrstuvwxyz0123456789"
def zpJ:sg.cps.toList.length=36:=by decide +kernel
def sgc (j:Nat):Nat:=(sg.cps.toList[j]?).getD 0
def zg5 (j:Nat) (h:j<36) (st:Sto):zq (.str sg) (.int (j:Int)) st=.ok (.str ⟨#[sgc j]⟩) st:=zpB (by decide +kernel) (by unfold sgc;rw [yn (by rw [zpJ];exact h)];rfl) st
def zpK:∀i,i<36->∀j,j<36->sgc i=sgc j->i=j:=by decide +kernel
structure Nm (c:Nat) (nm:Nat->Str):Prop where
 one:∀i j:Nat,i<20->j<20->nm i=nm j->i=j
 at_:∀k:Nat,k<1000->∀st,∃s1,jG [.int (c:Int),.int (k:Int)] st=.ok (.str (nm k)) s1/\Old st s1
def w15:List Str:=["of", "is", "let", "call", "go", "if", "give", "fail", "else", "end", "fun", "add", "head", "rest", "item"]
def w20:List Str:=["of", "is", "let", "call", "go", "if", "give", "fail", "else", "end", "fun", "add", "head", "rest", "item", "kind", "same", "put", "field", "many"]
def zpL:w20.Nodup:=by decide +kernel
def zg6 (n:Nat) (h:n<2000000):(n:Int).natAbs.log2<1920:=by
 have h1:n<2 ^ 21:=by
  have:(2:Nat) ^ 21=2097152:=by decide
  omega
 rw [Int.natAbs_natCast]
 by_cases hz:n=0
 ·rw [hz];decide
 ·have:=(Nat.log2_lt hz).mpr h1
  omega
def dgs (n:Nat):Str:=Str.ofString (toString (n:Int))
def zg7 {i j:Nat}(h:dgs i=dgs j):i=j:=by
 unfold dgs at h
 have h:=(zmd _ _).mp h
 have h:Nat.repr i=Nat.repr j:=h
 exact Nat.repr_injective h
def zg8 (n:Nat) (h:n<2000000):(dgs n).length<=2000:=by
 have e:=int_text_length_le (a:=(n:Int)) (k:=1920) (by decide) (zg6 n h)
 unfold dgs
 rw [ofString_length]
 omega
def zg9 (n:Nat) (h:n<2000000) (st:Sto):zao [.int (n:Int)] st=.ok (.str (dgs n)) st:=by
 rw [zmN,zE (zg6 n h)];rfl
def zdI {a:Str}{x y:Str}(h:a++x=a++y):x=y:=by
 have:=congrArg (fun z:Str=>z.cps.toList) h
 simp only [PySem.Str.cps_append,Array.toList_append] at this
 have:=List.append_cancel_left this
 rw [<-zcq x,<-zcq y,this]
def zpM {a x y:Str}(h:x++a=y++a):x=y:=by
 have:=congrArg (fun z:Str=>z.cps.toList) h
 simp only [PySem.Str.cps_append,Array.toList_append] at this
 have:=List.append_cancel_right this
 rw [<-zcq x,<-zcq y,this]
def sg1 {i j:Nat}(hi:i<36) (hj:j<36) (h:(⟨#[sgc i]⟩:Str)=⟨#[sgc j]⟩):i=j:=by
 injection h with h
 have:sgc i=sgc j:=by simpa using h
 exact zpK i hi j hj this
def zcv {c k:Nat}{st:Sto}{X:Res Fl}(h:zds [some (.int (c:Int)),some (.int (k:Int)),some (.ref st.length),some (.str sg),none] (st++[.lst (w15.map PV.str)])=X):zgF [some (.int (c:Int)),some (.int (k:Int)),none,none,none] st=X:=zB (zO (jm (xs:=w15.map PV.str) rfl (by decide))) (zB (zO rfl) h)
def zdJ (c:Nat) (hb:c<2 ^ 50):∃nm,Nm c nm:=by
 have e4:∀s:Sto,zH (.int (c:Int)) (.int 4) s=.ok (.int ((c%4:Nat):Int)) s:=fun s=>y0 c 4 (by decide)
 have d4:∀s:Sto,yr (.int (c:Int)) (.int 4) s=.ok (.int ((c/4:Nat):Int)) s:=fun s=>j8 c 4 (by decide) (by decide)
 by_cases c0:c%4=0
 ·refine ⟨fun k=>⟨#[sgc ((c/4+k)%26)]⟩,fun i j hi hj h=>?_,fun k hk st=>⟨_,yi rfl (zcv (jf (yL (yb (zm (zm (zh rfl) rfl (e4 _)) rfl (eqT' true (by simp;omega) _))) (yl (zm (zh rfl) (zm (zm (zm (zh rfl) rfl (d4 _)) (zh rfl) (yI _ _)) rfl (y0 _ 26 (by decide))) (zg5 _ (by have:=y1 (c/4+k) (show 0<26 by decide);omega) _)))))),yf _ _⟩⟩
  have:=sg1 (by have:=y1 (c/4+i) (show 0<26 by decide);omega) (by have:=y1 (c/4+j) (show 0<26 by decide);omega) h
  omega
 have S1:∀{k:Nat} {st s:Sto} {X:Res Fl},zdr [some (.int (c:Int)),some (.int (k:Int)),some (.ref st.length),some (.str sg),none] s=X->zds [some (.int (c:Int)),some (.int (k:Int)),some (.ref st.length),some (.str sg),none] s=X:=fun h=>zB (yG (yb (zm (zm (zh rfl) rfl (e4 _)) rfl (eqT' false (by simp;omega) _)))) h
 by_cases c1:c%4=1
 ·generalize ep:c/4%7=p
  have hp:p<7:=by rw [<-ep];exact y1 _ (by decide)
  have l7:("7" : Str).length=1:=by decide +kernel
  have le:("e" : Str).length=1:=by decide +kernel
  have lu:("u" : Str).length=1:=by decide +kernel
  have sb:(6:Int)-(p:Int)=((6-p:Nat):Int):=by omega
  have r1:∀s:Sto,yK (.str "7") (.int (p:Int)) s=.ok (.str (repS "7" (p:Int))) s:=fun s=>by rw [zfC,zE ⟨by omega,by omega,by rw [l7];decide⟩]
  have r2:∀s:Sto,yK (.str "e") (.int ((6-p:Nat):Int)) s=.ok (.str (repS "e" ((6-p:Nat):Int))) s:=fun s=>by rw [zfC,zE ⟨by omega,by omega,by rw [le];decide⟩]
  have z1:(repS "7" (p:Int)).length<=10:=by rw [zc9,l7];omega
  have z2:(repS "e" ((6-p:Nat):Int)).length<=10:=by rw [zc9,le];omega
  have z3:("u" ++ repS "7" (p:Int):Str).length<=20:=by rw [strLen_append,lu];omega
  refine ⟨fun k=>("u" ++ repS "7" (p:Int))++⟨#[sgc ((c/28+k)%36)]⟩++repS "e" ((6-p:Nat):Int),fun i j hi hj h=>?_,fun k hk st=>⟨_,yi rfl (zcv (S1 (jf (yL (yb (zm (zm (zh rfl) rfl (e4 _)) rfl (eqT' true (by simp;omega) _))) (zB (zO (zm (zm (zh rfl) rfl (d4 _)) rfl ((y0 _ 7 (by decide)).trans (by rw [ep])))) (yl (zm (zm (zm rfl (zm rfl (zh rfl) (r1 _)) (ad _ _ (by omega) _)) (zm (zh rfl) (zm (zm (zm (zh rfl) rfl (j8 c 28 (by decide) (by decide))) (zh rfl) (yI _ _)) rfl (y0 _ 36 (by decide))) (zg5 _ (y1 _ (by decide)) _)) (ad _ _ ?_ _)) (zm rfl (zm rfl (zh rfl) ((wn _ _).trans (by rw [sb]))) (r2 _)) (ad _ _ ?_ _)))))))),yf _ _⟩⟩
  ·have:=sg1 (y1 _ (by decide)) (y1 _ (by decide)) (zdI (zpM h))
   omega
  ·show ("u" ++ repS "7" (p:Int):Str).length+1<=_
   omega
  ·rw [strLen_append]
   show ("u" ++ repS "7" (p:Int):Str).length+1+_<=_
   omega
 have S2:∀{k:Nat} {st s:Sto} {X:Res Fl},zgE [some (.int (c:Int)),some (.int (k:Int)),some (.ref st.length),some (.str sg),none] s=X->zdr [some (.int (c:Int)),some (.int (k:Int)),some (.ref st.length),some (.str sg),none] s=X:=fun h=>zB (yG (yb (zm (zm (zh rfl) rfl (e4 _)) rfl (eqT' false (by simp;omega) _)))) h
 by_cases c2:c%4=2
 ·have ln:("n" : Str).length=1:=by decide +kernel
  have h9:c/4%900000<900000:=y1 _ (by decide)
  refine ⟨fun k => "n" ++ dgs (c/4%900000+k),fun i j hi hj h=>?_,fun k hk st=>⟨_,yi rfl (zcv (S1 (S2 (jf (yL (yb (zm (zm (zh rfl) rfl (e4 _)) rfl (eqT' true (by simp;omega) _))) (yl (zm rfl (zG (zZ (zm (zm (zm (zh rfl) rfl (d4 _)) rfl (y0 _ 900000 (by decide))) (zh rfl) (yI _ _))) (zg9 _ (by omega) _)) (ad _ _ (by have:=zg8 (c/4%900000+k) (by omega);omega) _)))))))),yf _ _⟩⟩
  have:=zg7 (zdI h)
  omega
 ·have hg:∀k,(c/4+k)%20<w20.length:=fun k=>y1 _ (by decide)
  refine ⟨fun k=>w20[(c/4+k)%20]'(hg k),fun i j hi hj h=>?_,fun k hk st=>?_⟩
  ·have:=zg2 zpL (hg i) (hg j) h
   omega
  let s1:=st++[SO.lst (w15.map PV.str)]
  let w5:List Str:=["kind", "same", "put", "field", "many"]
  let s2:=s1++[SO.lst (w5.map PV.str)]
  have A:zI (.ref st.length) (.ref s1.length) s2=.ok (.ref s2.length) (s2++[.lst (w20.map PV.str)]):=adL (xs:=w15.map PV.str) (ys:=w5.map PV.str) (yf _ _ _ _ (yu _ _)) (yu _ _) (by decide)
  have g:atI (w20.map PV.str) ((((c/4+k)%20:Nat)):Int)=some (.str (w20[(c/4+k)%20]'(hg k))):=atI_get (by rw [jt,yn (hg k)];rfl)
  exact ⟨s2++[.lst (w20.map PV.str)],yi rfl (zcv (S1 (S2 (zB (yG (yb (zm (zm (zh rfl) rfl (e4 _)) rfl (eqT' false (by simp;omega) _)))) (yl (zm (zm (zh rfl) (jm (xs:=w5.map PV.str) rfl (by decide)) A) (zm (zm (zm (zh rfl) rfl (d4 _)) (zh rfl) (yI _ _)) rfl (y0 _ 20 (by decide))) (by rw [zaJ,yt (yu _ _),g];rfl))))))),(yf _ _).trans ((yf _ _).trans (yf _ _))⟩
def wq (c:Int):Nat->Int×Str
 | 0=>(c,"")
 | i+1=>(y6 (wq c i).1 5,(wq c i).2++⟨#[lt_ (yF (wq c i).1 26).toNat]⟩)
def zhb (c:Int):∀i,(wq c i).2.length=i
 | 0=>le0
 | i+1=>by
  show ((wq c i).2++_:Str).length=_
  rw [strLen_append,zhb c i]
  rfl
def zcw (c:Int):∃z,∀st,j5 [.int c] st=.ok (.str z) st:=by
 obtain ⟨n,hn,en⟩:=modNat c 8 (by decide)
 have en:yF c 8=(n:Int):=en
 refine ⟨(wq c (1+n)).2,fun st=>?_⟩
 obtain ⟨e',s',F,⟨z2,he⟩,hs⟩:=zbw (gt:=gN 2) (body:=(zv (zC 1 (zf zI (zd 1) (zf zq (mC (.str "abcdefghijklmnopqrstuvwxyz")) (zf zH (zd 0) (mC (.int 26)))))) (zC 0 (zf yr (zd 0) (mC (.int 5)))))) (fs:=(zc (zf zI (mC (.int 1)) (zf zH (zd 0) (mC (.int 8)))) zk)) (e:=[some (.int c),some (.str ""),none]) (st:=st) (fun i e s=>(∃z2,e=[some (.int (wq c i).1),some (.str (wq c i).2),z2])/\s=st) (1+n) (by omega) (zZ (zm rfl (zm (zh rfl) rfl ((yN _ _ (by decide)).trans (by rw [en]))) (yI 1 n))) (fun i e s hi ⟨⟨z2,he⟩,hs⟩=>by
  subst he
  have hz:=zhb c i
  obtain ⟨j,hj,ej⟩:=modNat (wq c i).1 26 (by decide)
  have ej:yF (wq c i).1 26=(j:Int):=ej
  have L:=(zpw j hj s).1
  have e2:wq c (i+1)=(y6 (wq c i).1 5,(wq c i).2++⟨#[lt_ j]⟩):=by
   show (_,_++(⟨#[lt_ (yF (wq c i).1 26).toNat]⟩:Str))=_
   rw [ej];rfl
  rw [e2]
  exact ⟨[some (.int (wq c i).1),some (.str (wq c i).2),some (.int (i:Int))],_,s,rfl,zB (zO (zm (zh rfl) (zm rfl (zm (zh rfl) rfl ((yN _ _ (by decide)).trans (by rw [ej]))) L) (ad _ _ (show (wq c i).2.length+1<=_ by omega) _))) (zO (zm (zh rfl) rfl (j4 _ _ (by decide) (by decide)))),⟨_,rfl⟩,hs⟩) ⟨⟨none,rfl⟩,rfl⟩
 subst he hs
 exact yi rfl (zB (zO rfl) (zB F (yl (zh rfl))))
def zhc (st:Sto):jN (.int 10) (.int 24) st=.ok (.int 1000000000000000000000000) st:=by
 have cp:cPow 10 24=true:=by decide
 have pw:((10:Int) ^ (24:Int).toNat)=1000000000000000000000000:=by decide
 show (if cPow 10 24=true then Res.ok (PV.int (10 ^ (24:Int).toNat)) st else .stuck)=_
 rw [zE cp,pw]
def zpN {fa fb fc fd:ze->Mo PV}{e:ze}{st:Sto}{a b:Str}{x y:PV}(ha:∀s,fa e s=.ok (.str a) s) (hx:∀s,fb e s=.ok x s) (hb:∀s,fc e s=.ok (.str b) s) (hy:∀s,fd e s=.ok y s):∃s1,zbm [(fa,fb),(fc,fd)] e st=.ok (.ref st.length) s1/\Old st s1:=by
 have K:zcb [(fa,fb),(fc,fd)] e (st++[SO.dic [] []])=.ok ([.str a,.str b],[x,y]) (st++[SO.dic [] []]):=by
  show (fa e _).bind _=_
  rw [ha,zL]
  simp only
  rw [hx,zL]
  show Res.bind ((fc e _).bind _) _=_
  rw [hb,zL]
  simp only
  rw [hy,zL]
  rfl
 have e1:isEmp (st++[SO.dic [] []])[st.length]?=true:=by rw [yu];rfl
 have D:zbm [(fa,fb),(fc,fd)] e st=.ok (.ref st.length) ((st++[SO.dic [] []]).set st.length (.dic (wT (([a,b]:List Str).zip [x,y]) [] []).1 (wT (([a,b]:List Str).zip [x,y]) [] []).2)):=by
  unfold zbm
  rw [K,zL]
  exact zE e1
 exact ⟨_,D,fun n so h=>by rw [ja (by have:=yS h;omega)];exact yf _ _ _ _ h⟩
def zhd (c:Int) (st:Sto):∃v s1,zbr [.int c] st=.ok v s1/\Old st s1:=by
 generalize ea:yF c 1000000000000000000000000=a
 have A:∀{X:Res Fl},zgw [some (.int a),some (.int (y6 a 7))] st=X->zgx [some (.int c),none] st=X:=fun h=>zB (zO (zm (zh rfl) (zm rfl rfl (zhc _)) ((yN _ _ (by decide)).trans (by rw [ea])))) (zB (zO (zm (zh rfl) rfl (j4 _ _ (by decide) (by decide)))) h)
 obtain ⟨w,hw,ew⟩:=modNat a 7 (by decide)
 have ew:yF a 7=(w:Int):=ew
 generalize y6 a 7=q at A
 have M7:∀s:Sto,(zf zH (zd 0) (mC (.int 7))) [some (.int a),some (.int q)] s=.ok (.int (w:Int)) s:=fun s=>zm (zh rfl) rfl ((yN _ _ (by decide)).trans (by rw [ew]))
 have md:∀(i:Int) (j:Int) (s:Sto),j≠0->zH (.int i) (.int j) s=.ok (.int (yF i j)) s:=fun i j s h=>yN i j h
 have T:∀(n:Int) (b:Bool) (s:Sto),decide ((w:Int)=n)=b->(mB (zf zS (zf zH (zd 0) (mC (.int 7))) (mC (.int n)))) [some (.int a),some (.int q)] s=.ok b s:=fun n b s h=>yb (zm (M7 s) rfl (eqT' b h _))
 obtain ⟨z1,w1⟩:=zcw q
 obtain ⟨z2,w2⟩:=zcw (y6 q 3+1)
 obtain ⟨z3,w3⟩:=zcw (y6 q 9)
 have sk:∀{g:ze->Mo Fl} {h:ze->Mo Fl} {n:Int} {X:Res Fl},(w:Int)≠n->h [some (.int a),some (.int q)] st=X->zv (ya (mB (zf zS (zf zH (zd 0) (mC (.int 7))) (mC (.int n)))) g yd) h [some (.int a),some (.int q)] st=X:=fun hn h=>zB (yG (T _ false _ (by simpa using hn))) h
 have tk:∀{f:ze->Mo PV} {h:ze->Mo Fl} {n:Int} {v:PV} {s1:Sto},(w:Int)=n->f [some (.int a),some (.int q)] st=.ok v s1->zv (ya (mB (zf zS (zf zH (zd 0) (mC (.int 7))) (mC (.int n)))) (zY f) yd) h [some (.int a),some (.int q)] st=.ok (.rt v) s1:=fun hn h=>jf (yL (T _ true _ (by simpa using hn)) (yl h))
 have hw':w=0\/w=1\/w=2\/w=3\/w=4\/w=5\/w=6:=by omega
 rcases hw' with h|h|h|h|h|h|h
 ·exact ⟨_,st,yi rfl (A (tk (by omega) (zm (zh rfl) rfl (md _ _ _ (by decide))))),Old.refl _⟩
 ·exact ⟨_,st,yi rfl (A (sk (by omega) (tk (by omega) (zm (zm (zh rfl) rfl (md _ _ _ (by decide))) rfl (wn _ _))))),Old.refl _⟩
 ·exact ⟨_,st,yi rfl (A (sk (by omega) (sk (by omega) (tk (by omega) (zG (zZ (zh rfl)) (w1 _)))))),Old.refl _⟩
 ·exact ⟨_,st,yi rfl (A (sk (by omega) (sk (by omega) (sk (by omega) (tk (by omega) (zK jS (by simp))))))),Old.refl _⟩
 ·exact ⟨_,st,yi rfl (A (sk (by omega) (sk (by omega) (sk (by omega) (sk (by omega) (tk (by omega) (zK (yB (zm (zh rfl) rfl (md _ _ _ (by decide))) (zK (zQ (zG (zZ (zh rfl)) (w1 _)) (zm rfl (zm (zh rfl) rfl (md _ _ _ (by decide))) (wn _ _))) (by simp)) (zK jS (by simp))) (by simp)))))))),Old.refl _⟩
 ·obtain ⟨s1,D,o⟩:=zpN (fa:=(zu j5 (zc (zd 1) zk))) (fb:=(zf zH (zd 1) (mC (.int 5)))) (fc:=(zu j5 (zc (zf zI (zf yr (zd 1) (mC (.int 3))) (mC (.int 1))) zk))) (fd:=(zx (zc (zf zH (zd 1) (mC (.int 3))) (zc (zu j5 (zc (zf yr (zd 1) (mC (.int 9))) zk)) zk)))) (e:=[some (.int a),some (.int q)]) (st:=st) (fun s=>zG (zZ (zh rfl)) (w1 s)) (fun s=>zm (zh rfl) rfl (md _ _ _ (by decide))) (fun s=>zG (zZ (zm (zm (zh rfl) rfl (j4 _ _ (by decide) (by decide))) rfl (zce _ _))) (w2 s)) (fun s=>zK (zQ (zm (zh rfl) rfl (md _ _ _ (by decide))) (zG (zZ (zm (zh rfl) rfl (j4 _ _ (by decide) (by decide)))) (w3 s))) (by simp))
  exact ⟨_,s1,yi rfl (A (sk (by omega) (sk (by omega) (sk (by omega) (sk (by omega) (sk (by omega) (tk (by omega) D))))))),o⟩
 ·exact ⟨_,st,yi rfl (A (sk (by omega) (sk (by omega) (sk (by omega) (sk (by omega) (sk (by omega) (sk (by omega) (yl (zm (zh rfl) rfl (md _ _ _ (by decide))))))))))),Old.refl _⟩
inductive AtV (ks:List Str):PV->Prop
 | of (z:Str):z∈ks->AtV ks (.tup [.str "of", .str z])
 | is (v:PV):AtV ks (.tup [.str "is", v])
def AtV.mono {ks ks':List Str}(h:∀z∈ks,z∈ks') {a:PV}(t:AtV ks a):AtV ks' a:=by
 cases t with
 | of z hz=>exact .of z (h z hz)
 | is v=>exact .is v
def zdK (c:Int) (t:Nat) (ht:t<=900) {zs:List Str}(hz:zs.length<=900) {sc:Nat}{st:Sto}(hs:st[sc]?=some (.lst (zs.map PV.str))):∃a s1,zaO [.int c,.int (t:Int),.ref sc] st=.ok a s1/\AtV zs a/\Old st s1:=by
 obtain ⟨j,hj,ej⟩:=w9 c t (zs.length+2) (by omega) (by omega) st
 have L:=zaM hs
 rw [jX] at L
 have A:∀{X:Res Fl},zgA [some (.int c),some (.int (t:Int)),some (.ref sc),some (.int (j:Int))] st=X->zgB [some (.int c),some (.int (t:Int)),some (.ref sc),none] st=X:=fun h=>zB (zO (zG (yB (zh rfl) (zh rfl) (zm (zG (zZ (zh rfl)) L) rfl (yI _ 2))) ej)) h
 by_cases h:j<zs.length
 ·have g:atI (zs.map PV.str) (j:Int)=some (.str (zs[j]'h)):=atI_get (by rw [jt,yn h];rfl)
  exact ⟨.tup [.str "of", .str (zs[j]'h)],st,yi rfl (A (jf (yL (yb (zm (zh rfl) (zG (zZ (zh rfl)) L) (ltT true (by simp;omega) _))) (yl (zK (zQ rfl (zm (zh rfl) (zh rfl) (by rw [zaJ,yt hs,g];rfl))) (by simp)))))),.of _ (zab h),Old.refl _⟩
 ·obtain ⟨b,hb,eb⟩:=modNat c 1000000000000000000000000 (by decide)
  have eb:yF c 1000000000000000000000000=(b:Int):=eb
  obtain ⟨v,s1,ev,o⟩:=zhd ((b*(t+1)+t:Nat):Int) st
  exact ⟨.tup [.str "is", v],s1,yi rfl (A (zB (yG (yb (zm (zh rfl) (zG (zZ (zh rfl)) L) (ltT false (by simp;omega) _)))) (yl (zK (zQ rfl (zG (zZ (zm (zm (zm (zh rfl) (zm rfl rfl (zhc _)) ((yN _ _ (by decide)).trans (by rw [eb]))) (zm (zh rfl) rfl (yI t 1)) (jU b (t+1) (.inr (by omega)))) (zh rfl) (yI _ t))) ev)) (by simp))))),.is v,o⟩
def zaV (c:Int) (m:Nat) (hm:m<=100) {zs:List Str}(hz:zs.length<=900) {sc:Nat}{st:Sto}(hs:st[sc]?=some (.lst (zs.map PV.str))):∃as s1,wC [.int c,.int (m:Int),.ref sc] st=.ok (.tup as) s1/\as.length=m/\(∀a∈as,AtV zs a)/\Old st s1:=by
 obtain ⟨ys,s1,C,⟨q1,q2⟩,q3⟩:=zdH (fe:=(zu zaO (zc (zd 1) (zc (zf zI (mC (.int 4)) (zd 0)) (zc (zd 3) zk))))) (fs:=(zc (zd 1) zk)) (env:=[some (.int c),some (.int (m:Int)),some (.ref sc)]) (st:=st) m (by omega) (zZ (zh rfl)) (fun i ys s=>(ys.length=i/\∀a∈ys,AtV zs a)/\Old st s) (fun i ys s hi ⟨⟨h1,h2⟩,h3⟩=>by
  obtain ⟨a,s1,e,ha,o⟩:=zdK c (4+i) (by omega) hz (h3 _ _ hs)
  refine ⟨a,s1,zG (yB (zh rfl) (zm rfl (zh rfl) (yI 4 i)) (zh rfl)) e,⟨by simp [h1],fun b hb=>?_⟩,h3.trans o⟩
  rcases jv.mp hb with q|q
  ·exact h2 b q
  ·rw [wa.mp q];exact ha) ⟨⟨rfl,(fun _ h=>nomatch h)⟩,Old.refl _⟩
 exact ⟨ys,s1++[.lst ys],yi rfl (yl (zG (zZ C) (by rw [wU,yt (yu _ _)]))),q1,q2,q3.trans (yf _ _)⟩
def jB:List (Str×Nat):=[("down", 1),("head", 1),("rest", 1),("item", 2),("field", 2),("add", 2),("sub", 2),("mul", 2),("div", 2),("rem", 2),("less", 2),("same", 2),("kind", 1),("front", 2),("many", 1),("put", 3),("set", 3)]
abbrev opV (l:List (Str×Nat)):List PV:=l.map fun h=>.tup [.str h.1,.int (h.2:Int)]
def zpO:∀h∈jB,1<=h.2/\h.2<=3:=by decide +kernel
def zpP (k:Nat) (hk:k<100) (st:Sto):∃h s1,h∈jB/\zdn [.int (k:Int)] st=.ok (.tup [.str h.1,.int (h.2:Int)]) s1/\Old st s1:=by
 let a:=opV [("down", 1),("head", 1),("rest", 1),("item", 2),("field", 2),("add", 2),("sub", 2),("mul", 2)]
 let b:=opV [("div", 2),("rem", 2),("less", 2),("same", 2),("kind", 1),("front", 2),("many", 1)]
 let d:=opV [("put", 3),("set", 3)]
 let s1:=st++[SO.lst a]
 let s2:=s1++[SO.lst b]
 let s3:=s2++[SO.lst (a++b)]
 let s4:=s3++[SO.lst d]
 let s5:=s4++[SO.lst (opV jB)]
 have A1:zI (.ref st.length) (.ref s1.length) s2=.ok (.ref s2.length) s3:=adL (xs:=a) (ys:=b) (yf _ _ _ _ (yu _ _)) (yu _ _) (by decide)
 have A2:zI (.ref s2.length) (.ref s3.length) s4=.ok (.ref s4.length) s5:=adL (xs:=a++b) (ys:=d) (yf _ _ _ _ (yu _ _)) (yu _ _) (by decide)
 have top:s5[s4.length]?=some (.lst (opV jB)):=yu _ _
 have ix:∀(i:Nat) (hi:i<jB.length),zq (.ref s4.length) (.int (i:Int)) s5=.ok (.tup [.str (jB[i]'hi).1,.int ((jB[i]'hi).2:Int)]) s5:=fun i hi=>by
  rw [zaJ,yt top,atI_get (x:=PV.tup [.str (jB[i]'hi).1,.int ((jB[i]'hi).2:Int)]) (by rw [jt,yn hi];rfl)]
  rfl
 have L:je [.ref s4.length] s5=.ok (.int 17) s5:=zaM top
 have P:∀{X:Res Fl},zgC [some (.int (k:Int)),some (.ref s4.length)] s5=X->zgD [some (.int (k:Int)),none] st=X:=fun h=>zB (zO (jm (xs:=a) rfl (by decide))) (zB (zO (zm (zh rfl) (jm (xs:=b) rfl (by decide)) A1)) (zB (zO (zm (zh rfl) (jm (xs:=d) rfl (by decide)) A2)) h))
 have oo:Old st s5:=(yf _ _).trans ((yf _ _).trans ((yf _ _).trans ((yf _ _).trans (yf _ _))))
 by_cases h:k<17
 ·exact ⟨_,s5,zab (show k<jB.length from h),yi rfl (P (jf (yL (yb (zm (zh rfl) (zG (zZ (zh rfl)) L) (ltT true (by simp;omega) _))) (yl (zm (zh rfl) (zh rfl) (ix k h)))))),oo⟩
 ·have h5:k%5<jB.length:=jb (y1 _ (by decide)) (by decide)
  exact ⟨_,s5,zab h5,yi rfl (P (zB (yG (yb (zm (zh rfl) (zG (zZ (zh rfl)) L) (ltT false (by simp;omega) _)))) (yl (zm (zh rfl) (zm (zh rfl) rfl (y0 k 5 (by decide))) (ix _ h5))))),oo⟩
inductive StV (ks:List Str) (z:Str):PV->Prop
 | let_ (o:Str) (n:Nat) (as:List PV):(o,n)∈jB->0<as.length->(∀a∈as,AtV ks a)->StV ks z (.tup [.str "let", .str z,.str o,.tup as])
 | call (f:Str) (as:List PV):(∀a∈as,AtV ks a)->StV ks z (.tup [.str "call", .str z,.str f,.tup as])
structure Hs (hs:List (Str×Nat)):Prop where
 pos:0<hs.length
 few:∀h∈hs,h.2<=6
def zdL {hs:List (Str×Nat)}{s:Sto}{hd i:Nat}(hh:s[hd]?=some (.lst (opV hs))) (hi:i<hs.length):zq (.ref hd) (.int (i:Int)) s=.ok (.tup [.str (hs[i]'hi).1,.int ((hs[i]'hi).2:Int)]) s:=by
 rw [zaJ,yt hh,atI_get (x:=PV.tup [.str (hs[i]'hi).1,.int ((hs[i]'hi).2:Int)]) (by rw [jt,yn hi];rfl)]
 rfl
def zdM (c:Int) (z:Str) {zs:List Str}(hz:zs.length<=900) {hs:List (Str×Nat)}(H:Hs hs) {sc hd:Nat}{st:Sto}(h1:st[sc]?=some (.lst (zs.map PV.str))) (h2:st[hd]?=some (.lst (opV hs))):∃v s1,wY [.int c,.str z,.ref sc,.ref hd] st=.ok v s1/\StV zs z v/\Old st s1:=by
 obtain ⟨j,hj,ej⟩:=w9 c 2 5 (by decide) (by decide) st
 by_cases h:j=0
 ·subst h
  obtain ⟨i,hi,ei⟩:=w9 c 3 hs.length (by decide) H.pos st
  have L:=zaM h2
  rw [jX] at L
  obtain ⟨as,s1,ea,_,ha,o⟩:=zaV c (hs[i]'hi).2 (by have:=H.few _ (zab hi);omega) hz h1
  exact ⟨_,s1,yi rfl (jf (yL (yb (zm (zG (yB (zh rfl) rfl rfl) ej) rfl (eqT' true (by simp) _))) (zB (zO (zm (zh rfl) (zG (yB (zh rfl) rfl (zG (zZ (zh rfl)) L)) ei) (zdL h2 hi))) (yl (zK (jV rfl (zh rfl) (zm (zh rfl) rfl jg) (zG (yB (zh rfl) (zm (zh rfl) rfl yU) (zh rfl)) ea)) (by simp)))))),.call _ as ha,o⟩
 ·obtain ⟨i,hi,ei⟩:=w9 c 1 29 (by decide) (by decide) st
  obtain ⟨⟨o,n⟩,s1,ho,eo,o1⟩:=zpP i (by omega) st
  have fw:=zpO _ ho
  obtain ⟨as,s2,ea,hl,ha,o2⟩:=zaV c n (by simp at fw;omega) hz (o1 _ _ h1)
  exact ⟨_,s2,yi rfl (zB (yG (yb (zm (zG (yB (zh rfl) rfl rfl) ej) rfl (eqT' false (by simp;omega) _)))) (zB (zO (zG (zZ (zG (yB (zh rfl) rfl rfl) ei)) eo)) (yl (zK (jV rfl (zh rfl) (zm (zh rfl) rfl jg) (zG (yB (zh rfl) (zm (zh rfl) rfl yU) (zh rfl)) ea)) (by simp))))),.let_ o n as ho (by simp at fw;omega) ha,o1.trans o2⟩
def EndV (v:PV):Prop:=∃w r,v=.tup (.str w::r)/\w ≠ "let" /\ w ≠ "call" /\ w ≠ "if"
def m1:("give" : Str) ≠ "if" := by decide +kernel
def m2:("fail" : Str) ≠ "if" := by decide +kernel
def m3:("go" : Str) ≠ "if" := by decide +kernel
def zpQ (c:Int) (w:Nat) {zs:List Str}(hz:zs.length<=900) {hs:List (Str×Nat)}(H:Hs hs) {sc hd:Nat}{st:Sto}(h1:st[sc]?=some (.lst (zs.map PV.str))) (h2:st[hd]?=some (.lst (opV hs))):∃v s1,zdv [.int c,.int (w:Int),.ref sc,.ref hd] st=.ok v s1/\EndV v/\Old st s1:=by
 by_cases c3:w=3
 ·obtain ⟨a,s1,ea,ha,o⟩:=zdK c 13 (by decide) hz h1
  exact ⟨_,s1,yi rfl (jf (yL (yb (zm (zh rfl) rfl (eqT' true (by simp;omega) _))) (yl (zK (zQ rfl (zG (yB (zh rfl) rfl (zh rfl)) ea)) (by simp))))),⟨_,_,rfl,n10,n3,m1⟩,o⟩
 by_cases c4:w=4
 ·obtain ⟨z,ez⟩:=zcw (yF c 1000000000)
  exact ⟨_,st,yi rfl (zB (yG (yb (zm (zh rfl) rfl (eqT' false (by simp;omega) _)))) (jf (yL (yb (zm (zh rfl) rfl (eqT' true (by simp;omega) _))) (yl (zK (zQ rfl (zG (zZ (zm (zh rfl) (zm rfl rfl (zg1 _)) (yN _ _ (by decide)))) (ez _))) (by simp)))))),⟨_,_,rfl,n11,n5,m2⟩,Old.refl _⟩
 ·obtain ⟨i,hi,ei⟩:=w9 c 14 hs.length (by decide) H.pos st
  have L:=zaM h2
  rw [jX] at L
  obtain ⟨as,s1,ea,_,ha,o⟩:=zaV c (hs[i]'hi).2 (by have:=H.few _ (zab hi);omega) hz h1
  exact ⟨_,s1,yi rfl (zB (yG (yb (zm (zh rfl) rfl (eqT' false (by simp;omega) _)))) (zB (yG (yb (zm (zh rfl) rfl (eqT' false (by simp;omega) _)))) (zB (zO (zm (zh rfl) (zG (yB (zh rfl) rfl (zG (zZ (zh rfl)) L)) ei) (zdL h2 hi))) (yl (zK (yB rfl (zm (zh rfl) rfl jg) (zG (yB (zh rfl) (zm (zh rfl) rfl yU) (zh rfl)) ea)) (by simp)))))),⟨_,_,rfl,n12,n7,m3⟩,o⟩
inductive Bk:PV->List PV->Nat->Prop
 | leaf (ss:List PV) (e:PV):EndV e->Bk (.tup [.tup ss,e]) (ss++[e]) 0
 | node (ss:List PV) (va v1 v2:PV) (l1 l2:List PV) (d1 d2:Nat):Bk v1 l1 d1->Bk v2 l2 d2->Bk (.tup [.tup ss,.tup [.str "if", va,v1,v2]]) (ss++[.tup [.str "if", va,v1,v2]]++l1++l2) (1+max d1 d2)
def NoSt (e:PV):Prop:=∃w r,e=.tup (.str w::r)/\w ≠ "let" /\ w ≠ "call"
def zaW {e:PV}(h:EndV e):NoSt e:=by obtain ⟨w,r,e,h1,h2,_⟩:=h;exact ⟨w,r,e,h1,h2⟩
def zcx {r:List PV}:NoSt (.tup (.str "if" :: r)):=⟨_,_,rfl,n13,n8⟩
inductive Lns:List Str->List PV->List Str->Prop
 | nil (ks:List Str):Lns ks [] []
 | stp (ks:List Str) (z:Str) (s:PV) (ls:List PV) (zs:List Str):StV ks z s->Lns (ks++[z]) ls zs->Lns ks (s::ls) (z::zs)
 | fin (ks:List Str) (e:PV) (ls:List PV) (zs:List Str):NoSt e->Lns ks ls zs->Lns ks (e::ls) zs
def StV.mono {ks ks':List Str}(h:∀z∈ks,z∈ks') {z:Str}{s:PV}(t:StV ks z s):StV ks' z s:=by
 cases t with
 | let_ o n as h1 h2 h3=>exact .let_ o n as h1 h2 fun a ha=>(h3 a ha).mono h
 | call f as h3=>exact .call f as fun a ha=>(h3 a ha).mono h
def Lns.mono {ks:List Str}{ls:List PV}{zs:List Str}(t:Lns ks ls zs):∀{ks':List Str},(∀z∈ks,z∈ks')->Lns ks' ls zs:=by
 induction t with
 | nil ks=>intro ks' _;exact .nil ks'
 | stp ks z s ls zs hs _ ih =>
  intro ks' h
  refine .stp ks' z s ls zs (hs.mono h) (ih fun y hy=>?_)
  rcases jv.mp hy with q|q
  ·exact jW _ (h y q)
  ·exact yq _ q
 | fin ks e ls zs he _ ih=>intro ks' h;exact .fin ks' e ls zs he (ih h)
def Lns.app {ks:List Str}{l1 l2:List PV}{z1 z2:List Str}(t:Lns ks l1 z1):Lns (ks++z1) l2 z2->Lns ks (l1++l2) (z1++z2):=by
 induction t with
 | nil ks=>intro h;simpa using h
 | stp ks z s ls zs hs _ ih=>intro h;exact .stp ks z s _ _ hs (ih (by simpa using h))
 | fin ks e ls zs he _ ih=>intro h;exact .fin ks e _ _ he (ih h)
def Lns.snoc {ks:List Str}{ls:List PV}{zs:List Str}(t:Lns ks ls zs) {z:Str}{s:PV}(h:StV (ks++zs) z s):Lns ks (ls++[s]) (zs++[z]):=t.app (.stp _ z s [] [] h (.nil _))
def sub (b b':Nat):Prop:=b'=b\/b'/2=b\/b'/4=b
abbrev bB:ze->Mo Fl:=(zv (zC 10 (zu jG (zc (zd 5) (zc (zf zI (zf zI (mC (.int 4)) (zf yK (mC (.int 2)) (zd 2))) (zd 9)) zk))))
  (zv (y7 (yP yZ (zd 8) (zu wY (zc (zu yJ (zc (zd 0) (zc (zf zI (zd 6) (zd 9)) zk))) (zc (zd 10) (zc (zd 3) (zc (zd 4) zk)))))))
  (y7 (yP yZ (zd 3) (zd 10)))))
abbrev eB (ns:List Int) (f b sc hd c a:Nat) (x:Int) (t:Nat) (z9 z10 z11:Option PV):ze:=[some (.frl (ns.map PV.int)),some (.int (f:Int)),some (.int (b:Int)),some (.ref sc),some (.ref hd),some (.int (c:Int)),some (.int (a:Int)),some (.int x),some (.ref t),z9,z10,z11,none,none]
def zhe {lev:Nat}{xs:List PV}{st:Sto}{X:Res PV}(h:zdw (wD lev) xs st=X):wD (lev+1) xs st=X:=h
def zhf {s1 s2:Sto}{t sc a0:Nat}{ss:List PV}{zs:List Str}{v:PV}{z:Str}(h1:s2[t]?=some (.lst ss)) (h2:s2[sc]?=some (.lst (zs.map PV.str))) (ne:t≠sc) (l1:ss.length<=1000) (l2:zs.length<=1000) (o:∀(m:Nat) so,m<a0->s1[m]?=some so->s2[m]?=some so) (ta:a0<=t) (sa:a0<=sc) :
  ∃s3 s4,yZ (.ref t) v s2=.ok .non s3/\s3[sc]?=some (.lst (zs.map PV.str))/\yZ (.ref sc) (.str z) s3=.ok .non s4/\s4[t]?=some (.lst (ss++[v]))/\s4[sc]?=some (.lst ((zs++[z]).map PV.str))/\∀(m:Nat) so,m<a0->s1[m]?=some so->s4[m]?=some so:=by
 have A1:=zcr (y:=v) h1 (by omega)
 have h3:(s2.set t (.lst (ss++[v])))[sc]?=some (.lst (zs.map PV.str)):=by rw [ja ne];exact h2
 have A2:=zcr (y:=.str z) h3 (by simp;omega)
 refine ⟨_,_,A1,h3,A2,?_,?_,fun m so hm e=>?_⟩
 ·rw [ja (yA ne),jI (yS h1)]
 ·rw [jI (yS h3),wI];rfl
 ·rw [ja (by omega),ja (by omega)]
  exact o m so hm e
def zpR {seed:Nat}{nm:Nat->Str}(M:Nm seed nm) {hs:List (Str×Nat)}(H:Hs hs) (ns:List Int) (f:Nat) (hf:f<=10):∀(lev b:Nat),1<=b->b<=7->(b<2->2<lev)->(b<4->1<lev)->0<lev->∀(zs:List Str) (sc hd:Nat) (st:Sto),zs.length<=800+2*b->st[sc]?=some (.lst (zs.map PV.str))->st[hd]?=some (.lst (opV hs)) ->
  ∃v s1 ls dd,∃is:List Nat,wD lev [.frl (ns.map PV.int),.int (f:Int),.int (b:Int),.ref sc,.ref hd,.int (seed:Int)] st=.ok v s1/\Old st s1/\Bk v ls dd/\dd<=2/\(4<=b->dd=0)/\(2<=b->dd<=1)/\ls.length<=21/\(2<=b->ls.length<=9)/\(4<=b->ls.length<=3)/\Lns zs ls (is.map nm)/\is.Nodup/\∀i∈is,6<=i/\i<20/\sub b ((i-4)/2):=by
 intro lev
 induction lev with
 | zero=>intro b _ _ _ _ h;omega
 | succ lev ih =>
  intro b hb1 hb7 hl2 hl1 _ zs sc hd st hzl hsc hhd
  let a:Nat:=6+(b-1)*9+f*3
  have ha:a<=200:=by show 6+(b-1)*9+f*3<=200;omega
  have b1:(b:Int)-1=((b-1:Nat):Int):=by omega
  obtain ⟨x,s1,e1,o1⟩:=wt ns (a+2) (by omega) st
  let s2:=s1++[SO.lst (zs.map PV.str)]
  let s3:=s2++[SO.lst []]
  have LS:j3 [.ref sc] s1=.ok (.ref s1.length) s2:=zpD (o1 _ _ hsc)
  have l2:s2.length=s1.length+1:=by simp [s2]
  obtain ⟨m,hm,em⟩:=w9 x 11 3 (by decide) (by decide) s3
  have hsc3:s3[s1.length]?=some (.lst (zs.map PV.str)):=yf _ _ _ _ (yu _ _)
  have ht3:s3[s2.length]?=some (.lst []):=yu _ _
  have hd1:=o1 _ _ hhd
  have hdl:=yS hd1
  let own:Nat->List Nat:=fun i=>(List.range i).map fun j=>4+2*b+j
  have owns:∀i,own (i+1)=own i++[4+2*b+i]:=fun i=>by simp [own,zbz]
  have ownl:∀i,(own i).length=i:=fun i=>by simp [own]
  obtain ⟨e',s4,F,⟨z9,z10,he⟩,ob,hsc4,ss,ht4,hln⟩:=zbw (gt:=gN 9) (body:=bB) (fs:=(zc (zu jT (zc (zd 7) (zc (mC (.int 11)) (zc (mC (.int 3)) zk)))) zk)) (e:=eB ns f b s1.length hd seed a x s2.length none none none) (st:=s3) (fun i e s=>(∃z9 z10,e=eB ns f b s1.length hd seed a x s2.length z9 z10 none)/\(∀(k:Nat) so,k<s1.length->s1[k]?=some so->s[k]?=some so)/\s[s1.length]?=some (.lst ((zs++(own i).map nm).map PV.str))/\∃ss,s[s2.length]?=some (.lst ss)/\Lns zs ss ((own i).map nm)/\ss.length=i) m (by omega) (zZ (zG (yB (zh rfl) rfl rfl) em)) (fun i e s hi ⟨⟨z9,z10,he⟩,ob,hsc4,ss,ht4,hln,hsl⟩=>by
   subst he
   obtain ⟨t1,f1,g1⟩:=M.at_ (4+2*b+i) (by omega) s
   obtain ⟨y,t2,f2,g2⟩:=wt ns (a+i) (by omega) t1
   have zl:(zs++(own i).map nm).length<=900:=by simp [ownl];omega
   have oo:=g1.trans g2
   obtain ⟨v,t3,f3,hv,g3⟩:=zdM y (nm (4+2*b+i)) zl H (oo _ _ hsc4) (oo _ _ (ob _ _ hdl hd1))
   have o3:=oo.trans g3
   obtain ⟨t4,t5,A1,k1,A2,k2,k3,k4⟩:=zhf (s1:=s1) (a0:=s1.length) (v:=v) (z:=nm (4+2*b+i)) (o3 _ _ ht4) (o3 _ _ hsc4) (by omega) (by omega) (by omega) (fun k so hk e=>o3 _ _ (ob k so hk e)) (by omega) (yg _)
   refine ⟨eB ns f b s1.length hd seed a x s2.length (some (.int (i:Int))) z10 none,_,t5,rfl,zB (zO (zG (zQ (zh rfl) (zm (zm rfl (zm rfl (zh rfl) (jU 2 b (.inl (by decide)))) (yI 4 _)) (zh rfl) (yI _ i))) f1)) (zB (wW (wB (zh rfl) (g1 _ _ ht4) (zG (jV (zG (zQ (zh rfl) (zm (zh rfl) (zh rfl) (yI a i))) f2) (zh rfl) (zh rfl) (zh rfl)) f3) A1)) (wW (wB (zh rfl) k1 (zh rfl) A2))),⟨_,_,rfl⟩,k4,?_,ss++[v],k2,?_,by simp [hsl]⟩
   ·rw [show zs++(own (i+1)).map nm=(zs++(own i).map nm)++[nm (4+2*b+i)] by rw [owns];simp];exact k3
   ·rw [owns,wI];exact hln.snoc hv) ⟨⟨none,none,rfl⟩,fun k so hk e=>yf _ _ _ _ (yf _ _ _ _ e),by simpa [own] using hsc3,[],ht3,.nil _,rfl⟩
  subst he
  obtain ⟨hln,hsl⟩:=hln
  obtain ⟨w,hw,ew⟩:=w9 x 12 7 (by decide) (by decide) s4
  have hd4:=ob _ _ hdl hd1
  have o4:Old st s4:=fun k so e=>ob k so (yS (o1 _ _ e)) (o1 _ _ e)
  have zl:(zs++(own m).map nm).length<=900:=by simp [ownl];omega
  have G:∀{X:Res Fl},zgH (wD lev) (eB ns f b s1.length hd seed a x s2.length z9 z10 (some (.int (w:Int)))) s4=X->zgI (wD lev) [some (.frl (ns.map PV.int)),some (.int (f:Int)),some (.int (b:Int)),some (.ref sc),some (.ref hd),some (.int (seed:Int)),none,none,none,none,none,none,none,none] st=X:=fun h=>zB (zO (zm (zm rfl (zm (zm (zh rfl) rfl ((wn _ _).trans (by rw [b1]))) rfl (jU _ 9 (.inr (by decide)))) (yI 6 _)) (zm (zh rfl) rfl (jU f 3 (.inr (by decide)))) (yI _ _))) (zB (zO (zG (zQ (zh rfl) (zm (zh rfl) rfl (yI a 2))) e1)) (zB (zO (zG (zZ (zh rfl)) LS)) (zB (zO (jm jS (by simp))) (zB F (zB (zO (zG (yB (zh rfl) rfl rfl) ew)) h)))))
  have ownN:(own m).Nodup:=by
   refine List.pairwise_iff_getElem.mpr fun i j hi hj hij e=>?_
   simp only [own,List.getElem_map,List.getElem_range] at e
   omega
  have ownB:∀i∈own m,6<=i/\i<20/\(i-4)/2=b:=fun i hi=>by
   obtain ⟨j,hj,rfl⟩:=zad.mp hi
   have:=zbB.mp hj
   omega
  by_cases c1:4<w/\b<4
  ·have b2:((2*b:Nat):Int)+1=((2*b+1:Nat):Int):=by omega
   obtain ⟨v1,s5,l1,d1,i1,e5,o5,B1,q1,q2,q3,q4,q5,q6,N1,nd1,in1⟩:=ih (2*b) (by omega) (by omega) (by omega) (by omega) (by omega) (zs++(own m).map nm) s1.length hd s4 (by simp [ownl];omega) hsc4 hd4
   obtain ⟨v2,s6,l2',d2,i2,e6,o6,B2,p1,p2,p3,p4,p5,p6,N2,nd2,in2⟩:=ih (2*b+1) (by omega) (by omega) (by omega) (by omega) (by omega) (zs++(own m).map nm) s1.length hd s5 (by simp [ownl];omega) (o5 _ _ hsc4) (o5 _ _ hd4)
   have o46:=o5.trans o6
   have tu:js [.ref s2.length] s6=.ok (.tup ss) s6:=by rw [wU,yt (o46 _ _ ht4)]
   obtain ⟨va,s7,e7,_,o7⟩:=zdK x 13 (by decide) zl (o46 _ _ hsc4)
   refine ⟨_,s7,_,_,own m++(i1++i2),zhe (yi rfl (G (jf (yL (zaq (yb (zm (zh rfl) rfl (gtT true (by simp;omega) _))) (yb (zm (zh rfl) rfl (ltT true (by simp;omega) _)))) (zB (zO (zG (jF (zh rfl) (jF (zh rfl) (jF (zm rfl (zh rfl) (jU 2 b (.inl (by decide)))) (yB (zh rfl) (zh rfl) (zh rfl))))) e5)) (zB (zO (zG (jF (zh rfl) (jF (zh rfl) (jF (zm (zm rfl (zh rfl) (jU 2 b (.inl (by decide)))) rfl ((zce _ _).trans (by rw [b2]))) (yB (zh rfl) (zh rfl) (zh rfl))))) e6)) (yl (zK (zQ (zG (zZ (zh rfl)) tu) (zK (jV rfl (zG (yB (zh rfl) rfl (zh rfl)) e7) (zh rfl) (zh rfl)) (by simp))) (by simp))))))))),o4.trans (o46.trans o7),.node ss va v1 v2 l1 l2' d1 d2 B1 B2,by omega,by omega,by omega,by simp;omega,by simp;omega,by omega,?_,?_,?_⟩
   ·have h2:Lns (zs++(own m).map nm) ([.tup [.str "if", va,v1,v2]]++(l1++l2')) (i1.map nm++i2.map nm):=.fin _ _ _ _ zcx (N1.app (N2.mono fun z hz=>jW _ hz))
    rw [wI,wI,zbA,zbA]
    exact hln.app h2
   ·rw [List.nodup_append,List.nodup_append]
    refine ⟨ownN,⟨nd1,nd2,fun i hi j hj e=>?_⟩,fun i hi j hj e=>?_⟩
    ·subst e
     have a1:=(in1 i hi).2.2
     have a2:=(in2 i hj).2.2
     unfold sub at a1 a2
     omega
    ·subst e
     have a0:=ownB i hi
     rcases jv.mp hj with q|q
     ·have a1:=(in1 i q).2.2
      unfold sub at a1
      omega
     ·have a1:=(in2 i q).2.2
      unfold sub at a1
      omega
   ·intro i hi
    rcases jv.mp hi with q|q
    ·have:=ownB i q
     exact ⟨this.1,this.2.1,.inl this.2.2⟩
    ·rcases jv.mp q with q|q
     ·have a1:=in1 i q
      refine ⟨a1.1,a1.2.1,?_⟩
      have a2:=a1.2.2
      unfold sub at a2 ⊢
      omega
     ·have a1:=in2 i q
      refine ⟨a1.1,a1.2.1,?_⟩
      have a2:=a1.2.2
      unfold sub at a2 ⊢
      omega
  ·have tu:js [.ref s2.length] s4=.ok (.tup ss) s4:=by rw [wU,yt ht4]
   obtain ⟨v,s5,e5,hv,o5⟩:=zpQ x w zl H hsc4 hd4
   have TT:(jM (mB (zf oGt (zd 11) (mC (.int 4)))) (mB (zf wM (zd 2) (mC (.int 4))))) (eB ns f b s1.length hd seed a x s2.length z9 z10 (some (.int (w:Int)))) s4=.ok false s4:=by
    by_cases q:4<w
    ·exact zaq (yb (zm (zh rfl) rfl (gtT true (by simp;omega) _))) (yb (zm (zh rfl) rfl (ltT false (by simp;omega) _)))
    ·exact zbn (yb (zm (zh rfl) rfl (gtT false (by simp;omega) _)))
   refine ⟨_,s5,_,_,own m,zhe (yi rfl (G (zB (yG TT) (yl (zK (zQ (zG (zZ (zh rfl)) tu) (zG (jV (zh rfl) (zh rfl) (zh rfl) (zh rfl)) e5)) (by simp)))))),o4.trans o5,.leaf ss v hv,by omega,by omega,by omega,by simp;omega,by simp;omega,by simp;omega,?_,ownN,fun i hi=>?_⟩
   ·have:=hln.app (l2:=[v]) (z2:=[]) (.fin _ _ _ _ (zaW hv) (.nil _))
    simpa using this
   ·have:=ownB i hi
    exact ⟨this.1,this.2.1,.inl this.2.2⟩
structure Fn (f:PV) (ps zs:List Str) (ls:List PV) (dd:Nat):Prop where
 ex:∃nz bv,f=.tup [nz,.tup (ps.map PV.str),bv]/\Bk bv ls dd
 ln:Lns ps ls zs
 nd:(ps++zs).Nodup
 dp:dd<=8
 nl:ls.length<=100
 np:ps.length<=6
def IsFn (f:PV):Prop:=∃ps zs ls dd,Fn f ps zs ls dd
def zhg {fo fi fv:ze->Mo PV}{e:ze}{s s1:Sto}{n i:Nat}{x:PV}{xs:List PV}(hv:fv e s=.ok x s1) (ho:fo e s1=.ok (.ref n) s1) (hi:fi e s1=.ok (.int (i:Int)) s1) (h:s1[n]?=some (.lst xs)) (hl:i<xs.length):zap fo fi fv e s=.ok (.nx e) (s1.set n (.lst (xs.set i x))):=by
 unfold zap
 rw [hv,zL,ho,zL,hi,zL]
 show (yh s1 n _).bind _=_
 rw [yt h,zE hl,zL]
def zhh {g:PV->ze->Option ze}{body:ze->Mo Fl}{n:Nat}(xs:List PV) (I:Nat->ze->Sto->Prop) (at_:∀i e st,I i e st->st[n]?=some (.lst xs)) (step:∀(i:Nat) x e st,xs[i]?=some x->I i e st->∃e1 e2 st2,g (.tup [.int (i:Int),x]) e=some e1/\body e1 st=.ok (.nx e2) st2/\I (i+1) e2 st2) :
  ∀(k i m:Nat) (env:ze) (st:Sto),i+k=xs.length->k<m->I i env st->∃env' st',forE g body n m i env st=.ok (.nx env') st'/\I xs.length env' st'
 | 0,i,m,env,st,hk,hm,h=>by
  obtain ⟨m,rfl⟩:∃j,m=j+1:=⟨m-1,by omega⟩
  refine ⟨env,st,?_,by rw [<-hk];exact h⟩
  unfold forE
  rw [yt (at_ _ _ _ h),zcB (by omega)]
 | k+1,i,m,env,st,hk,hm,h=>by
  obtain ⟨m,rfl⟩:∃j,m=j+1:=⟨m-1,by omega⟩
  have hx:xs[i]?=some (xs[i]'(by omega)):=yn (by omega)
  obtain ⟨e1,e2,st2,q1,q2,q3⟩:=step i _ env st hx h
  obtain ⟨env',st',r,h2⟩:=zhh xs I at_ step k (i+1) m e2 st2 (by omega) (by omega) q3
  refine ⟨env',st',?_,h2⟩
  unfold forE
  rw [yt (at_ _ _ _ h),hx]
  simp only
  rw [q1]
  simp only
  rw [q2]
  simp only [zL]
  exact r
def at9 (ns:List Int) (k:Nat) (h9:k<1000) (st:Sto):∃(c:Nat) (s1:Sto),c<1000000000/\Old st s1/\∀e:ze,e[0]?=some (some (.frl (ns.map PV.int)))->(zf zH (zu yJ (zc (zd 0) (zc (mC (.int (k:Int))) zk))) (zf jN (mC (.int 10)) (mC (.int 9)))) e st=.ok (.int (c:Int)) s1:=by
 obtain ⟨x,s1,e1,o⟩:=wt ns k h9 st
 obtain ⟨c,hc,ec⟩:=modNat x 1000000000 (by decide)
 have ec:yF x 1000000000=(c:Int):=ec
 exact ⟨c,s1,hc,o,fun e h0=>zm (zG (zQ (zh h0) rfl) e1) (zm rfl rfl (zg1 _)) ((yN _ _ (by decide)).trans (by rw [ec]))⟩
def hsOne (z:Str):Hs [(z,2)]:=⟨by simp,fun h hh=>by rw [wa.mp hh];show 2<=6;decide⟩
def zdN {nm:Nat->Str}{P:Nat->Prop}(h:∀i j,P i->P j->nm i=nm j->i=j):∀{l:List Nat},l.Nodup->(∀i∈l,P i)->(l.map nm).Nodup
 | [],_,_=>.nil
 | x::l,nd,hp=>by
  rw [jc] at nd
  rw [ji,jc]
  refine ⟨fun hm=>?_,zdN h nd.2 fun i hi=>hp i (jh _ hi)⟩
  obtain ⟨y,hy,e⟩:=zad.mp hm
  have:=h y x (hp y (jh _ hy)) (hp x (yO ..)) e
  exact nd.1 (this▸hy)
abbrev xy:List Str:=["x", "y"]
def goE (r:List PV):EndV (.tup (.str "go" :: r)):=⟨_,_,rfl,n12,n7,m3⟩
abbrev bL:ze->Mo Fl:=(zv (zC 6 (zf zI (mC (.str "n")) (zu zao (zc (zf zI (zf zH (zf yr (zd 1) (mC (.int 60))) (mC (.int 100000))) (zd 5)) zk))))
  (zv (y7 (yP yZ (zd 4) (zu wY (zc (zf zI (zu yJ (zc (zd 0) (zc (zf zI (mC (.int 7)) (zf zH (zd 5) (mC (.int 50)))) zk))) (zd 5)) (zc (zd 6) (zc (zd 3) (zc (zd 2) zk)))))))
  (y7 (yP yZ (zd 3) (zd 6)))))
def zpS (ns:List Int) (st:Sto):∃fs s1,zdq [.frl (ns.map PV.int)] st=.ok (.tup fs) s1/\(∀f∈fs,IsFn f)/\fs.length<=200/\Old st s1:=by
 obtain ⟨c,s1,hc,o1,e1⟩:=at9 ns 6 (by decide) st
 let s2:=s1++[SO.lst (opV [("long", 2)])]
 let s3:=s2++[SO.lst (xy.map PV.str)]
 let s4:=s3++[SO.lst []]
 have l2:s2.length=s1.length+1:=by simp [s2]
 have l3:s3.length=s1.length+2:=by simp [s3,s2]
 have hd4:s4[s1.length]?=some (.lst (opV [("long", 2)])):=yf _ _ _ _ (yf _ _ _ _ (yu _ _))
 have sc4:s4[s2.length]?=some (.lst (xy.map PV.str)):=yf _ _ _ _ (yu _ _)
 have t4:s4[s3.length]?=some (.lst []):=yu _ _
 have o4:Old s1 s4:=(yf _ _).trans ((yf _ _).trans (yf _ _))
 let q:=c/60%100000
 have hq:q<100000:=y1 _ (by decide)
 let nm:Nat->Str:=fun k => "n" ++ dgs (q+k)
 have ln:("n" : Str).length=1:=by decide +kernel
 have hm:c%60<60:=y1 _ (by decide)
 generalize em:c%60=m at hm
 obtain ⟨e',s5,F,⟨z5,z6,he⟩,ob,sc5,ss,t5,hln,hsl⟩:=zbw (gt:=gN 5) (body:=bL) (fs:=(zc (zf zH (zd 1) (mC (.int 60))) zk)) (e:=[some (.frl (ns.map PV.int)),some (.int (c:Int)),some (.ref s1.length),some (.ref s2.length),some (.ref s3.length),none,none]) (st:=s4) (fun i e s=>(∃z5 z6,e=[some (.frl (ns.map PV.int)),some (.int (c:Int)),some (.ref s1.length),some (.ref s2.length),some (.ref s3.length),z5,z6])/\(∀(k:Nat) so,k<s2.length->s4[k]?=some so->s[k]?=some so)/\s[s2.length]?=some (.lst ((xy++(List.range i).map nm).map PV.str))/\∃ss,s[s3.length]?=some (.lst ss)/\Lns xy ss ((List.range i).map nm)/\ss.length=i) m (by omega) (zZ (zm (zh rfl) rfl ((y0 c 60 (by decide)).trans (by rw [em])))) (fun i e s hi ⟨⟨z5,z6,he⟩,ob,sc5,ss,t5,hln,hsl⟩=>by
  subst he
  have h50:i%50<50:=y1 _ (by decide)
  obtain ⟨y,t1,f1,g1⟩:=wt ns (7+i%50) (by omega) s
  have zl:(xy++(List.range i).map nm).length<=900:=by simp;omega
  obtain ⟨v,t2,f2,hv,g2⟩:=zdM (y+(i:Int)) (nm i) zl (hsOne "long") (g1 _ _ sc5) (g1 _ _ (ob _ _ (by omega) hd4))
  have o3:=g1.trans g2
  obtain ⟨t4',t5',A1,k1,A2,k2,k3,k4⟩:=zhf (s1:=s4) (a0:=s2.length) (v:=v) (z:=nm i) (o3 _ _ t5) (o3 _ _ sc5) (by omega) (by omega) (by omega) (fun k so hk e=>o3 _ _ (ob k so hk e)) (by omega) (yg _)
  refine ⟨[some (.frl (ns.map PV.int)),some (.int (c:Int)),some (.ref s1.length),some (.ref s2.length),some (.ref s3.length),some (.int (i:Int)),z6],_,t5',rfl,zB (zO (zm rfl (zG (zZ (zm (zm (zm (zh rfl) rfl (j8 c 60 (by decide) (by decide))) rfl (y0 _ 100000 (by decide))) (zh rfl) (yI q i))) (zg9 _ (by omega) _)) (ad _ _ (by have:=zg8 (q+i) (by omega);omega) _))) (zB (wW (wB (zh rfl) t5 (zG (jV (zm (zG (zQ (zh rfl) (zm rfl (zm (zh rfl) rfl (y0 i 50 (by decide))) (yI 7 _))) f1) (zh rfl) (zce _ _)) (zh rfl) (zh rfl) (zh rfl)) f2) A1)) (wW (wB (zh rfl) k1 (zh rfl) A2))),⟨_,_,rfl⟩,k4,?_,ss++[v],k2,?_,by simp [hsl]⟩
  ·rw [show xy++(List.range (i+1)).map nm=(xy++(List.range i).map nm)++[nm i] by simp [zbz]];exact k3
  ·rw [zbz,wI];exact hln.snoc hv) ⟨⟨none,none,rfl⟩,fun k so hk e=>e,sc4,[],t4,.nil _,rfl⟩
 subst he
 have zl:(xy++(List.range m).map nm).length<=900:=by simp;omega
 have tu:js [.ref s3.length] s5=.ok (.tup ss) s5:=by rw [wU,yt t5]
 obtain ⟨as,s6,e6,_,_,o6⟩:=zaV c 2 (by decide) zl sc5
 refine ⟨[.tup [.str "long", .tup (xy.map PV.str),.tup [.tup ss,.tup [.str "go", .str "long", .tup as]]]],s6,yi rfl (zB (zO (e1 _ rfl)) (zB (zO (jm (xs:=opV [("long", 2)]) rfl (by decide))) (zB (zO (jm (xs:=xy.map PV.str) rfl (by decide))) (zB (zO (jm jS (by simp))) (zB F (yl (zK (zZ (zK (yB rfl (zK (zQ rfl rfl) (by simp)) (zK (zQ (zG (zZ (zh rfl)) tu) (zK (yB rfl rfl (zG (yB (zh rfl) rfl (zh rfl)) e6)) (by simp))) (by simp))) (by simp))) (by simp)))))))),fun f hf=>?_,by simp,fun k so e=>?_⟩
 ·rw [wa.mp hf]
  refine ⟨xy,(List.range m).map nm,_,_,⟨⟨_,_,rfl,.leaf ss _ (goE _)⟩,?_,?_,by omega,by simp;omega,by simp⟩⟩
  ·have:=hln.app (l2:=[.tup [.str "go", .str "long", .tup as]]) (z2:=[]) (.fin _ _ _ _ (zaW (goE _)) (.nil _))
   simpa using this
  ·rw [List.nodup_append]
   refine ⟨by decide +kernel,zdN (P:=fun _=>True) (fun i j _ _ h=>by have:=zg7 (zdI h);omega) List.nodup_range (fun _ _=>trivial),fun a ha b hb e=>?_⟩
   subst e
   obtain ⟨i,_,hi⟩:=zad.mp hb
   have h0:a.cps.toList[0]?=some 110:=by
    rw [<-hi]
    show (("n" : Str)++dgs (q+i)).cps.toList[0]?=_
    rw [PySem.Str.cps_append,Array.toList_append,show ("n" : Str).cps.toList=[110] by decide +kernel]
    rfl
   rcases yD.mp ha with r|r
   ·rw [r] at h0;revert h0;decide +kernel
   ·rw [wa.mp r] at h0;revert h0;decide +kernel
 ·exact o6 _ _ (ob k so (by have:=yS (o1 _ _ e);omega) (o4 _ _ (o1 _ _ e)))
def zhi (xs:List PV) (k:Nat):cutP xs none (some (k:Int))=xs.take k:=by
 unfold cutP
 rw [HT.sIx_none,HT.sIx_nat,List.drop_zero,Nat.sub_zero]
 by_cases h:k<=xs.length
 ·rw [Nat.min_eq_left h]
 ·rw [Nat.min_eq_right (by omega),List.take_length,List.take_of_length_le (by omega)]
def zdO {s:Sto}{n:Nat}{zs:List Str}(h:s[n]?=some (.lst (zs.map PV.str))) (k:Nat):oSl (.ref n) none (some (k:Int)) s=.ok (.ref s.length) (s++[.lst ((zs.take k).map PV.str)]):=by
 rw [zmR,yt h,zhi,List.map_take]
def eqTi (a b:Int) (st:Sto):jQ (.int a) (.int b) st=.ok (.bl (a==b)) st:=by
 unfold jQ
 rw [show eqT st 150 (.int a) (.int b)=some (a==b) from rfl]
def yH:List Str:=["p", "q", "s1", "s2", "s3", "s4", "s5", "s6", "s7", "s8"]
abbrev bD:ze->Mo Fl:=(zv (zC 5 (zu yJ (zc (zd 0) (zc (zf zI (mC (.int 7)) (zd 4)) zk))))
  (zv (zC 6 (zu wY (zc (zd 5) (zc (zf zq (zd 2) (zf jk (mC (.int 9)) (zd 4))) (zc (jE (zd 2) pNone (pSome (zf jk (mC (.int 9)) (zd 4)))) (zc (yR (zc (zx (zc (mC (.str "deep")) (zc (mC (.int 2)) zk))) zk)) zk))))))
  (zv (zC 7 (zx (zc (zx zk) (zc (zx (zc (mC (.str "go")) (zc (mC (.str "deep")) (zc (zu wC (zc (zf yr (zd 5) (mC (.int 7))) (zc (mC (.int 2)) (zc (jE (zd 2) pNone (pSome (zf jk (mC (.int 10)) (zd 4)))) zk)))) zk)))) zk))))
  (zv (zC 8 (zx (zc (mC (.str "of")) (zc (zf zq (zd 2) (zu jT (zc (zd 5) (zc (mC (.int 15)) (zc (zf jk (mC (.int 10)) (zd 4)) zk))))) zk))))
  (ya (mB (zf zS (zf zH (zd 5) (mC (.int 2))) (mC (.int 0))))
  (zC 3 (zx (zc (zx (zc (zd 6) zk)) (zc (zx (zc (mC (.str "if")) (zc (zd 8) (zc (zd 3) (zc (zd 7) zk))))) zk))))
  (zC 3 (zx (zc (zx (zc (zd 6) zk)) (zc (zx (zc (mC (.str "if")) (zc (zd 8) (zc (zd 7) (zc (zd 3) zk))))) zk)))))))))
def ix_str {s:Sto}{n:Nat}{zs:List Str}(h:s[n]?=some (.lst (zs.map PV.str))) {i:Nat}(hi:i<zs.length):zq (.ref n) (.int (i:Int)) s=.ok (.str (zs[i]'hi)) s:=by
 rw [zaJ,yt h,atI_get (x:=PV.str (zs[i]'hi)) (by rw [jt,yn hi];rfl)]
 rfl
def zpT (ns:List Int) (st:Sto):∃fs s1,zdu [.frl (ns.map PV.int)] st=.ok (.tup fs) s1/\(∀f∈fs,IsFn f)/\fs.length<=200/\Old st s1:=by
 obtain ⟨c,s1,hc,o1,e1⟩:=at9 ns 6 (by decide) st
 let s2:=s1++[SO.lst (yH.map PV.str)]
 have h2:s2[s1.length]?=some (.lst (yH.map PV.str)):=yu _ _
 obtain ⟨as,s3,e3,_,_,o3⟩:=zaV c 2 (by decide) (zs:=yH) (by decide) h2
 have l10:yH.length=10:=rfl
 obtain ⟨e',s4,F,⟨bv,z4,z5,z6,z7,z8,he,ls,dd,B,hdd,hll,hln⟩,o4⟩:=zbw (gt:=gN 4) (body:=bD) (fs:=(zc (mC (.int 8)) zk)) (e:=[some (.frl (ns.map PV.int)),some (.int (c:Int)),some (.ref s1.length),some (.tup [.tup [],.tup [.str "go", .str "deep", .tup as]]),none,none,none,none,none]) (st:=s3) (fun i e s=>(∃bv z4 z5 z6 z7 z8,e=[some (.frl (ns.map PV.int)),some (.int (c:Int)),some (.ref s1.length),some bv,z4,z5,z6,z7,z8]/\∃ls dd,Bk bv ls dd/\dd<=i/\ls.length<=1+3*i/\Lns (yH.take (10-i)) ls (yH.drop (10-i)))/\Old s3 s) 8 (by decide) rfl (fun i e s hi ⟨⟨bv,z4,z5,z6,z7,z8,he,ls,dd,B,hdd,hll,hln⟩,o⟩=>by
  subst he
  have a9:(9:Int)-(i:Int)=((9-i:Nat):Int):=by omega
  have a10:(10:Int)-(i:Int)=((10-i:Nat):Int):=by omega
  have hN:∀{s':Sto},Old s s'->s'[s1.length]?=some (.lst (yH.map PV.str)):=fun o'=>o' _ _ (o _ _ (o3 _ _ h2))
  obtain ⟨y,t1,f1,g1⟩:=wt ns (7+i) (by omega) s
  have hi9:9-i<yH.length:=by omega
  let t2:=t1++[SO.lst ((yH.take (9-i)).map PV.str)]
  let t3:=t2++[SO.lst (opV [("deep", 2)])]
  obtain ⟨v,t4,f4,hv,g4⟩:=zdM y (yH[9-i]'hi9) (zs:=yH.take (9-i)) (by simp;omega) (hsOne "deep") (st:=t3) (sc:=t1.length) (hd:=t2.length) (yf _ _ _ _ (yu _ _)) (yu _ _)
  have g14:Old s t4:=g1.trans ((yf _ _).trans ((yf _ _).trans g4))
  let t5:=t4++[SO.lst ((yH.take (10-i)).map PV.str)]
  obtain ⟨as2,t6,f6,_,_,g6⟩:=zaV (y6 y 7) 2 (by decide) (zs:=yH.take (10-i)) (by simp;omega) (st:=t5) (sc:=t4.length) (yu _ _)
  have g16:Old s t6:=g14.trans ((yf _ _).trans g6)
  obtain ⟨j,hj,ej⟩:=w9 y 15 (10-i) (by decide) (by omega) t6
  have hj':j<yH.length:=by omega
  obtain ⟨r,hr,er⟩:=modNat y 2 (by decide)
  have er:yF y 2=(r:Int):=er
  have e10:yH.take (10-i)=yH.take (9-i)++[yH[9-i]'hi9]:=by
   rw [show 10-i=(9-i)+1 by omega]
   exact zpv (yn hi9)
  have d10:yH.drop (9-i)=yH[9-i]'hi9::yH.drop (10-i):=by
   rw [jJ hi9,show 9-i+1=10-i by omega]
  have pre:∀{X:Res Fl},(ya (mB (zf zS (zf zH (zd 5) (mC (.int 2))) (mC (.int 0))))
   (zC 3 (zx (zc (zx (zc (zd 6) zk)) (zc (zx (zc (mC (.str "if")) (zc (zd 8) (zc (zd 3) (zc (zd 7) zk))))) zk))))
   (zC 3 (zx (zc (zx (zc (zd 6) zk)) (zc (zx (zc (mC (.str "if")) (zc (zd 8) (zc (zd 7) (zc (zd 3) zk))))) zk))))) [some (.frl (ns.map PV.int)),some (.int (c:Int)),some (.ref s1.length),some bv,some (.int (i:Int)),some (.int y),some v,some (.tup [.tup [],.tup [.str "go", .str "deep", .tup as2]]),some (.tup [.str "of", .str (yH[j]'hj')])] t6=X->bD [some (.frl (ns.map PV.int)),some (.int (c:Int)),some (.ref s1.length),some bv,some (.int (i:Int)),z5,z6,z7,z8] s=X:=fun h=>zB (zO (zG (zQ (zh rfl) (zm rfl (zh rfl) (yI 7 i))) f1)) (zB (zO (zG (jV (zh rfl) (zm (zh rfl) (zm rfl (zh rfl) ((wn _ _).trans (by rw [a9]))) (ix_str (hN g1) hi9)) (zcc (zh rfl) zcd (zbp (zm rfl (zh rfl) ((wn _ _).trans (by rw [a9])))) (zdO (hN g1) (9-i))) (jm (xs:=opV [("deep", 2)]) rfl (by decide))) f4)) (zB (zO (zK (zQ (zK jS (by simp)) (zK (yB rfl rfl (zG (yB (zm (zh rfl) rfl (j4 _ _ (by decide) (by decide))) rfl (zcc (zh rfl) zcd (zbp (zm rfl (zh rfl) ((wn _ _).trans (by rw [a10])))) (zdO (hN g14) (10-i)))) f6)) (by simp))) (by simp))) (zB (zO (zK (zQ rfl (zm (zh rfl) (zG (yB (zh rfl) rfl (zm rfl (zh rfl) ((wn _ _).trans (by rw [a10])))) ej) (ix_str (hN g16) hj'))) (by simp))) h)))
  have Bg:Bk (.tup [.tup [],.tup [.str "go", .str "deep", .tup as2]]) [.tup [.str "go", .str "deep", .tup as2]] 0:=.leaf [] _ (goE _)
  have ng:NoSt (.tup [.str "go", .str "deep", .tup as2]):=zaW (goE _)
  have stV:∀{ls':List PV} {zs':List Str},Lns (yH.take (10-i)) ls' zs'->Lns (yH.take (10-(i+1))) (v::ls') (yH[9-i]'hi9::zs'):=fun h=>by
   rw [show 10-(i+1)=9-i by omega]
   rw [e10] at h
   exact .stp _ _ _ _ _ hv h
  have dq:yH.drop (10-(i+1))=yH[9-i]'hi9::yH.drop (10-i):=by rw [show 10-(i+1)=9-i by omega];exact d10
  rw [dq]
  by_cases hr0:r=0
  ·refine ⟨[some (.frl (ns.map PV.int)),some (.int (c:Int)),some (.ref s1.length),some bv,some (.int (i:Int)),z5,z6,z7,z8],_,t6,rfl,pre (yL (yb (zm (zm (zh rfl) rfl ((yN _ _ (by decide)).trans (by rw [er]))) rfl (eqT' true (by simp;omega) _))) (zO (zK (zQ (zK (zZ (zh rfl)) (by simp)) (zK (jV rfl (zh rfl) (zh rfl) (zh rfl)) (by simp))) (by simp)))),⟨_,_,_,_,_,_,rfl,_,_,.node [v] _ _ _ _ _ _ _ B Bg,by omega,by simp;omega,?_⟩,o.trans g16⟩
   show Lns _ (v::(.tup [.str "if", _,bv,_]::(ls++[.tup [.str "go", .str "deep", .tup as2]]))) _
   refine stV (.fin _ _ _ _ zcx ?_)
   have:=hln.app (l2:=[.tup [.str "go", .str "deep", .tup as2]]) (z2:=[]) (.fin _ _ _ _ ng (.nil _))
   simpa using this
  ·refine ⟨[some (.frl (ns.map PV.int)),some (.int (c:Int)),some (.ref s1.length),some bv,some (.int (i:Int)),z5,z6,z7,z8],_,t6,rfl,pre (zf4 (yb (zm (zm (zh rfl) rfl ((yN _ _ (by decide)).trans (by rw [er]))) rfl (eqT' false (by simp;omega) _))) (zO (zK (zQ (zK (zZ (zh rfl)) (by simp)) (zK (jV rfl (zh rfl) (zh rfl) (zh rfl)) (by simp))) (by simp)))),⟨_,_,_,_,_,_,rfl,_,_,.node [v] _ _ _ _ _ _ _ Bg B,by omega,by simp;omega,?_⟩,o.trans g16⟩
   show Lns _ (v::(.tup [.str "if", _,_,bv]::(.tup [.str "go", .str "deep", .tup as2]::ls))) _
   exact stV (.fin _ _ _ _ zcx (.fin _ _ _ _ ng hln))) ⟨⟨_,none,none,none,none,none,rfl,_,0,.leaf [] _ (goE _),yg _,by simp,.fin _ _ _ _ (zaW (goE _)) (.nil _)⟩,Old.refl _⟩
 subst he
 refine ⟨[.tup [.str "deep", .tup ((["p", "q"]:List Str).map PV.str),bv]],s4,yi rfl (zB (zO (e1 _ rfl)) (zB (zO (jm (xs:=yH.map PV.str) rfl (by decide))) (zB (zO (zK (zQ (zK jS (by simp)) (zK (yB rfl rfl (zG (yB (zh rfl) rfl (zh rfl)) e3)) (by simp))) (by simp))) (zB F (yl (zK (zZ (zK (yB rfl (zK (zQ rfl rfl) (by simp)) (zh rfl)) (by simp))) (by simp))))))),fun f hf=>?_,by simp,o1.trans ((yf _ _).trans (o3.trans o4))⟩
 rw [wa.mp hf]
 exact ⟨["p", "q"],yH.drop 2,ls,dd,⟨⟨_,_,rfl,B⟩,hln,by decide +kernel,by omega,by omega,by simp⟩⟩
abbrev pq:List Str:=["p", "q"]
def zpU (h:Int) (aim:Str) (st:Sto):∃stp as s1,zcm [.int h,.str aim] st=.ok (.tup [.str "if", .tup [.str "of", .str "p"],.tup [.tup [stp],.tup [.str "go", .str aim,.tup as]],.tup [.tup [],.tup [.str "give", .tup [.str "of", .str "q"]]]]) s1/\StV pq "z" stp/\Old st s1:=by
 obtain ⟨a,ha,ea⟩:=modNat h 7 (by decide)
 have ea:yF h 7=(a:Int):=ea
 obtain ⟨b,hb,eb⟩:=modNat (y6 h 7) 5 (by decide)
 have eb:yF (y6 h 7) 5=(b:Int):=eb
 obtain ⟨c,hc,ec⟩:=modNat (y6 h 35) 3 (by decide)
 have ec:yF (y6 h 35) 3=(c:Int):=ec
 have K1:∃stp,StV pq "z" stp/\(ya (mB (zf zS (zf zH (zd 0) (mC (.int 7))) (mC (.int 3))))
  (zC 2 (zx (zc (mC (.str "let")) (zc (mC (.str "z")) (zc (mC (.str "add")) (zc (zx (zc (zx (zc (mC (.str "of")) (zc (mC (.str "p")) zk))) (zc (zx (zc (mC (.str "is")) (zc (mC (.int 1)) zk))) zk))) zk))))))
  yd) [some (.int h),some (.str aim),some (.tup [.str "let", .str "z", .str "down", .tup [.tup [.str "of", .str "p"]]]),none] st=.ok (.nx [some (.int h),some (.str aim),some stp,none]) st:=by
  by_cases h3:a=3
  ·refine ⟨_,?_,yL (yb (zm (zm (zh rfl) rfl ((yN _ _ (by decide)).trans (by rw [ea]))) rfl (eqT' true (by simp;omega) _))) (zO (zK (jV rfl rfl rfl (zK (zQ (zK (zQ rfl rfl) (by simp)) (zK (zQ rfl rfl) (by simp))) (by simp))) (by simp)))⟩
   refine .let_ "add" 2 _ (by decide +kernel) (by simp) fun y hy=>?_
   rcases yD.mp hy with q|q
   ·rw [q];exact .of _ (by simp)
   ·rw [wa.mp q];exact .is _
  ·refine ⟨_,?_,yG (yb (zm (zm (zh rfl) rfl ((yN _ _ (by decide)).trans (by rw [ea]))) rfl (eqT' false (by simp;omega) _)))⟩
   refine .let_ "down" 1 _ (by decide +kernel) (by simp) fun y hy=>?_
   rw [wa.mp hy];exact .of _ (by simp)
 obtain ⟨stp,hst,E1⟩:=K1
 let A0:List PV:=[.tup [.str "of", .str "z"],.tup [.str "of", .str "q"]]
 let s1:=st++[SO.lst A0]
 have K2:∃(A1:List PV) (s2:Sto),(ya (mB (zf zS (zf zH (zf yr (zd 0) (mC (.int 7))) (mC (.int 5))) (mC (.int 2))))
  (zap (zd 3) (mC (.int 1)) (zx (zc (mC (.str "is")) (zc (zf zH (zf yr (zd 0) (mC (.int 35))) (mC (.int 9))) zk))))
  yd) [some (.int h),some (.str aim),some stp,some (.ref st.length)] s1=.ok (.nx [some (.int h),some (.str aim),some stp,some (.ref st.length)]) s2/\s2[st.length]?=some (.lst A1)/\Old st s2:=by
  by_cases h2:b=2
  ·have P:=zhg (fo:=zd 3) (fi:=mC (.int 1)) (fv:=(zx (zc (mC (.str "is")) (zc (zf zH (zf yr (zd 0) (mC (.int 35))) (mC (.int 9))) zk)))) (e:=[some (.int h),some (.str aim),some stp,some (.ref st.length)]) (s:=s1) (i:=1) (zK (zQ rfl (zm (zm (zh rfl) rfl (j4 _ _ (by decide) (by decide))) rfl (yN _ _ (by decide)))) (by simp)) (zh rfl) rfl (yu _ _) (by simp [A0])
   exact ⟨_,_,yL (yb (zm (zm (zm (zh rfl) rfl (j4 _ _ (by decide) (by decide))) rfl ((yN _ _ (by decide)).trans (by rw [eb]))) rfl (eqT' true (by simp;omega) _))) P,jI (by simp [s1]),fun n so e=>by rw [ja (by have:=yS e;omega)];exact yf _ _ _ _ e⟩
  ·exact ⟨A0,s1,yG (yb (zm (zm (zm (zh rfl) rfl (j4 _ _ (by decide) (by decide))) rfl ((yN _ _ (by decide)).trans (by rw [eb]))) rfl (eqT' false (by simp;omega) _))),yu _ _,yf _ _⟩
 obtain ⟨A1,s2,E2,h2,o2⟩:=K2
 have K3:∃(A2:List PV) (r:Nat) (s3:Sto),(ya (mB (zf zS (zf zH (zf yr (zd 0) (mC (.int 35))) (mC (.int 3))) (mC (.int 1))))
  (zC 3 (zbk (zd 3) (pSome (jy zba (mC (.int 1))))))
  yd) [some (.int h),some (.str aim),some stp,some (.ref st.length)] s2=.ok (.nx [some (.int h),some (.str aim),some stp,some (.ref r)]) s3/\s3[r]?=some (.lst A2)/\Old st s3:=by
  by_cases h1:c=1
  ·have pn:pSome (jy zba (mC (.int 1))) [some (.int h),some (.str aim),some stp,some (.ref st.length)] s2=.ok (some (-1)) s2:=zbp (zf5 rfl rfl)
   have R:(zbk (zd 3) (pSome (jy zba (mC (.int 1))))) [some (.int h),some (.str aim),some stp,some (.ref st.length)] s2=.ok (.ref s2.length) (s2++[.lst A1.reverse]):=by
    rw [zmP,zh (v:=.ref st.length) rfl,zL,pn,zL,zmQ,yt h2]
   exact ⟨_,_,_,yL (yb (zm (zm (zm (zh rfl) rfl (j4 _ _ (by decide) (by decide))) rfl ((yN _ _ (by decide)).trans (by rw [ec]))) rfl (eqT' true (by simp;omega) _))) (zO R),yu _ _,o2.trans (yf _ _)⟩
  ·exact ⟨A1,_,s2,yG (yb (zm (zm (zm (zh rfl) rfl (j4 _ _ (by decide) (by decide))) rfl ((yN _ _ (by decide)).trans (by rw [ec]))) rfl (eqT' false (by simp;omega) _))),h2,o2⟩
 obtain ⟨A2,r,s3,E3,h3,o3⟩:=K3
 exact ⟨stp,A2,s3,yi rfl (zB (zO (zK (jV rfl rfl rfl (zK (zZ (zK (zQ rfl rfl) (by simp))) (by simp))) (by simp))) (zB E1 (zB (zO (jm (xs:=A0) (zQ (zK (zQ rfl rfl) (by simp)) (zK (zQ rfl rfl) (by simp))) (by decide))) (zB E2 (zB E3 (yl (zK (jV rfl (zK (zQ rfl rfl) (by simp)) (zK (zQ (zK (zZ (zh rfl)) (by simp)) (zK (yB rfl (zh rfl) (zG (zZ (zh rfl)) (by rw [wU,yt h3]))) (by simp))) (by simp)) (zK (zQ (zK jS (by simp)) (zK (zQ rfl (zK (zQ rfl rfl) (by simp))) (by simp))) (by simp))) (by simp)))))))),hst,o3⟩
def giveE (r:List PV):EndV (.tup (.str "give" :: r)):=⟨_,_,rfl,n10,n3,m1⟩
def zpV {nz stp:PV} {aim:Str} {as:List PV} (h:StV pq "z" stp):IsFn (.tup [nz,.tup (pq.map PV.str),.tup [.tup [],.tup [.str "if", .tup [.str "of", .str "p"],.tup [.tup [stp],.tup [.str "go", .str aim,.tup as]],.tup [.tup [],.tup [.str "give", .tup [.str "of", .str "q"]]]]]]):=by
 refine ⟨pq,["z"],_,_,⟨⟨_,_,rfl,.node [] _ _ _ _ _ _ _ (.leaf [stp] _ (goE _)) (.leaf [] _ (giveE _))⟩,?_,by decide +kernel,by decide,by simp,by simp⟩⟩
 exact .fin _ _ _ _ zcx (.stp _ _ _ _ _ h (.fin _ _ _ _ (zaW (goE _)) (.fin _ _ _ _ (zaW (giveE _)) (.nil _))))
abbrev bR:ze->Mo Fl:=(zv (zC 6 (zu yJ (zc (zd 0) (zc (zf zI (mC (.int 7)) (zf zH (zd 5) (mC (.int 50)))) zk))))
  (zv (zC 7 (zf zI (zd 5) (mC (.int 1))))
  (zv (ya (mB (zf jQ (zd 5) (zf jk (zd 2) (mC (.int 1)))))
  (zC 7 (zf zH (zd 6) (zd 2)))
  yd)
  (y7 (yP yZ (zd 4) (zx (zc (zu jG (zc (zd 3) (zc (zd 5) zk))) (zc (zx (zc (mC (.str "p")) (zc (mC (.str "q")) zk))) (zc (zx (zc (zx zk) (zc (zu zcm (zc (zd 6) (zc (zu jG (zc (zd 3) (zc (zd 7) zk))) zk))) zk))) zk)))))))))
def zpW (ns:List Int) (st:Sto):∃fs s1,zdt [.frl (ns.map PV.int)] st=.ok (.tup fs) s1/\(∀f∈fs,IsFn f)/\fs.length<=200/\Old st s1:=by
 obtain ⟨c,s1,hc,o1,e1⟩:=at9 ns 6 (by decide) st
 have K:∃m:Nat,0<m/\m<=100/\(ya (mB (zf zS (zf zH (zf yr (zd 1) (mC (.int 12))) (mC (.int 8))) (mC (.int 1))))
  (zC 2 (zf zI (mC (.int 1)) (zf zH (zf yr (zd 1) (mC (.int 96))) (mC (.int 90)))))
  yd) [some (.frl (ns.map PV.int)),some (.int (c:Int)),some (.int ((1+c%12:Nat):Int)),none,none,none,none,none] s1=.ok (.nx [some (.frl (ns.map PV.int)),some (.int (c:Int)),some (.int (m:Int)),none,none,none,none,none]) s1:=by
  by_cases h1:c/12%8=1
  ·refine ⟨1+c/96%90,by omega,by have:=y1 (c/96) (show 0<90 by decide);omega,yL (yb (zm (zm (zm (zh rfl) rfl (j8 c 12 (by decide) (by decide))) rfl (y0 _ 8 (by decide))) rfl (eqT' true (by simp;omega) _))) (zO (zm rfl (zm (zm (zh rfl) rfl (j8 c 96 (by decide) (by decide))) rfl (y0 _ 90 (by decide))) (yI 1 _)))⟩
  ·exact ⟨1+c%12,by omega,by have:=y1 c (show 0<12 by decide);omega,yG (yb (zm (zm (zm (zh rfl) rfl (j8 c 12 (by decide) (by decide))) rfl (y0 _ 8 (by decide))) rfl (eqT' false (by simp;omega) _)))⟩
 obtain ⟨m,hm0,hm,E2⟩:=K
 have h9:c/17%900000<900000:=y1 _ (by decide)
 obtain ⟨nm,M⟩:=zdJ (4*(c/17%900000)+2) (by omega)
 generalize eS:4*(c/17%900000)+2=sd at M
 let s2:=s1++[SO.lst []]
 have m1':(m:Int)-1=((m-1:Nat):Int):=by omega
 obtain ⟨e',s3,F,⟨z5,z6,z7,he⟩,ob,fs,h3,hfs,hfl⟩:=zbw (gt:=gN 5) (body:=bR) (fs:=(zc (zd 2) zk)) (e:=[some (.frl (ns.map PV.int)),some (.int (c:Int)),some (.int (m:Int)),some (.int (sd:Int)),some (.ref s1.length),none,none,none]) (st:=s2) (fun i e s=>(∃z5 z6 z7,e=[some (.frl (ns.map PV.int)),some (.int (c:Int)),some (.int (m:Int)),some (.int (sd:Int)),some (.ref s1.length),z5,z6,z7])/\(∀(k:Nat) so,k≠s1.length->s2[k]?=some so->s[k]?=some so)/\∃fs,s[s1.length]?=some (.lst fs)/\(∀f∈fs,IsFn f)/\fs.length=i) m (by omega) (zZ (zh rfl)) (fun i e s hi ⟨⟨z5,z6,z7,he⟩,ob,fs,h3,hfs,hfl⟩=>by
  subst he
  have h50:i%50<50:=y1 _ (by decide)
  obtain ⟨y,t1,f1,g1⟩:=wt ns (7+i%50) (by omega) s
  obtain ⟨r,hr,er⟩:=modNat y m hm0
  have K:∃a:Nat,a<1000/\(ya (mB (zf jQ (zd 5) (zf jk (zd 2) (mC (.int 1))))) (zC 7 (zf zH (zd 6) (zd 2))) yd) [some (.frl (ns.map PV.int)),some (.int (c:Int)),some (.int (m:Int)),some (.int (sd:Int)),some (.ref s1.length),some (.int (i:Int)),some (.int y),some (.int ((i+1:Nat):Int))] t1=.ok (.nx [some (.frl (ns.map PV.int)),some (.int (c:Int)),some (.int (m:Int)),some (.int (sd:Int)),some (.ref s1.length),some (.int (i:Int)),some (.int y),some (.int (a:Int))]) t1:=by
   by_cases h:i=m-1
   ·exact ⟨r,by omega,yL (yb (zm (zh rfl) (zm (zh rfl) rfl (wn _ _)) ((eqTi _ _ _).trans (by rw [show ((i:Int)==(m:Int)-1)=true by simp;omega])))) (zO (zm (zh rfl) (zh rfl) ((yN _ _ (by omega)).trans (by rw [er]))))⟩
   ·exact ⟨i+1,by omega,yG (yb (zm (zh rfl) (zm (zh rfl) rfl (wn _ _)) ((eqTi _ _ _).trans (by rw [show ((i:Int)==(m:Int)-1)=false by simp;omega]))))⟩
  obtain ⟨a,ha,E⟩:=K
  obtain ⟨t2,f2,g2⟩:=M.at_ i (by omega) t1
  obtain ⟨t3,f3,g3⟩:=M.at_ a ha t2
  obtain ⟨stp,as,t4,f4,hst,g4⟩:=zpU y (nm a) t3
  have g12:=g1.trans g2
  have g14:=g12.trans (g3.trans g4)
  have AP:=zcr (y:=.tup [.str (nm i),.tup (pq.map PV.str),.tup [.tup [],.tup [.str "if", .tup [.str "of", .str "p"],.tup [.tup [stp],.tup [.str "go", .str (nm a),.tup as]],.tup [.tup [],.tup [.str "give", .tup [.str "of", .str "q"]]]]]]) (g14 _ _ h3) (by omega)
  refine ⟨[some (.frl (ns.map PV.int)),some (.int (c:Int)),some (.int (m:Int)),some (.int (sd:Int)),some (.ref s1.length),some (.int (i:Int)),z6,z7],_,_,rfl,zB (zO (zG (zQ (zh rfl) (zm rfl (zm (zh rfl) rfl (y0 i 50 (by decide))) (yI 7 _))) f1)) (zB (zO (zm (zh rfl) rfl (yI i 1))) (zB E (wW (wB (zh rfl) (g1 _ _ h3) (zK (yB (zG (zQ (zh rfl) (zh rfl)) f2) (zK (zQ rfl rfl) (by simp)) (zK (zQ (zK jS (by simp)) (zG (zQ (zh rfl) (zG (zQ (zh rfl) (zh rfl)) f3)) f4)) (by simp))) (by simp)) AP)))),⟨_,_,_,rfl⟩,fun k so hk e=>by rw [ja (yA hk)];exact g14 _ _ (ob k so hk e),_,jI (yS (g14 _ _ h3)),fun f hf=>?_,by simp [hfl]⟩
  rcases jv.mp hf with q|q
  ·exact hfs f q
  ·rw [wa.mp q];exact zpV hst) ⟨⟨none,none,none,rfl⟩,fun _ _ _ e=>e,[],yu _ _,(fun _ h=>nomatch h),rfl⟩
 subst he
 refine ⟨fs,s3,yi rfl (zB (zO (e1 _ rfl)) (zB (zO (zm rfl (zm (zh rfl) rfl (y0 c 12 (by decide))) (yI 1 _))) (zB E2 (zB (zO (zm (zm rfl (zm (zm (zh rfl) rfl (j8 c 17 (by decide) (by decide))) rfl (y0 _ 900000 (by decide))) (jU 4 _ (.inl (by decide)))) rfl ((yI _ 2).trans (by rw [eS])))) (zB (zO (jm jS (by simp))) (zB F (yl (zG (zZ (zh rfl)) (by rw [wU,yt h3]))))))))),hfs,by omega,fun k so e=>ob k so (by have:=yS (o1 _ _ e);omega) (yf _ _ _ _ (o1 _ _ e))⟩
abbrev bS:ze->Mo Fl:=(zv (zC 7 (zf zI (zd 2) (zf yK (zf yK (mC (.int 4)) (zd 5)) (zf zH (zf yr (zd 1) (mC (.int 12))) (mC (.int 2))))))
  (zv (zC 8 (j2 (iRng1 (zc (zf zq (zd 6) (mC (.int 1))) zk)) (zu jG (zc (zd 8) (zc (zd 0) zk)))))
  (y7 (yP yZ (zd 4) (zx (zc (zf zq (zd 6) (mC (.int 0))) (zc (zu js (zc (zd 8) zk)) (zc (zu (wD 6) (zc (zd 0) (zc (zd 5) (zc (mC (.int 1)) (zc (zd 8) (zc (zd 3) (zc (zd 7) zk))))))) zk))))))))
def zpX {hs:List (Str×Nat)}{h:Str×Nat}:(opV hs).set 0 (.tup [.str h.1,.int (h.2:Int)])=opV (hs.set 0 h):=by unfold opV;rw [List.map_set]
def zpY (ns:List Int) (st:Sto):∃fs s1,zdx [.frl (ns.map PV.int)] st=.ok (.tup fs) s1/\(∀f∈fs,IsFn f)/\fs.length<=200/\Old st s1:=by
 obtain ⟨c,s1,hc,o1,e1⟩:=at9 ns 0 (by decide) st
 obtain ⟨sd,s2,hsd,o2,e2⟩:=at9 ns 1 (by decide) s1
 obtain ⟨nh,MH⟩:=zdJ (c/12) (by omega)
 have h3:c%3<3:=y1 _ (by decide)
 obtain ⟨ys,s3,C,⟨hs,q1,q2,q3⟩,o3⟩:=zdH (fe:=(zx (zc (zu jG (zc (zf yr (zd 2) (mC (.int 12))) (zc (zd 0) zk))) (zc (zf zH (zu yJ (zc (zd 1) (zc (zf zI (mC (.int 2)) (zd 0)) zk))) (mC (.int 4))) zk)))) (fs:=(zc (zf zI (mC (.int 1)) (zf zH (zd 1) (mC (.int 3)))) zk)) (env:=[some (.frl (ns.map PV.int)),some (.int (c:Int)),some (.int (sd:Int)),none,none,none,none,none,none]) (st:=s2) (1+c%3) (by omega) (zZ (zm rfl (zm (zh rfl) rfl (y0 c 3 (by decide))) (yI 1 _))) (fun i ys s=>(∃hs:List (Str×Nat),ys=opV hs/\hs.length=i/\∀h∈hs,h.2<=6)/\Old s2 s) (fun i ys s hi ⟨⟨hs,q1,q2,q3⟩,o⟩=>by
  obtain ⟨t1,f1,g1⟩:=MH.at_ i (by omega) s
  obtain ⟨y,t2,f2,g2⟩:=wt ns (2+i) (by omega) t1
  obtain ⟨r,hr,er⟩:=modNat y 4 (by decide)
  have er:yF y 4=(r:Int):=er
  refine ⟨.tup [.str (nh i),.int (r:Int)],t2,zK (zQ (zG (zQ (zm (zh rfl) rfl (j8 c 12 (by decide) (by decide))) (zh rfl)) f1) (zm (zG (zQ (zh rfl) (zm rfl (zh rfl) (yI 2 i))) f2) rfl ((yN _ _ (by decide)).trans (by rw [er])))) (by simp),⟨hs++[(nh i,r)],by rw [q1];simp [opV],by simp [q2],fun h hh=>?_⟩,o.trans (g1.trans g2)⟩
  rcases jv.mp hh with q|q
  ·exact q3 h q
  ·rw [wa.mp q];show r<=6;omega) ⟨⟨[],rfl,rfl,(fun _ h=>nomatch h)⟩,Old.refl _⟩
 let s4:=s3++[SO.lst ys]
 have h4:s4[s3.length]?=some (.lst (opV hs)):=by rw [<-q1];exact yu _ _
 have o4:Old s2 s4:=o3.trans (yf _ _)
 have pos:0<hs.length:=by omega
 have K:∃(hs':List (Str×Nat)) (s5:Sto),(ya (mB (zf zS (zf zH (zf yr (zd 1) (mC (.int 3))) (mC (.int 4))) (mC (.int 1))))
  (zap (zd 3) (mC (.int 0)) (zx (zc (zf zq (zf zq (zd 3) (mC (.int 0))) (mC (.int 0))) (zc (zf zH (zu yJ (zc (zd 0) (zc (mC (.int 2)) zk))) (mC (.int 7))) zk))))
  yd) [some (.frl (ns.map PV.int)),some (.int (c:Int)),some (.int (sd:Int)),some (.ref s3.length),none,none,none,none,none] s4=.ok (.nx [some (.frl (ns.map PV.int)),some (.int (c:Int)),some (.int (sd:Int)),some (.ref s3.length),none,none,none,none,none]) s5/\s5[s3.length]?=some (.lst (opV hs'))/\Hs hs'/\hs'.length<=3/\(∀(k:Nat) so,k<s3.length->s4[k]?=some so->s5[k]?=some so):=by
  by_cases h1:c/3%4=1
  ·obtain ⟨y,t1,f1,g1⟩:=wt ns 2 (by decide) s4
   obtain ⟨r,hr,er⟩:=modNat y 7 (by decide)
   have er:yF y 7=(r:Int):=er
   have hA:=zdL (i:=0) h4 pos
   have P:=zhg (fo:=zd 3) (fi:=mC (.int 0)) (fv:=(zx (zc (zf zq (zf zq (zd 3) (mC (.int 0))) (mC (.int 0))) (zc (zf zH (zu yJ (zc (zd 0) (zc (mC (.int 2)) zk))) (mC (.int 7))) zk)))) (e:=[some (.frl (ns.map PV.int)),some (.int (c:Int)),some (.int (sd:Int)),some (.ref s3.length),none,none,none,none,none]) (s:=s4) (i:=0) (zK (zQ (zm (zm (zh rfl) rfl hA) rfl jg) (zm (zG (zQ (zh rfl) rfl) f1) rfl ((yN _ _ (by decide)).trans (by rw [er])))) (by simp)) (zh rfl) rfl (g1 _ _ h4) (by simp;omega)
   refine ⟨hs.set 0 ((hs[0]'pos).1,r),_,yL (yb (zm (zm (zm (zh rfl) rfl (j8 c 3 (by decide) (by decide))) rfl (y0 _ 4 (by decide))) rfl (eqT' true (by simp;omega) _))) P,?_,⟨by simp;omega,fun h hh=>?_⟩,by simp;omega,fun k so hk e=>?_⟩
   ·rw [jI (yS (g1 _ _ h4)),<-zpX]
   ·rcases List.mem_or_eq_of_mem_set hh with q|q
    ·exact q3 h q
    ·rw [q];show r<=6;omega
   ·rw [ja (by omega)]
    exact g1 _ _ e
  ·exact ⟨hs,s4,yG (yb (zm (zm (zm (zh rfl) rfl (j8 c 3 (by decide) (by decide))) rfl (y0 _ 4 (by decide))) rfl (eqT' false (by simp;omega) _))),h4,⟨pos,q3⟩,by omega,fun _ _ _ e=>e⟩
 obtain ⟨hs',s5,E5,h5,H,hl3,ob5⟩:=K
 let s6:=s5++[SO.lst []]
 have h6:s6[s3.length]?=some (.lst (opV hs')):=yf _ _ _ _ h5
 have hl5:=yS h5
 obtain ⟨e',s7,F,⟨z5,z6,z7,z8,he⟩,ob,fs,h7,hfs,hfl⟩:=zhh (g:=g2 5 6) (body:=bS) (n:=s3.length) (opV hs') (fun i e s=>(∃z5 z6 z7 z8,e=[some (.frl (ns.map PV.int)),some (.int (c:Int)),some (.int (sd:Int)),some (.ref s3.length),some (.ref s5.length),z5,z6,z7,z8])/\(∀(k:Nat) so,k≠s5.length->s6[k]?=some so->s[k]?=some so)/\∃fs,s[s5.length]?=some (.lst fs)/\(∀f∈fs,IsFn f)/\fs.length=i) (fun i e s h=>h.2.1 _ _ (by omega) h6) (fun i x e s hx ⟨⟨z5,z6,z7,z8,he⟩,ob,fs,h7,hfs,hfl⟩=>by
  subst he
  have hi:i<hs'.length:=by have:=(yE.mp hx).1;simpa using this
  rw [jt,yn hi] at hx
  cases hx
  have fw:=H.few _ (zab hi)
  generalize hs'[i]'hi=hh at fw
  have h12:c/12%2<2:=y1 _ (by decide)
  obtain ⟨nm,M⟩:=zdJ (sd+4*i*(c/12%2)) (by
   have:4*i*(c/12%2)<=12*1:=Nat.mul_le_mul (by omega) (by omega)
   omega)
  generalize eO:sd+4*i*(c/12%2)=own at M
  obtain ⟨us,t1,C1,q1,g1⟩:=zdH (fe:=(zu jG (zc (zd 8) (zc (zd 0) zk)))) (fs:=(zc (zf zq (zd 6) (mC (.int 1))) zk)) (env:=[some (.frl (ns.map PV.int)),some (.int (c:Int)),some (.int (sd:Int)),some (.ref s3.length),some (.ref s5.length),some (.int (i:Int)),some (.tup [.str hh.1,.int (hh.2:Int)]),some (.int (own:Int)),z8]) (st:=s) hh.2 (by omega) (zZ (zm (zh rfl) rfl yU)) (fun j us s'=>us=((List.range j).map nm).map PV.str/\Old s s') (fun j us s' hj ⟨g1,g2⟩=>by
   obtain ⟨s'',e'',o''⟩:=M.at_ j (by omega) s'
   exact ⟨_,s'',zG (zQ (zh rfl) (zh rfl)) e'',by rw [g1];simp [zbz],g2.trans o''⟩) ⟨rfl,Old.refl _⟩
  let t2:=t1++[SO.lst us]
  have g2:Old s t2:=g1.trans (yf _ _)
  have hu:t2[t1.length]?=some (.lst (((List.range hh.2).map nm).map PV.str)):=by rw [<-q1];exact yu _ _
  have tu:js [.ref t1.length] t2=.ok (.tup (((List.range hh.2).map nm).map PV.str)) t2:=by rw [wU,yt hu]
  obtain ⟨bv,t3,ls,dd,is,E3,g3,B,hd2,_,_,hll,_,_,hln,hnd,hin⟩:=zpR M H ns i (by omega) 6 1 (by decide) (by decide) (by decide) (by decide) (by decide) ((List.range hh.2).map nm) t1.length s3.length t2 (by simp;omega) hu (g2 _ _ (ob _ _ (by omega) h6))
  have g13:=g2.trans g3
  have AP:=zcr (y:=.tup [.str hh.1,.tup (((List.range hh.2).map nm).map PV.str),bv]) (g13 _ _ h7) (by omega)
  refine ⟨[some (.frl (ns.map PV.int)),some (.int (c:Int)),some (.int (sd:Int)),some (.ref s3.length),some (.ref s5.length),some (.int (i:Int)),some (.tup [.str hh.1,.int (hh.2:Int)]),z7,z8],_,_,rfl,zB (zO (zm (zh rfl) (zm (zm rfl (zh rfl) (jU 4 i (.inl (by decide)))) (zm (zm (zh rfl) rfl (j8 c 12 (by decide) (by decide))) rfl (y0 _ 2 (by decide))) (jU _ _ (.inr (by omega)))) ((yI sd _).trans (by rw [eO])))) (zB (zO C1) (wW (wB (zh rfl) (g2 _ _ h7) (zK (yB (zm (zh rfl) rfl jg) (zG (zZ (zh rfl)) tu) (zG (jF (zh rfl) (jF (zh rfl) (jF rfl (yB (zh rfl) (zh rfl) (zh rfl))))) E3)) (by simp)) AP))),⟨_,_,_,_,rfl⟩,fun k so hk e=>by rw [ja (yA hk)];exact g13 _ _ (ob k so hk e),_,jI (yS (g13 _ _ h7)),fun f hf=>?_,by simp [hfl]⟩
  rcases jv.mp hf with q|q
  ·exact hfs f q
  ·rw [wa.mp q]
   refine ⟨_,is.map nm,ls,dd,⟨⟨_,bv,rfl,B⟩,hln,?_,by omega,by omega,by simp;omega⟩⟩
   rw [<-wI]
   refine zdN (P:=fun j=>j<20) (fun a b ha hb h=>M.one a b ha hb h) ?_ fun j hj=>?_
   ·rw [List.nodup_append]
    refine ⟨List.nodup_range,hnd,fun a ha b hb e=>?_⟩
    subst e
    have:=zbB.mp ha
    have:=(hin a hb).1
    omega
   ·rcases jv.mp hj with q|q
    ·have:=zbB.mp q
     show j<20
     omega
    ·exact (hin j q).2.1) (opV hs').length 0 (lim+1) [some (.frl (ns.map PV.int)),some (.int (c:Int)),some (.int (sd:Int)),some (.ref s3.length),some (.ref s5.length),none,none,none,none] s6 (by omega) (by simp [lim];omega) ⟨⟨none,none,none,none,rfl⟩,fun _ _ _ e=>e,[],yu _ _,(fun _ h=>nomatch h),rfl⟩
 subst he
 have FO:(zb8 (zc (zd 3) zk) (g2 5 6) bS) [some (.frl (ns.map PV.int)),some (.int (c:Int)),some (.int (sd:Int)),some (.ref s3.length),some (.ref s5.length),none,none,none,none] s6=.ok (.nx [some (.frl (ns.map PV.int)),some (.int (c:Int)),some (.int (sd:Int)),some (.ref s3.length),some (.ref s5.length),z5,z6,z7,z8]) s7:=by
  unfold zb8
  rw [zZ (zh rfl),zL]
  show (yh s6 s3.length _).bind _=_
  rw [yt h6,zL]
  exact F
 rw [jX] at hfl
 refine ⟨fs,s7,yi rfl (zB (zO (e1 _ rfl)) (zB (zO (e2 _ rfl)) (zB (zO C) (zB E5 (zB (zO (jm jS (by simp))) (zB FO (yl (zG (zZ (zh rfl)) (by rw [wU,yt h7]))))))))),hfs,by omega,fun k so e=>?_⟩
 have w2:=o2 _ _ (o1 _ _ e)
 have w4:=o4 _ _ w2
 have kl:=yS (o3 _ _ w2)
 exact ob k so (by omega) (yf _ _ _ _ (ob5 k so kl w4))
def zpZ (ns:List Int) (st:Sto):∃fs s1,zdy [.frl (ns.map PV.int)] st=.ok (.tup fs) s1/\(∀f∈fs,IsFn f)/\fs.length<=200/\Old st s1:=by
 obtain ⟨y,s1,e1,o1⟩:=wt ns 5 (by decide) st
 obtain ⟨w,hw,ew⟩:=modNat y 8 (by decide)
 have ew:yF y 8=(w:Int):=ew
 have A:∀{X:Res Fl},zgL [some (.frl (ns.map PV.int)),some (.int (w:Int))] s1=X->zgM [some (.frl (ns.map PV.int)),none] st=X:=fun h=>zB (zO (zm (zG (zQ (zh rfl) rfl) e1) rfl ((yN _ _ (by decide)).trans (by rw [ew])))) h
 have sk:∀{g h:ze->Mo Fl} {n:Int} {X:Res Fl},(w:Int)≠n->h [some (.frl (ns.map PV.int)),some (.int (w:Int))] s1=X->zv (ya (mB (zf zS (zd 1) (mC (.int n)))) g yd) h [some (.frl (ns.map PV.int)),some (.int (w:Int))] s1=X:=fun hn h=>zB (yG (yb (zm (zh rfl) rfl (eqT' false (by simpa using hn) _)))) h
 have tk:∀{f:ze->Mo PV} {h:ze->Mo Fl} {n:Int} {v:PV} {s2:Sto},(w:Int)=n->f [some (.frl (ns.map PV.int)),some (.int (w:Int))] s1=.ok v s2->zv (ya (mB (zf zS (zd 1) (mC (.int n)))) (zY f) yd) h [some (.frl (ns.map PV.int)),some (.int (w:Int))] s1=.ok (.rt v) s2:=fun hn h=>jf (yL (yb (zm (zh rfl) rfl (eqT' true (by simpa using hn) _))) (yl h))
 by_cases c6:w=6
 ·obtain ⟨fs,s2,e2,h1,h2,o2⟩:=zpS ns s1
  exact ⟨fs,s2,yi rfl (A (tk (by omega) (zG (zZ (zh rfl)) e2))),h1,h2,o1.trans o2⟩
 by_cases c7:w=7
 ·obtain ⟨fs,s2,e2,h1,h2,o2⟩:=zpW ns s1
  exact ⟨fs,s2,yi rfl (A (sk (by omega) (tk (by omega) (zG (zZ (zh rfl)) e2)))),h1,h2,o1.trans o2⟩
 by_cases c5:w=5
 ·obtain ⟨fs,s2,e2,h1,h2,o2⟩:=zpT ns s1
  exact ⟨fs,s2,yi rfl (A (sk (by omega) (sk (by omega) (tk (by omega) (zG (zZ (zh rfl)) e2))))),h1,h2,o1.trans o2⟩
 ·obtain ⟨fs,s2,e2,h1,h2,o2⟩:=zpY ns s1
  exact ⟨fs,s2,yi rfl (A (sk (by omega) (sk (by omega) (sk (by omega) (yl (zG (zZ (zh rfl)) e2)))))),h1,h2,o1.trans o2⟩
def zp0:∀(lev:Nat) {v:PV}{ls:List PV}{dd:Nat}{st:Sto},Bk v ls dd->dd<lev->ls.length<=100000->zaR lev [v] st=.ok (.tup ls) st:=by
 intro lev
 induction lev with
 | zero=>intro v ls dd st _ h;omega
 | succ lev ih =>
  intro v ls dd st B hd hl
  show zdA (zaR lev) [v] st=_
  cases B with
  | leaf ss e hE =>
   obtain ⟨w,r,rfl,_,_,hw⟩:=hE
   simp at hl
   exact yi rfl (zB (zO (zm (zh rfl) rfl yU)) (zB (zO (zm (zm (zh rfl) rfl jg) (zK (zZ (zh rfl)) (by simp)) (adT (by simp;omega)))) (zB (yG (yb (zm (zm (zh rfl) rfl jg) rfl (eqF hw _)))) (yl (zh rfl)))))
  | node ss va v1 v2 l1 l2 d1 d2 B1 B2 =>
   simp at hl
   have e1:=ih (st:=st) B1 (by omega) (by omega)
   have e2:=ih (st:=st) B2 (by omega) (by omega)
   exact yi rfl (zB (zO (zm (zh rfl) rfl yU)) (zB (zO (zm (zm (zh rfl) rfl jg) (zK (zZ (zh rfl)) (by simp)) (adT (by simp;omega)))) (jf (yL (yb (zm (zm (zh rfl) rfl jg) rfl (eqY _))) (yl (zm (zm (zh rfl) (zG (zZ (zm (zh rfl) rfl w8)) e1) (adT (by simp;omega))) (zG (zZ (zm (zh rfl) rfl ix3)) e2) (adT (by simp;omega))))))))
abbrev tL:ze->Mo Bool:=(mB (zf oGt (zu je (zc (zd 2) zk)) (mC (.int 0))))
abbrev iL:ze->Mo Fl:=(ya (mB (zf zS (zf zq (zd 4) (mC (.int 0))) (mC (.str "if"))))
  (zC 2 (zf zI (yR (zc (zf zq (zd 4) (mC (.int 2))) (zc (zf zq (zd 4) (mC (.int 3))) zk))) (zd 2)))
  yd)
abbrev bLn:ze->Mo Fl:=(zv (sTo (g2 3 4) (yP zcf (zd 2) (mC (.int 0))))
  (zv (y7 (yP zcg (zd 1) (zd 3)))
  (zv (y7 (yP yZ (zd 1) (zd 4)))
  iL)))
def zp1 {s:Sto}{n:Nat}{xs ys:List PV}(h:s[n]?=some (.lst xs)) (hl:xs.length+ys.length<=1000000):zcg (.ref n) (.tup ys) s=.ok .non (s.set n (.lst (xs++ys))):=by
 show yh s n _=_
 rw [yt h]
 exact zE (by simpa [lim] using hl)
def zp2 {s:Sto}{n:Nat}{y:PV}{r:List PV}(h:s[n]?=some (.lst (y::r))):zcf (.ref n) (.int 0) s=.ok y (s.set n (.lst r)):=by
 show yh s n _=_
 rw [yt h]
def zhj {s:Sto}{t r:Nat}{W rows ss:List PV}{ve:PV}{x0 x3 x4:Option PV}(ht:s[t]?=some (.lst (.tup [.tup ss,ve]::W))) (hr:s[r]?=some (.lst rows)) (ne:r≠t) (hl:rows.length+ss.length+1<=1000000) :
  ∃s5,(∀X,iL [x0,some (.ref r),some (.ref t),some (.tup ss),some ve] s5=X->bLn [x0,some (.ref r),some (.ref t),x3,x4] s=X)/\s5[t]?=some (.lst W)/\s5[r]?=some (.lst (rows++ss++[ve]))/\s5.length=s.length/\(∀(m:Nat) so,m≠r->m≠t->s[m]?=some so->s5[m]?=some so):=by
 let s1:=s.set t (SO.lst W)
 have hr1:s1[r]?=some (.lst rows):=by rw [ja (yA ne)];exact hr
 let s2:=s1.set r (SO.lst (rows++ss))
 have hr2:s2[r]?=some (.lst (rows++ss)):=jI (yS hr1)
 have E:=zp1 (ys:=ss) hr1 (by omega)
 have A:=zpH (y:=ve) hr2 (by simp;omega)
 refine ⟨s2.set r (.lst (rows++ss++[ve])),fun X h=>zB (zpC (wB (zh rfl) ht rfl (zp2 ht))) (zB (wW (wB (zh rfl) hr1 (zh rfl) E)) (zB (wW (wB (zh rfl) hr2 (zh rfl) A)) h)),?_,jI (yS hr2),by simp [s2,s1],fun m so q1 q2 e=>?_⟩
 ·rw [ja ne,ja ne,jI (yS ht)]
 ·rw [ja (yA q1),ja (yA q1),ja (yA q2)];exact e
def zhk {fuel:Nat}{e e':ze}{s s':Sto}(ht:tL e s=.ok true s) (h:bLn e s=.ok (.nx e') s'):whileF tL bLn (fuel+1) e s=whileF tL bLn fuel e' s':=by
 rw [zbg,ht,zL,zE rfl,h,zL]
def zhl {s:Sto}{t:Nat}{W:List PV}{x:PV}{x0 x1 x3 x4:Option PV}(h:s[t]?=some (.lst (x::W))):tL [x0,x1,some (.ref t),x3,x4] s=.ok true s:=by
 have L:=zaM h
 exact yb (zm (zG (zZ (zh rfl)) L) rfl (gtT true (by rw [zbC,jY];omega) _))
def zp3 {v:PV}{ls:List PV}{dd:Nat}(B:Bk v ls dd):∃nb,nb<=ls.length/\∀(fuel:Nat) (s:Sto) (t r:Nat) (W rows:List PV) (x0 x3 x4:Option PV),s[t]?=some (.lst (v::W))->s[r]?=some (.lst rows)->r≠t->W.length+dd<=1000->rows.length+ls.length<=100000->∃s' t' x3' x4',whileF tL bLn (fuel+nb) [x0,some (.ref r),some (.ref t),x3,x4] s=whileF tL bLn fuel [x0,some (.ref r),some (.ref t'),x3',x4'] s'/\s'[t']?=some (.lst W)/\s'[r]?=some (.lst (rows++ls))/\(∀(m:Nat) so,m≠r->m≠t->s[m]?=some so->s'[m]?=some so)/\(t'=t\/s.length<=t')/\r≠t'/\s.length<=s'.length:=by
 induction B with
 | leaf ss e hE =>
  obtain ⟨w,r0,rfl,_,_,hw⟩:=hE
  refine ⟨1,by simp,fun fuel s t r W rows x0 x3 x4 ht hr ne hW hl=>?_⟩
  simp at hl
  obtain ⟨s5,G,g1,g2,g3,g4⟩:=zhj (x0:=x0) (x3:=x3) (x4:=x4) ht hr ne (by omega)
  exact ⟨s5,t,_,_,zhk (zhl ht) (G _ (yG (yb (zm (zm (zh rfl) rfl jg) rfl (eqF hw _))))),g1,by rw [<-zbA];exact g2,g4,.inl rfl,ne,by omega⟩
 | node ss va v1 v2 l1 l2 d1 d2 B1 B2 ih1 ih2 =>
  obtain ⟨n1,k1,F1⟩:=ih1
  obtain ⟨n2,k2,F2⟩:=ih2
  refine ⟨n2+n1+1,by simp;omega,fun fuel s t r W rows x0 x3 x4 ht hr ne hW hl=>?_⟩
  simp at hl
  obtain ⟨s5,G,g1,g2,g3,g4⟩:=zhj (x0:=x0) (x3:=x3) (x4:=x4) ht hr ne (by omega)
  let s6:=s5++[SO.lst [v1,v2]]
  let s7:=s6++[SO.lst ([v1,v2]++W)]
  have o7:Old s5 s7:=(yf _ _).trans (yf _ _)
  have A:zI (.ref s5.length) (.ref t) s6=.ok (.ref s6.length) s7:=adL (yu _ _) (yf _ _ _ _ g1) (by simp;omega)
  have l6:s6.length=s5.length+1:=by simp [s6]
  have l7:s7.length=s5.length+2:=by simp [s7,s6]
  have rl:=yS g2
  have st:=zhk (fuel:=fuel+n2+n1) (zhl ht) (G _ (yL (yb (zm (zm (zh rfl) rfl jg) rfl (eqY _))) (zO (zm (jm (zQ (zm (zh rfl) rfl w8) (zm (zh rfl) rfl ix3)) (by simp)) (zh rfl) A))))
  obtain ⟨s8,t8,y3,y4,E1,p1,p2,p3,p4,p5,p6⟩:=F1 (fuel+n2) s7 s6.length r (v2::W) _ x0 _ _ (yu _ _) (o7 _ _ g2) (by omega) (by simp;omega) (by simp;omega)
  obtain ⟨s9,t9,z3,z4,E2,q1,q2,q3,q4,q5,q6⟩:=F2 fuel s8 t8 r W _ x0 _ _ p1 p2 p5 (by omega) (by simp;omega)
  refine ⟨s9,t9,z3,z4,?_,q1,by rw [q2];simp,fun m so m1 m2 e=>?_,?_,q5,by omega⟩
  ·rw [show fuel+(n2+n1+1)=fuel+n2+n1+1 by omega]
   exact (st.trans E1).trans E2
  ·have ml:=yS e
   have w5:=o7 _ _ (g4 m so m1 m2 e)
   exact q3 m so m1 (by rcases p4 with h|h<;>omega) (p3 m so m1 (by omega) w5)
  ·right
   rcases q4 with h|h
   ·rw [h];rcases p4 with h|h<;>omega
   ·omega
def zhm {v:PV}{ls:List PV}{dd:Nat}(B:Bk v ls dd) (hd:dd<=900) (hl:ls.length<=100000) (st:Sto):∃r s1,zau [v] st=.ok (.ref r) s1/\s1[r]?=some (.lst ls)/\Old st s1:=by
 obtain ⟨nb,hnb,F⟩:=zp3 B
 let s0:=st++[SO.lst []]
 let s1:=s0++[SO.lst [v]]
 have l0:s0.length=st.length+1:=by simp [s0]
 have ln:lim=1000000:=rfl
 obtain ⟨s2,t2,y3,y4,E,p1,p2,p3,p4,p5,p6⟩:=F (lim-nb) s1 s0.length st.length [] [] (some v) none none (yu _ _) (yf _ _ _ _ (yu _ _)) (by omega) (by simp;omega) (by simp;omega)
 have e1:lim-nb+nb=lim:=by omega
 rw [e1] at E
 obtain ⟨f,hf⟩:∃f,lim-nb=f+1:=⟨lim-nb-1,by omega⟩
 have L:=zaM p1
 have T:tL [some v,some (.ref st.length),some (.ref t2),y3,y4] s2=.ok false s2:=yb (zm (zG (zZ (zh rfl)) L) rfl (gtT false (by simp) _))
 have E2:whileF tL bLn (lim-nb) [some v,some (.ref st.length),some (.ref t2),y3,y4] s2=.ok (.nx [some v,some (.ref st.length),some (.ref t2),y3,y4]) s2:=by
  rw [hf,zbg,T,zL,zN (by simp)]
 exact ⟨st.length,s2,yi rfl (zB (zO (jm jS (by simp))) (zB (zO (jm (zZ (zh rfl)) (by simp))) (zB (E.trans E2) (yl (zh rfl))))),p2,fun m so e=>p3 m so (by have:=yS e;omega) (by have:=yS e;omega) (yf _ _ _ _ (yf _ _ _ _ e))⟩
def hdv:PV->Str
 | .tup (.str w::_)=>w
 | _ => ""
def isSt (w:PV):Bool:=decide (hdv w = "let" \/ hdv w = "call")
abbrev stps (ls:List PV):List PV:=ls.filter isSt
def zcy {ks:List Str}{z:Str}{s:PV}(h:StV ks z s):isSt s=true:=by
 cases h with
 | let_ o n as=>simp only [isSt,hdv,true_or,decide_true]
 | call f as=>simp only [isSt,hdv,or_true,decide_true]
def zcz {e:PV}(h:NoSt e):isSt e=false:=by
 obtain ⟨w,r,rfl,h1,h2⟩:=h
 simp only [isSt,hdv,h1,h2,or_false,decide_false]
def zp4 {s:PV}{ks:List Str}{z:Str}(h:StV ks z s) (st:Sto):zaS [s] st=.ok (.bl true) st:=by
 have key:∀(w:Str) (r:List PV),((("let" : Str)==w)||(("call" : Str)==w))=true->zaS [.tup (.str w::r)] st=.ok (.bl true) st:=fun w r hc=>yi rfl (yl (zm (zm (zh rfl) rfl jg) (zK (zQ rfl rfl) (by simp)) (in2 w true hc st)))
 cases h with
 | let_ o n as=>exact key _ _ (by decide +kernel)
 | call f as=>exact key _ _ (by decide +kernel)
def zp5 {e:PV}(h:NoSt e) (st:Sto):zaS [e] st=.ok (.bl false) st:=by
 obtain ⟨w,r,rfl,h1,h2⟩:=h
 exact yi rfl (yl (zm (zm (zh rfl) rfl jg) (zK (zQ rfl rfl) (by simp)) (in2 w false (by simp [yA h1,yA h2]) st)))
def zhn {ks:List Str}{ls:List PV}{zs:List Str}(h:Lns ks ls zs):(stps ls).length=zs.length:=by
 induction h with
 | nil ks=>rfl
 | stp ks z s ls zs hs _ ih=>rw [stps,List.filter_cons_of_pos (zcy hs)];simp [ih]
 | fin ks e ls zs he _ ih=>rw [stps,List.filter_cons_of_neg (by rw [zcz he];simp)];exact ih
def zp6 {ks:List Str}{ls:List PV}{zs:List Str}(h:Lns ks ls zs):∀(i:Nat) z s,zs[i]?=some z->(stps ls)[i]?=some s->StV (ks++zs.take i) z s:=by
 induction h with
 | nil ks=>intro i z s h;simp at h
 | stp ks z0 s0 ls zs hs _ ih =>
  intro i z s h1 h2
  rw [stps,List.filter_cons_of_pos (zcy hs)] at h2
  cases i with
  | zero=>simp at h1 h2;subst h1 h2;simpa using hs
  | succ i =>
   have:=ih i z s (by simpa using h1) (by simpa using h2)
   simpa using this
 | fin ks e ls zs he _ ih =>
  intro i z s h1 h2
  rw [stps,List.filter_cons_of_neg (by rw [zcz he];simp)] at h2
  exact ih i z s h1 h2
def zdP {ks:List Str}{z:Str}{v:PV}(h:StV ks z v) (s:Sto):zq v (.int 1) s=.ok (.str z) s:=by
 cases h with
 | let_ o n as=>exact yU
 | call f as=>exact yU
abbrev bN:ze->Mo Fl:=(ya (mB (zu zaS (zc (zd 2) zk)))
  (zbj (zd 1) (zf zq (zd 2) (mC (.int 1))) (zd 2))
  yd)
def zp7 {ks:List Str}{ls:List PV}{zs:List Str}(h:Lns ks ls zs):∀{d:Nat}{s:Sto}{kz:List Str}{vz:List PV}{x0 x2:Option PV},s[d]?=some (.dic kz vz)->(kz++zs).Nodup->kz.length+zs.length<=900->∃s' y2,forL (gN 2) bN ls [x0,some (.ref d),x2] s=.ok (.nx [x0,some (.ref d),y2]) s'/\s'[d]?=some (.dic (kz++zs) (vz++stps ls))/\∀(m:Nat) so,m≠d->s[m]?=some so->s'[m]?=some so:=by
 induction h with
 | nil ks=>intro d s kz vz x0 x2 hd _ _;exact ⟨s,x2,rfl,by simpa using hd,fun _ _ _ e=>e⟩
 | stp ks z v ls zs hs _ ih =>
  intro d s kz vz x0 x2 hd nd hl
  simp only [jY] at hl
  have hz:z∉kz:=fun hm=>by
   have:=(List.nodup_append.mp nd).2.2 z hm z (yO ..)
   exact this rfl
  have P:=zpA (fo:=zd 1) (fi:=(zf zq (zd 2) (mC (.int 1)))) (fv:=zd 2) (e:=[x0,some (.ref d),some v]) (s:=s) (zh rfl) (zh rfl) (zm (zh rfl) rfl (zdP hs s)) hd (by omega)
  have dp:jP z v kz vz=(kz++[z],vz++[v]):=by
   unfold jP
   rw [zN (by simpa using hz)]
  rw [dp] at P
  obtain ⟨s',y2,E,k1,k2⟩:=ih (d:=d) (s:=s.set d (.dic (kz++[z]) (vz++[v]))) (kz:=kz++[z]) (vz:=vz++[v]) (x0:=x0) (x2:=some v) (jI (yS hd)) (by simpa using nd) (by simp;omega)
  refine ⟨s',y2,?_,?_,fun m so q e=>k2 m so q (by rw [ja (yA q)];exact e)⟩
  ·unfold forL
   show (bN [x0,some (.ref d),some v] s).bind _=_
   rw [show bN [x0,some (.ref d),some v] s=_ from yL (yb (zG (zZ (zh rfl)) (zp4 hs s))) P,zL]
   exact E
  ·rw [k1,show stps (v::ls)=v::stps ls from List.filter_cons_of_pos (zcy hs)];simp
 | fin ks e ls zs he _ ih =>
  intro d s kz vz x0 x2 hd nd hl
  obtain ⟨s',y2,E,k1,k2⟩:=ih (x0:=x0) (x2:=some e) hd nd hl
  refine ⟨s',y2,?_,?_,k2⟩
  ·unfold forL
   show (bN [x0,some (.ref d),some e] s).bind _=_
   rw [show bN [x0,some (.ref d),some e] s=_ from yG (yb (zG (zZ (zh rfl)) (zp5 he s))),zL]
   exact E
  ·rw [k1,show stps (e::ls)=stps ls from List.filter_cons_of_neg (by rw [zcz he];simp)]
def zho {nz bv:PV}{ps zs:List Str}{ls:List PV}{dd:Nat}(B:Bk bv ls dd) (hd:dd<=8) (hl:ls.length<=100) (h:Lns ps ls zs) (nd:zs.Nodup) (st:Sto):∃s1,zdC [.tup [nz,.tup (ps.map PV.str),bv]] st=.ok (.ref st.length) s1/\s1[st.length]?=some (.dic zs (stps ls))/\Old st s1:=by
 have E:=zp0 (st:=st++[.dic [] []]) 12 B (by omega) (by omega)
 have zl:=zhn h
 have fl:(stps ls).length<=ls.length:=List.length_filter_le _ _
 obtain ⟨s',y2,F,k1,k2⟩:=zp7 h (d:=st.length) (s:=st++[.dic [] []]) (kz:=[]) (vz:=[]) (x0:=some (.tup [nz,.tup (ps.map PV.str),bv])) (x2:=none) (yu _ _) (by simpa using nd) (by simp;omega)
 have FO:(jd (yY (zu (zaR 12) (zc (zf zq (zd 0) (mC (.int 2))) zk))) (gN 2) bN) [some (.tup [nz,.tup (ps.map PV.str),bv]),some (.ref st.length),none] (st++[.dic [] []])=.ok (.nx [some (.tup [nz,.tup (ps.map PV.str),bv]),some (.ref st.length),y2]) s':=by
  rw [zbf,zan,zG (zZ (zm (zh rfl) rfl w8)) E]
  simp only [zL,seqOf]
  exact F
 exact ⟨s',yi rfl (zB (zO rfl) (zB FO (yl (zh rfl)))),by simpa using k1,fun m so e=>k2 m so (by have:=yS e;omega) (yf _ _ _ _ e)⟩
def zhp:∀zs:List Str,plains (zs.map PV.str)=true
 | []=>rfl
 | z::zs=>by simp [plains,Mi.plain,zhp zs]
def zhq:∀zs:List Str,deps (zs.map PV.str)=0
 | []=>rfl
 | z::zs=>by simp [deps,dep,zhq zs]
def zp8 (z:Str) (zs:List Str):(zs.map PV.str).any (fun y=>eqP y (.str z))=decide (z∈zs):=by
 simp only [List.any_map,Function.comp_def,eqP]
 rw [Bool.eq_iff_iff,List.any_eq_true,zbC]
 constructor
 ·rintro ⟨x,hx,e⟩
  rw [beq_iff_eq] at e
  exact e▸hx
 ·intro h
  exact ⟨z,h,by simp⟩
def zcA (n:Bool) (z:Str) (zs:List Str) (st:Sto):yM n (.str z) (.tup (zs.map PV.str)) st=.ok (.bl (n.xor (decide (z∈zs)))) st:=by
 rw [zfD,zE ⟨rfl,zhp zs,by rw [zhq];omega⟩,zp8]
abbrev OpO (w:Str) (k:Int):SO:=.ins "Op" ["word", "many"] [.str w,.int k]
def at0 {α:Type}(x:α) (r:List α):atI (x::r) 0=some x:=atI_get (k:=0) rfl
def zqa {op f:Str}{ks:List Str}(h:(zar.zip zas).lookup op=some (.tup [.tup (ks.map PV.str),.fn f])) (st:Sto):zbv [.str op] st=.ok (.ref st.length) (st++[OpO op ks.length]):=by
 simp [zbv,yp,zgR,zgQ,kdIn,h,newI,zdz,zgP,zgO,jr,insOf,Mi.putK,at0]
def zqb {o:Str}{n:Nat}(h:(o,n)∈jB):∃(ks:List Str) (f:Str),(zar.zip zas).lookup o=some (.tup [.tup (ks.map PV.str),.fn f]):=by
 simp only [jB,yD,List.not_mem_nil,or_false,Prod.mk.injEq] at h
 rcases h with h|h|h|h|h|h|h|h|h|h|h|h|h|h|h|h|h<;>(rw [h.1];first|exact ⟨["number"],_,rfl⟩|exact ⟨["number", "number"],_,rfl⟩|exact ⟨["any"],_,rfl⟩|exact ⟨["any", "any"],_,rfl⟩|exact ⟨["row"],_,rfl⟩|exact ⟨["any", "row"],_,rfl⟩|exact ⟨["row", "number"],_,rfl⟩|exact ⟨["row", "number", "any"],_,rfl⟩|exact ⟨["record", "word"],_,rfl⟩|exact ⟨["record", "word", "any"],_,rfl⟩)
def zqc {st:Sto}{o:Nat}{w:Str}{k:Int}(ho:st[o]?=some (OpO w k)):m_Op_falls [.ref o] st=.ok (.bl (decide (w∈ct_FALLING))) st:=by
 refine yi rfl (yl (zm (zf5 (zh rfl) (X:=.ok (.str w) st) ?_) rfl ((zcA false _ _ _).trans (by simp))))
 rw [zma,zfe ho,zE (show insOf "Op" = true by simp [insOf])]
 simp [jx]
def n17:("call" : Str) ≠ "let" := by decide +kernel
def falls:PV->Bool
 | .tup [.str w,_,.str o,_]=>decide (w = "let")&&decide (o∈ct_FALLING)
 | _=>false
def zqd {ks:List Str}{z:Str}{v:PV}(h:StV ks z v) (st:Sto):∃s1,zcn [v] st=.ok (.bl (falls v)) s1/\Old st s1:=by
 cases h with
 | let_ o n as ho hl ha =>
  obtain ⟨ks',f,hk⟩:=zqb ho
  have N:=zqa hk st
  have hO:(st++[OpO o ks'.length])[st.length]?=some (OpO o ks'.length):=yu _ _
  have F:=zqc hO
  have M:(zb0 "falls" zaQ (zu zbv (zc (zf zq (zd 0) (mC (.int 2))) zk)) zk) [some (.tup [.str "let", .str z,.str o,.tup as])] st=.ok (.bl (decide (o∈ct_FALLING))) (st++[OpO o ks'.length]):=by
   unfold zb0
   rw [zG (zZ (zm (zh rfl) rfl w8)) N,zL]
   have hm:∀(c:Nat->(List PV->Mo PV)->Res PV),methAt "falls" zaQ (.ref st.length) (st++[OpO o ks'.length]) c=c st.length m_Op_falls:=zl9 hO (by decide +kernel) (by simp [zaQ])
   rw [hm]
   exact F
  refine ⟨st++[OpO o ks'.length],yi rfl (yl (znj (zm (zm (zh rfl) rfl jg) rfl (eqY _)) (M.trans ?_))),yf _ _⟩
  simp only [falls,decide_true,Bool.true_and]
 | call f as ha =>
  refine ⟨st,yi rfl (yl ?_),Old.refl _⟩
  rw [zfb,zm (zm (zh rfl) rfl jg) rfl (eqF n17 _)]
  simp only [zL,zc5,falls,n17,decide_false,Bool.false_and]
  rfl
structure Cn (ps zs:List Str) (svs:List PV):Prop where
 len:svs.length=zs.length
 few:zs.length<=900
 nd:(ps++zs).Nodup
 st:∀(i:Nat) z s,zs[i]?=some z->svs[i]?=some s->StV (ps++zs.take i) z s
def zhr {α:Type}:∀{ks:List Str}{xs:List α}{j:Nat}{z:Str}{x:α},ks.Nodup->ks[j]?=some z->xs[j]?=some x->(ks.zip xs).lookup z=some x
 | [],_,_,_,_,_,h,_=>by simp at h
 | _::_,[],_,_,_,_,_,h=>by simp at h
 | k::ks,y::xs,0,z,x,_,h,h'=>by
  simp at h h'
  subst h h'
  simp [jx]
 | k::ks,y::xs,j+1,z,x,nd,h,h'=>by
  rw [jc] at nd
  simp at h h'
  have ne:(z==k)=false:=by
   rw [beq_eq_false_iff_ne]
   intro e
   exact nd.1 (e▸wc h)
  rw [List.zip_cons_cons,jx,ne]
  exact zhr nd.2 h h'
def zhs {α:Type}{z:Str}:∀{ks:List Str}{xs:List α},z∉ks->(ks.zip xs).lookup z=none
 | [],_,_=>by simp
 | _::_,[],_=>by simp
 | k::ks,x::xs,h=>by
  have ne:(z==k)=false:=by
   rw [beq_eq_false_iff_ne]
   intro e
   exact h (by rw [e];exact yO ..)
  rw [List.zip_cons_cons,jx,ne]
  exact zhs fun hm=>h (jh _ hm)
def zdR {s:Sto}{d:Nat}{ks:List Str}{xs:List PV}{z:Str}{b:Bool}(h:s[d]?=some (.dic ks xs)) (hb:((ks.zip xs).lookup z).isSome=b):yM false (.str z) (.ref d) s=.ok (.bl b) s:=by
 simp [yM,h,hb]
def zht {s:Sto}{d:Nat}{ks:List Str}{xs:List PV}{z:Str}{x:PV}(h:s[d]?=some (.dic ks xs)) (hx:(ks.zip xs).lookup z=some x):zq (.ref d) (.str z) s=.ok x s:=by
 simp [zq,zfo,jz,h,hx]
def nmv:PV->Str
 | .tup (_ :: .str z::_)=>z
 | _ => ""
def zby {ks:List Str}{z:Str}{v:PV}(h:StV ks z v):nmv v=z:=by cases h<;>rfl
def zhu {p:PV->Bool}:∀{l:List PV}{j:Nat}{v:PV},l[j]?=some v->p v=true->(∀(i:Nat) w,l[i]?=some w->p w=true->i=j)->(l.flatMap fun x=>if p x=true then [x] else [])=[v]
 | [],_,_,h,_,_=>by simp at h
 | x::l,0,v,h,hp,hu=>by
  simp at h
  subst h
  have:(l.flatMap fun x=>if p x=true then [x] else [])=[]:=by
   rw [List.flatMap_eq_nil_iff]
   intro y hy
   obtain ⟨i,hi,e⟩:=zaY hy
   by_cases hq:p y=true
   ·have:=hu (i+1) y (by simp [hi,e]) hq
    omega
   ·rw [zN hq]
  rw [za1,zE hp,this]
  rfl
 | x::l,j+1,v,h,hp,hu=>by
  simp at h
  have hx:¬p x=true:=fun hq=>by have:=hu 0 x rfl hq;omega
  rw [za1,zN hx,List.nil_append]
  exact zhu h hp fun i w hw hq=>by have:=hu (i+1) w (by simpa using hw) hq;omega
abbrev tP:ze->Mo Bool:=(jM (mB (zf zS (zf zq (zd 1) (mC (.int 0))) (mC (.str "of")))) (jM (mB (zf (yM false) (zf zq (zd 1) (mC (.int 1))) (zd 0))) (mB (zu zcn (zc (zf zq (zd 0) (zf zq (zd 1) (mC (.int 1)))) zk)))))
abbrev bP:ze->Mo Fl:=(zC 1 (zf zq (zf zq (zf zq (zd 0) (zf zq (zd 1) (mC (.int 1)))) (mC (.int 3))) (mC (.int 0))))
abbrev tW:ze->Mo Bool:=(jM (mB (zf zS (zf zq (zd 1) (mC (.int 0))) (mC (.str "of")))) (mB (zf (yM true) (zf zq (zd 1) (mC (.int 1))) (zf zq (zd 0) (mC (.int 1))))))
abbrev cW:ze->Mo PV:=(jR (yY (zd 2)) (mB (zf jQ (zf zq (zd 0) (mC (.int 1))) (zf zq (zd 2) (mC (.int 1))))) (zd 0))
abbrev bW:ze->Mo Fl:=(zv (zC 3 (zf zq cW (mC (.int 0))))
  (zv (ya (jn (mB (zf zS (zf zq (zd 3) (mC (.int 0))) (mC (.str "call")))) (mB (zf (yM true) (zf zq (zd 3) (mC (.int 2))) (zx (zaI ["down", "head", "rest", "item", "field"])))))
  (zY (zx (zc (mC (.str "made")) (zc (zf zq (zd 1) (mC (.int 1))) zk))))
  yd)
  (zC 1 (zf zq (zf zq (zd 3) (mC (.int 3))) (mC (.int 0))))))
def zdS:("is" : Str) ≠ "of" := by decide +kernel
def zdT:("of" : Str) ≠ "is" := by decide +kernel
def zaX {t:ze->Mo Bool}{b:ze->Mo Fl}{e:ze}{s s1:Sto}(h:t e s=.ok false s1) (fuel:Nat) (hf:0<fuel):whileF t b fuel e s=.ok (.nx e) s1:=by
 obtain ⟨f,rfl⟩:∃f,fuel=f+1:=⟨fuel-1,by omega⟩
 rw [zbg,h,zL,zN (by simp)]
def zdU {t:ze->Mo Bool}{b:ze->Mo Fl}{e e':ze}{s s1 s2:Sto}(h:t e s=.ok true s1) (h':b e s1=.ok (.nx e') s2) (f:Nat):whileF t b (f+1) e s=whileF t b f e' s2:=by
 rw [zbg,h,zL,zE rfl,h',zL]
def zqe {t:ze->Mo Bool}{b:ze->Mo Fl}{e:ze}{s s1 s2:Sto}{v:PV}(h:t e s=.ok true s1) (h':b e s1=.ok (.rt v) s2) (fuel:Nat) (hf:0<fuel):whileF t b fuel e s=.ok (.rt v) s2:=by
 obtain ⟨f,rfl⟩:∃f,fuel=f+1:=⟨fuel-1,by omega⟩
 rw [zbg,h,zL,zE rfl,h',zL]
def PR (zs:List Str) (svs:List PV) (i:Nat) (a R:PV):Prop:=∀d s,s[d]?=some (.dic zs svs)->∃a' s',Old s s'/\(∀fuel,i<fuel->whileF tP bP fuel [some (.ref d),some a] s=.ok (.nx [some (.ref d),some a']) s')/\zgT [some (.ref d),some a'] s'=.ok (.rt R) s'
def WR (ps:List Str) (svs:List PV) (i:Nat) (a R:PV):Prop:=∀nz bv r s x3,s[r]?=some (.lst svs)->∃s',Old s s'/\((∀fuel,i<fuel->whileF tW bW fuel [some (.tup [nz,.tup (ps.map PV.str),bv]),some a,some (.ref r),x3] s=.ok (.rt R) s')\/∃a' y3,(∀fuel,i<fuel->whileF tW bW fuel [some (.tup [nz,.tup (ps.map PV.str),bv]),some a,some (.ref r),x3] s=.ok (.nx [some (.tup [nz,.tup (ps.map PV.str),bv]),some a',some (.ref r),y3]) s')/\zgW [some (.tup [nz,.tup (ps.map PV.str),bv]),some a',some (.ref r),y3] s'=.ok (.rt R) s')
def RV (R:PV):Prop:=(∃w z,R=.tup [.str w,.str z])\/R=.tup [.str "is", .non]
def roots {ps zs:List Str}{svs:List PV}(C:Cn ps zs svs):∀(i:Nat) (a:PV),i<=zs.length->AtV (ps++zs.take i) a->∃R,RV R/\PR zs svs i a R/\WR ps svs i a R:=by
 have ndz:zs.Nodup:=(List.nodup_append.mp C.nd).2.1
 intro i
 induction i using Nat.strongRecOn with
 | _ i ih =>
  intro a hi ha
  cases ha with
  | is v =>
   refine ⟨.tup [.str "is", .non],.inr rfl,fun d s hd=>⟨_,s,Old.refl _,fun fuel hf=>zaX (zbn (q0 rfl (eqF zdS _))) fuel (by omega),jf (yL (q0 rfl (eqY _)) (yl (zK (zQ rfl rfl) (by simp))))⟩,fun nz bv r s x3 hr=>⟨s,Old.refl _,.inr ⟨_,x3,fun fuel hf=>zaX (zbn (q0 rfl (eqF zdS _))) fuel (by omega),jf (yL (q0 rfl (eqY _)) (yl (zK (zQ rfl rfl) (by simp))))⟩⟩⟩
  | of z hz =>
   have inP:∀(s:Sto) (nz bv:PV) (r:Nat) (x3:Option PV),(mB (zf (yM true) (zf zq (zd 1) (mC (.int 1))) (zf zq (zd 0) (mC (.int 1))))) [some (.tup [nz,.tup (ps.map PV.str),bv]),some (.tup [.str "of", .str z]),some (.ref r),x3] s=.ok (!decide (z∈ps)) s:=fun s nz bv r x3=>yb (zm (zm (zh rfl) rfl yU) (zm (zh rfl) rfl yU) ((zcA true z ps s).trans (by simp)))
   by_cases hp:z∈ps
   ·have hn:z∉zs:=fun h=>(List.nodup_append.mp C.nd).2.2 z hp z h rfl
    have lk:=zhs (xs:=svs) hn
    refine ⟨.tup [.str "of", .str z],.inl ⟨_,_,rfl⟩,fun d s hd=>?_,fun nz bv r s x3 hr=>?_⟩
    ·have I:=zdR (b:=false) hd (by rw [lk];rfl)
     exact ⟨_,s,Old.refl _,fun fuel hf=>zaX (zaq (q0 rfl (eqY _)) (zbn (yb (zm (zm (zh rfl) rfl yU) (zh rfl) I)))) fuel (by omega),zB (yG (q0 rfl (eqF zdT _))) (zB (yG (yb (zm (zm (zh rfl) rfl yU) (zh rfl) I))) (yl (zh rfl)))⟩
    ·have I:=inP s nz bv r x3
     rw [zaZ hp] at I
     exact ⟨s,Old.refl _,.inr ⟨_,x3,fun fuel hf=>zaX (zaq (q0 rfl (eqY _)) I) fuel (by omega),zB (yG (q0 rfl (eqF zdT _))) (yl (zK (zQ rfl (zm (zh rfl) rfl yU)) (by simp)))⟩⟩
   ·have hz2:z∈zs.take i:=(jv.mp hz).resolve_left hp
    obtain ⟨j,hj,ej⟩:=zaY hz2
    have hji:j<i:=by simp at hj;omega
    have hjz:j<zs.length:=by omega
    have e1:zs[j]?=some z:=by rw [yn hjz,<-ej];simp
    have hjs:j<svs.length:=by rw [C.len];exact hjz
    obtain ⟨v,ev⟩:∃v,svs[j]?=some v:=⟨_,yn hjs⟩
    have hv:=C.st j z v e1 ev
    have lk:=zhr ndz e1 ev
    have cw:∀(s:Sto) (nz bv:PV) (r:Nat) (x3:Option PV),s[r]?=some (.lst svs)->cW [some (.tup [nz,.tup (ps.map PV.str),bv]),some (.tup [.str "of", .str z]),some (.ref r),x3] s=.ok (.ref s.length) (s++[.lst [v]]):=fun s nz bv r x3 hr=>by
     have al:∀w∈svs,∃zw ks,StV ks zw w:=fun w hw=>by
      obtain ⟨k,hk,ek⟩:=zaY hw
      have hkz:k<zs.length:=by rw [<-C.len];exact hk
      exact ⟨_,_,C.st k _ w (yn hkz) (by rw [yn hk,ek])⟩
     have:=zct (ft:=(mB (zf jQ (zf zq (zd 0) (mC (.int 1))) (zf zq (zd 2) (mC (.int 1)))))) (fe:=zd 0) (env:=[some (.tup [nz,.tup (ps.map PV.str),bv]),some (.tup [.str "of", .str z]),some (.ref r),x3]) (st:=s) (n:=r) (p:=fun w=>nmv w==z) (f:=fun x=>x) svs hr (fun w hw=>by
      obtain ⟨zw,ks,h⟩:=al w hw
      simp only [zby h]
      exact yb (zm (zm (zh rfl) rfl (zdP h _)) (zm (zh rfl) rfl yU) (eqTs _ _ _ rfl _))) (fun w hw _=>zh rfl) svs.length 0 (lim+1) [] (by omega) (by have:=C.len;have:=C.few;simp [lim];omega)
     rw [List.drop_zero,zhu ev (by simp [zby hv]) (fun k w hw hq=>by
      have hk:=(yE.mp hw).1
      have hkz:k<zs.length:=by rw [<-C.len];exact hk
      have h2:=C.st k _ w (yn hkz) hw
      have e2:zs[k]'hkz=z:=by rw [<-zby h2];simpa using hq
      have e3:zs[j]'hjz=z:=by rw [yn hjz] at e1;injection e1
      exact zg2 ndz hkz hjz (e2.trans e3.symm))] at this
     show (jR (yY (zd 2)) _ _) _ _=_
     rw [zdc,zan,zh (v:=.ref r) rfl]
     simp only [zL,seqOf]
     rw [yt hr]
     exact this
    have ix0L:∀s:Sto,zq (.ref s.length) (.int 0) (s++[.lst [v]])=.ok v (s++[.lst [v]]):=fun s=>by
     rw [zaJ,yt (yu _ _)];rfl
    have tw:∀(s:Sto) (nz bv:PV) (r:Nat) (x3:Option PV),tW [some (.tup [nz,.tup (ps.map PV.str),bv]),some (.tup [.str "of", .str z]),some (.ref r),x3] s=.ok true s:=fun s nz bv r x3=>by
     have I:=inP s nz bv r x3
     rw [jw hp] at I
     exact zaq (q0 rfl (eqY _)) I
    have tp:∀(s:Sto) (d:Nat),s[d]?=some (.dic zs svs)->∃s1,Old s s1/\tP [some (.ref d),some (.tup [.str "of", .str z])] s=.ok (falls v) s1:=fun s d hd=>by
     obtain ⟨s1,F,o⟩:=zqd hv s
     exact ⟨s1,o,zaq (q0 rfl (eqY _)) (zaq (yb (zm (zm (zh rfl) rfl yU) (zh rfl) (zdR (b:=true) hd (by rw [lk];rfl)))) (yb (zG (zZ (zm (zh rfl) (zm (zh rfl) rfl yU) (zht hd lk))) F)))⟩
    by_cases hf:falls v=true
    ·cases hv with
     | call f as ha=>simp [falls,n17] at hf
     | let_ o n as ho hl hat =>
      obtain ⟨b,as',rfl⟩:∃b as',as=b::as':=by
       cases as with
       | nil=>simp at hl
       | cons b r=>exact ⟨b,r,rfl⟩
      have hof:o∈ct_FALLING:=by simpa [falls] using hf
      obtain ⟨R,hR,hP,hW⟩:=ih j hji b (by omega) (hat b (yO ..))
      refine ⟨R,hR,fun d s hd=>?_,fun nz bv r s x3 hr=>?_⟩
      ·obtain ⟨s1,o1,T⟩:=tp s d hd
       rw [hf] at T
       obtain ⟨a',s',o',L,G⟩:=hP d s1 (o1 _ _ hd)
       refine ⟨a',s',o1.trans o',fun fuel hfu=>?_,G⟩
       obtain ⟨f,rfl⟩:∃f,fuel=f+1:=⟨fuel-1,by omega⟩
       rw [zdU T (zO (zm (zm (zm (zh rfl) (zm (zh rfl) rfl yU) (zht (o1 _ _ hd) lk)) rfl ix3) rfl jg))]
       exact L f (by omega)
      ·have o1:=yf s [SO.lst [PV.tup [.str "let", .str z,.str o,.tup (b::as')]]]
       have B:bW [some (.tup [nz,.tup (ps.map PV.str),bv]),some (.tup [.str "of", .str z]),some (.ref r),x3] s=.ok (.nx [some (.tup [nz,.tup (ps.map PV.str),bv]),some b,some (.ref r),some (.tup [.str "let", .str z,.str o,.tup (b::as')])]) (s++[SO.lst [PV.tup [.str "let", .str z,.str o,.tup (b::as')]]]):=zB (zO (zm (cw s nz bv r x3 hr) rfl (ix0L s))) (zB (yG (zbo (q0 rfl (eqF n1 _)) (yb (zm (zm (zh rfl) rfl w8) (zK (xs:=ct_FALLING.map PV.str) rfl (by decide)) ((zcA true o ct_FALLING _).trans (by rw [zaZ hof];rfl)))))) (zO (zm (zm (zh rfl) rfl ix3) rfl jg)))
       obtain ⟨s',o',K⟩:=hW nz bv r (s++[SO.lst [PV.tup [.str "let", .str z,.str o,.tup (b::as')]]]) (some (.tup [.str "let", .str z,.str o,.tup (b::as')])) (o1 _ _ hr)
       refine ⟨s',o1.trans o',?_⟩
       rcases K with K|⟨a',y3,K,G⟩
       ·refine .inl fun fuel hfu=>?_
        obtain ⟨f,rfl⟩:∃f,fuel=f+1:=⟨fuel-1,by omega⟩
        rw [zdU (tw s nz bv r x3) B]
        exact K f (by omega)
       ·refine .inr ⟨a',y3,fun fuel hfu=>?_,G⟩
        obtain ⟨f,rfl⟩:∃f,fuel=f+1:=⟨fuel-1,by omega⟩
        rw [zdU (tw s nz bv r x3) B]
        exact K f (by omega)
    ·have hf':falls v=false:=by simpa using hf
     refine ⟨.tup [.str "made", .str z],.inl ⟨_,_,rfl⟩,fun d s hd=>?_,fun nz bv r s x3 hr=>?_⟩
     ·obtain ⟨s1,o1,T⟩:=tp s d hd
      rw [hf'] at T
      exact ⟨_,s1,o1,fun fuel hfu=>zaX T fuel (by omega),zB (yG (q0 rfl (eqF zdT _))) (jf (yL (yb (zm (zm (zh rfl) rfl yU) (zh rfl) (zdR (b:=true) (o1 _ _ hd) (by rw [lk];rfl)))) (yl (zK (zQ rfl (zm (zh rfl) rfl yU)) (by simp)))))⟩
     ·refine ⟨s++[.lst [v]],yf _ _,.inl fun fuel hfu=>zqe (tw s nz bv r x3) ?_ fuel (by omega)⟩
      refine zB (zO (zm (cw s nz bv r x3 hr) rfl (ix0L s))) (jf (yL ?_ (yl (zK (zQ rfl (zm (zh rfl) rfl yU)) (by simp)))))
      cases hv with
      | call f as ha=>exact zf6 (q0 rfl (eqY _))
      | let_ o n as ho hl hat =>
       have hof:o∉ct_FALLING:=by simpa [falls] using hf'
       exact zbo (q0 rfl (eqF n1 _)) (yb (zm (zm (zh rfl) rfl w8) (zK (xs:=ct_FALLING.map PV.str) rfl (by decide)) ((zcA true o ct_FALLING _).trans (by rw [jw hof];rfl))))
def zhv {p:PV->Bool}:∀l:List PV,(l.flatMap fun x=>if p x=true then [x] else [])=l.filter p
 | []=>rfl
 | x::l=>by
  rw [za1,zhv l]
  cases h:p x with
  | true=>rw [List.filter_cons_of_pos h];rfl
  | false=>rw [List.filter_cons_of_neg (by simp [h])];simp
def zhw {ks:List Str}{ls:List PV}{zs:List Str}(h:Lns ks ls zs):∀w∈ls,∃x r,w=.tup (.str x::r):=by
 induction h with
 | nil ks=>intro w hw;cases hw
 | stp ks z s ls zs hs _ ih =>
  intro w hw
  rcases yD.mp hw with q|q
  ·rw [q];cases hs with
   | let_ o n as=>exact ⟨_,_,rfl⟩
   | call f as=>exact ⟨_,_,rfl⟩
  ·exact ih w q
 | fin ks e ls zs he _ ih =>
  intro w hw
  rcases yD.mp hw with q|q
  ·obtain ⟨x,r,e,_⟩:=he;rw [q];exact ⟨x,r,e⟩
  ·exact ih w q
def zhx {x:Str} {r:List PV} {e:ze} {s:Sto}:(jn (mB (zf zS (zf zq (zd 0) (mC (.int 0))) (mC (.str "let")))) (mB (zf zS (zf zq (zd 0) (mC (.int 0))) (mC (.str "call"))))) (some (.tup (.str x::r))::e) s=.ok (isSt (.tup (.str x::r))) s:=by
 by_cases h1:x = "let"
 ·subst h1
  simp only [isSt,hdv,true_or,decide_true]
  exact zf6 (q0 rfl (eqY _))
 ·by_cases h2:x = "call"
  ·subst h2
   simp only [isSt,hdv,or_true,decide_true]
   exact zbo (q0 rfl (eqF h1 _)) (q0 rfl (eqY _))
  ·simp only [isSt,hdv,h1,h2,or_false,decide_false]
   exact zbo (q0 rfl (eqF h1 _)) (q0 rfl (eqF h2 _))
def zqf {ks:List Str}{ls:List PV}{zs:List Str}(h:Lns ks ls zs):(stps ls).map nmv=zs:=by
 induction h with
 | nil ks=>rfl
 | stp ks z s ls zs hs _ ih=>rw [show stps (s::ls)=s::stps ls from List.filter_cons_of_pos (zcy hs),ji,ih,zby hs]
 | fin ks e ls zs he _ ih=>rw [show stps (e::ls)=stps ls from List.filter_cons_of_neg (by rw [zcz he];simp)];exact ih
def zhy {f:PV}{ps zs:List Str}{ls:List PV}{dd:Nat}(F:Fn f ps zs ls dd):Cn ps zs (stps ls):=by
 have l1:=zhn F.ln
 have l2:(stps ls).length<=ls.length:=List.length_filter_le _ _
 have:=F.nl
 exact ⟨l1,by omega,F.nd,zp6 F.ln⟩
def both {f:PV}{ps zs:List Str}{ls:List PV}{dd:Nat}(F:Fn f ps zs ls dd) {a:PV}(ha:AtV (ps++zs) a):∃R,RV R/\(∀st,∃s1,wE [f,a] st=.ok R s1/\Old st s1)/\∀st,∃s1,zaT [f,a] st=.ok R s1/\Old st s1:=by
 have C:=zhy F
 have ln:lim=1000000:=rfl
 have few:=C.few
 obtain ⟨R,hR,hP,hW⟩:=roots C zs.length a (yg _) (by rw [List.take_length];exact ha)
 obtain ⟨⟨nz,bv,rfl,B⟩,hln,hnd,hdd,hll,hnp⟩:=F
 refine ⟨R,hR,fun st=>?_,fun st=>?_⟩
 ·obtain ⟨s1,E1,h1,o1⟩:=zho (nz:=nz) B hdd hll hln (List.nodup_append.mp hnd).2.1 st
  obtain ⟨a',s2,o2,L,G⟩:=hP st.length s1 h1
  exact ⟨s2,yi rfl (yl (zG (zQ (zG (zZ (zh rfl)) E1) (zh rfl)) (yi rfl (zB (L lim (by omega)) G)))),o1.trans o2⟩
 ·obtain ⟨r,s1,E1,h1,o1⟩:=zhm B (by omega) (by omega) st
  let s2:=s1++[SO.lst (stps ls)]
  have CC:(jR (yY (zu zau (zc (zf zq (zd 0) (mC (.int 2))) zk))) (jn (mB (zf zS (zf zq (zd 0) (mC (.int 0))) (mC (.str "let")))) (mB (zf zS (zf zq (zd 0) (mC (.int 0))) (mC (.str "call"))))) (zd 0)) [some (.tup [nz,.tup (ps.map PV.str),bv]),some a,none,none] st=.ok (.ref s1.length) s2:=by
   rw [zdc,zan,zG (zZ (zm (zh rfl) rfl w8)) E1]
   simp only [zL,seqOf]
   rw [yt h1]
   have:=zct (ft:=(jn (mB (zf zS (zf zq (zd 0) (mC (.int 0))) (mC (.str "let")))) (mB (zf zS (zf zq (zd 0) (mC (.int 0))) (mC (.str "call")))))) (fe:=zd 0) (env:=[some (.tup [nz,.tup (ps.map PV.str),bv]),some a,none,none]) (st:=s1) (n:=r) (p:=isSt) (f:=fun x=>x) ls h1 (fun w hw=>by obtain ⟨x,r',rfl⟩:=zhw hln w hw;exact zhx) (fun w hw _=>zh rfl) ls.length 0 (lim+1) [] (by omega) (by omega)
   rw [List.drop_zero,zhv] at this
   exact this
  obtain ⟨s3,o3,K⟩:=hW nz bv s1.length s2 none (yu _ _)
  have oo:Old st s3:=o1.trans ((yf _ _).trans o3)
  rcases K with K|⟨a',y3,K,G⟩
  ·exact ⟨s3,yi rfl (zB (zO CC) (jf (K lim (by omega)))),oo⟩
  ·exact ⟨s3,yi rfl (zB (zO CC) (zB (K lim (by omega)) G)),oo⟩
def zdV {R:PV}(h:RV R) (st:Sto):wx R R st=.ok (.bl false) st:=by
 rcases h with ⟨w,z,rfl⟩|rfl<;>simp [Mi.plain,plains,dep,deps,eqP,eqPs]
def zqg {R:PV} (h:RV R) (st:Sto):zb2 isT [R,.ty "tuple"] st=.ok (.bl true) st:=by
 rcases h with ⟨w,z,rfl⟩|rfl<;>rfl
abbrev b1:ze->Mo Fl:=(zv (zC 5 (zu wE (zc (zd 2) (zc (zx (zc (mC (.str "of")) (zc (zd 4) zk))) zk))))
  (ya (jn (za8 (mB (zu (zb2 isT) (zc (zd 5) (zc (mC (.ty "tuple")) zk))))) (mB (zf wx (zd 5) (zu zaT (zc (zd 2) (zc (zx (zc (mC (.str "of")) (zc (zd 4) zk))) zk))))))
  (zY (mC (.bl false)))
  yd))
abbrev b2:ze->Mo Fl:=(ya (mB (zf wx (zu wE (zc (zd 2) (zc (zx (zc (mC (.str "of")) (zc (zd 4) zk))) zk))) (zu zaT (zc (zd 2) (zc (zx (zc (mC (.str "of")) (zc (zd 4) zk))) zk)))))
  (zY (mC (.bl false)))
  yd)
abbrev bF:ze->Mo Fl:=(zv (zC 3 (zu j3 (zc (zf zq (zd 2) (mC (.int 1))) zk)))
  (zv (zC 3 (zf zI (zd 3) (jR (yY (zu zau (zc (zf zq (zd 2) (mC (.int 2))) zk))) (jn (mB (zf zS (zf zq (zd 0) (mC (.int 0))) (mC (.str "let")))) (mB (zf zS (zf zq (zd 0) (mC (.int 0))) (mC (.str "call"))))) (zf zq (zd 0) (mC (.int 1))))))
  (zv (jd (yY (zd 3)) (gN 4) b1)
  (zv (ya (mB (zf wx (zu wE (zc (zd 2) (zc (zx (zc (mC (.str "is")) (zc (zu zbr (zc (zu yJ (zc (zd 0) (zc (mC (.int 7)) zk))) zk)) zk))) zk))) (zx (zc (mC (.str "is")) (zc (mC .non) zk)))))
  (zY (mC (.bl false)))
  yd)
  (jd (yY (jE (zd 3) pNone (pSome (mC (.int 3))))) (gN 4) b2)))))
def zqh {f:PV} {ps zs:List Str} {ls:List PV} {dd:Nat} (F:Fn f ps zs ls dd) (v:PV) (st:Sto):∃s1,wE [f,.tup [.str "is", v]] st=.ok (.tup [.str "is", .non]) s1/\Old st s1:=by
 obtain ⟨⟨nz,bv,rfl,B⟩,hln,hnd,hdd,hll,hnp⟩:=F
 obtain ⟨s1,E1,h1,o1⟩:=zho (nz:=nz) B hdd hll hln (List.nodup_append.mp hnd).2.1 st
 exact ⟨s1,yi rfl (yl (zG (zQ (zG (zZ (zh rfl)) E1) (zh rfl)) (yi rfl (zB (zaX (zbn (q0 rfl (eqF zdS _))) lim (by decide)) (jf (yL (q0 rfl (eqY _)) (yl (zK (zQ rfl rfl) (by simp))))))))),o1⟩
def zqi (ns:List Int) (pv:PV) {f:PV}(hf:IsFn f) (z3 z4 z5:Option PV) (st:Sto):∃y3 y4 y5 s1,bF [some (.frl (ns.map PV.int)),some pv,some f,z3,z4,z5] st=.ok (.nx [some (.frl (ns.map PV.int)),some pv,some f,y3,y4,y5]) s1/\Old st s1:=by
 obtain ⟨ps,zs,ls,dd,F⟩:=hf
 have F':=F
 have C:=zhy F
 have few:=C.few
 have ln:lim=1000000:=rfl
 obtain ⟨⟨nz,bv,rfl,B⟩,hln,hnd,hdd,hll,hnp⟩:=F
 let s1:=st++[SO.lst (ps.map PV.str)]
 obtain ⟨r,s2,E2,h2,o2⟩:=zhm B (by omega) (by omega) s1
 let s3:=s2++[SO.lst (zs.map PV.str)]
 have fz:(ls.flatMap fun x=>if isSt x=true then [PV.str (nmv x)] else [])=zs.map PV.str:=by
  rw [<-zqf hln]
  have:∀l:List PV,(l.flatMap fun x=>if isSt x=true then [PV.str (nmv x)] else [])=((l.filter isSt).map nmv).map PV.str:=fun l=>by
   induction l with
   | nil=>rfl
   | cons x l ih =>
    rw [za1,ih]
    cases h:isSt x with
    | true=>rw [List.filter_cons_of_pos h];rfl
    | false=>rw [List.filter_cons_of_neg (by simp [h])];simp
  exact this ls
 have CC:(jR (yY (zu zau (zc (zf zq (zd 2) (mC (.int 2))) zk))) (jn (mB (zf zS (zf zq (zd 0) (mC (.int 0))) (mC (.str "let")))) (mB (zf zS (zf zq (zd 0) (mC (.int 0))) (mC (.str "call"))))) (zf zq (zd 0) (mC (.int 1)))) [some (.frl (ns.map PV.int)),some pv,some (.tup [nz,.tup (ps.map PV.str),bv]),some (.ref st.length),z4,z5] s1=.ok (.ref s2.length) s3:=by
  rw [zdc,zan,zG (zZ (zm (zh rfl) rfl w8)) E2]
  simp only [zL,seqOf]
  rw [yt h2]
  have:=zct (ft:=(jn (mB (zf zS (zf zq (zd 0) (mC (.int 0))) (mC (.str "let")))) (mB (zf zS (zf zq (zd 0) (mC (.int 0))) (mC (.str "call")))))) (fe:=(zf zq (zd 0) (mC (.int 1)))) (env:=[some (.frl (ns.map PV.int)),some pv,some (.tup [nz,.tup (ps.map PV.str),bv]),some (.ref st.length),z4,z5]) (st:=s2) (n:=r) (p:=isSt) (f:=fun x=>.str (nmv x)) ls h2 (fun w hw=>by obtain ⟨x,r',rfl⟩:=zhw hln w hw;exact zhx) (fun w hw hp=>by
   have hm:w∈stps ls:=List.mem_filter.mpr ⟨hw,hp⟩
   obtain ⟨k,hk,ek⟩:=zaY hm
   have hkz:k<zs.length:=by rw [<-C.len];exact hk
   have h:=C.st k _ w (yn hkz) (by rw [yn hk,ek])
   rw [zby h]
   exact zm (zh rfl) rfl (zdP h _)) ls.length 0 (lim+1) [] (by omega) (by omega)
  rw [List.drop_zero,fz] at this
  exact this
 let s4:=s3++[SO.lst ((ps++zs).map PV.str)]
 have o4:Old st s4:=(yf _ _).trans (o2.trans ((yf _ _).trans (yf _ _)))
 have AD:zI (.ref st.length) (.ref s2.length) s3=.ok (.ref s3.length) s4:=by
  have:=adL (s:=s3) (m:=st.length) (n:=s2.length) (xs:=ps.map PV.str) (ys:=zs.map PV.str) (yf _ _ _ _ (o2 _ _ (yu _ _))) (yu _ _) (by simp;omega)
  rw [<-wI] at this
  exact this
 have h4:s4[s3.length]?=some (.lst ((ps++zs).map PV.str)):=yu _ _
 obtain ⟨e',s5,L1,⟨y4,y5,he⟩,o5⟩:=zdF (g:=gN 4) (body:=b1) (n:=s3.length) ((ps++zs).map PV.str) (fun i e s=>(∃y4 y5,e=[some (.frl (ns.map PV.int)),some pv,some (.tup [nz,.tup (ps.map PV.str),bv]),some (.ref s3.length),y4,y5])/\Old s4 s) (fun i e s h=>h.2 _ _ h4) (fun i x e s hx ⟨⟨y4,y5,he⟩,o⟩=>by
  subst he
  rw [jt] at hx
  obtain ⟨z,hz,rfl⟩:=Option.map_eq_some_iff.mp hx
  obtain ⟨R,hR,hP,hW⟩:=both F' (.of z (wc hz))
  obtain ⟨t1,f1,g1⟩:=hP s
  obtain ⟨t2,f2,g2⟩:=hW t1
  exact ⟨[some (.frl (ns.map PV.int)),some pv,some (.tup [nz,.tup (ps.map PV.str),bv]),some (.ref s3.length),some (.str z),y5],_,t2,rfl,zB (zO (zG (zQ (zh rfl) (zK (zQ rfl (zh rfl)) (by simp))) f1)) (yG (zbo (zni (b:=true) (yb (zG (zQ (zh rfl) rfl) (zqg hR _)))) (yb (zm (zh rfl) (zG (zQ (zh rfl) (zK (zQ rfl (zh rfl)) (by simp))) f2) (zdV hR _))))),⟨_,_,rfl⟩,o.trans (g1.trans g2)⟩) ((ps++zs).map PV.str).length 0 (lim+1) [some (.frl (ns.map PV.int)),some pv,some (.tup [nz,.tup (ps.map PV.str),bv]),some (.ref s3.length),z4,z5] s4 (by omega) (by simp;omega) ⟨⟨_,_,rfl⟩,Old.refl _⟩
 subst he
 have FO1:(jd (yY (zd 3)) (gN 4) b1) [some (.frl (ns.map PV.int)),some pv,some (.tup [nz,.tup (ps.map PV.str),bv]),some (.ref s3.length),z4,z5] s4=.ok (.nx [some (.frl (ns.map PV.int)),some pv,some (.tup [nz,.tup (ps.map PV.str),bv]),some (.ref s3.length),y4,y5]) s5:=by
  rw [zbf,zan,zh rfl]
  simp only [zL,seqOf]
  rw [yt h4]
  exact L1
 obtain ⟨c,s6,e6,o6⟩:=wt ns 7 (by decide) s5
 obtain ⟨v,s7,e7,o7⟩:=zhd c s6
 obtain ⟨s8,e8,o8⟩:=zqh F' v s7
 have o58:=o6.trans (o7.trans o8)
 have h8:=o58 _ _ (o5 _ _ h4)
 let s9:=s8++[SO.lst (((ps++zs).take 3).map PV.str)]
 have h9:s9[s8.length]?=some (.lst (((ps++zs).take 3).map PV.str)):=yu _ _
 obtain ⟨e',s10,L2,⟨x4,x5,he⟩,o10⟩:=zdF (g:=gN 4) (body:=b2) (n:=s8.length) (((ps++zs).take 3).map PV.str) (fun i e s=>(∃y4 y5,e=[some (.frl (ns.map PV.int)),some pv,some (.tup [nz,.tup (ps.map PV.str),bv]),some (.ref s3.length),y4,y5])/\Old s9 s) (fun i e s h=>h.2 _ _ h9) (fun i x e s hx ⟨⟨y4,y5,he⟩,o⟩=>by
  subst he
  rw [jt] at hx
  obtain ⟨z,hz,rfl⟩:=Option.map_eq_some_iff.mp hx
  obtain ⟨R,hR,hP,hW⟩:=both F' (.of z (List.mem_of_mem_take (wc hz)))
  obtain ⟨t1,f1,g1⟩:=hP s
  obtain ⟨t2,f2,g2⟩:=hW t1
  exact ⟨[some (.frl (ns.map PV.int)),some pv,some (.tup [nz,.tup (ps.map PV.str),bv]),some (.ref s3.length),some (.str z),y5],_,t2,rfl,yG (yb (zm (zG (zQ (zh rfl) (zK (zQ rfl (zh rfl)) (by simp))) f1) (zG (zQ (zh rfl) (zK (zQ rfl (zh rfl)) (by simp))) f2) (zdV hR _))),⟨_,_,rfl⟩,o.trans (g1.trans g2)⟩) (((ps++zs).take 3).map PV.str).length 0 (lim+1) [some (.frl (ns.map PV.int)),some pv,some (.tup [nz,.tup (ps.map PV.str),bv]),some (.ref s3.length),y4,y5] s9 (by omega) (by simp;omega) ⟨⟨_,_,rfl⟩,Old.refl _⟩
 subst he
 have FO2:(jd (yY (jE (zd 3) pNone (pSome (mC (.int 3))))) (gN 4) b2) [some (.frl (ns.map PV.int)),some pv,some (.tup [nz,.tup (ps.map PV.str),bv]),some (.ref s3.length),y4,y5] s8=.ok (.nx [some (.frl (ns.map PV.int)),some pv,some (.tup [nz,.tup (ps.map PV.str),bv]),some (.ref s3.length),x4,x5]) s10:=by
  rw [zbf,zan,zcc (zh rfl) zcd (zbp rfl) (zdO h8 3)]
  simp only [zL,seqOf]
  rw [yt h9]
  exact L2
 exact ⟨_,_,_,s10,zB (zO (zG (zZ (zm (zh rfl) rfl yU)) zpE)) (zB (zO (zm (zh rfl) CC AD)) (zB FO1 (zB (yG (yb (zm (zG (zQ (zh rfl) (zK (zQ rfl (zG (zZ (zG (zQ (zh rfl) rfl) e6)) e7)) (by simp))) e8) (zK (zQ rfl rfl) (by simp)) (zdV (.inr rfl) _)))) FO2))),o4.trans (o5.trans (o58.trans ((yf _ _).trans o10)))⟩
def zqj (ns:List Int):∃st,zgY [.frl (ns.map .int)] []=.ok (.bl true) st:=by
 obtain ⟨fs,s1,e1,hfs,hfl,o1⟩:=zpZ ns []
 obtain ⟨e',s2,F,⟨z2,z3,z4,z5,he⟩⟩:=for_tup (g:=gN 2) (body:=bF) (fs.take 12) (fun i e s=>∃z2 z3 z4 z5,e=[some (.frl (ns.map PV.int)),some (.tup fs),z2,z3,z4,z5]) (fun i x e s hx ⟨z2,z3,z4,z5,he⟩=>by
  subst he
  obtain ⟨y3,y4,y5,s',E,_⟩:=zqi ns (.tup fs) (hfs x (List.mem_of_mem_take (wc hx))) z3 z4 z5 s
  exact ⟨[some (.frl (ns.map PV.int)),some (.tup fs),some x,z3,z4,z5],_,s',rfl,E,_,_,_,_,rfl⟩) (fs.take 12).length 0 [some (.frl (ns.map PV.int)),some (.tup fs),none,none,none,none] s1 (by omega) ⟨none,none,none,none,rfl⟩
 subst he
 have FO:(jd (yY (jE (zd 1) pNone (pSome (mC (.int 12))))) (gN 2) bF) [some (.frl (ns.map PV.int)),some (.tup fs),none,none,none,none] s1=.ok (.nx [some (.frl (ns.map PV.int)),some (.tup fs),z2,z3,z4,z5]) s2:=by
  rw [zbf,zan,zcc (zh rfl) zcd (zbp rfl) (zl0 ..)]
  simp only [zL,seqOf]
  rw [show cutP fs none (some 12)=fs.take 12 from zhi fs 12]
  exact F
 exact ⟨s2,yi rfl (zB (zO (zG (zZ (zh rfl)) e1)) (zB FO (yl rfl)))⟩
end FK51
open PySem PySem.W PyProof.Rows
set_option maxHeartbeats 0
namespace PySem.W.Fast
def tw5422459024162873376:=()
def tw4543357335744763008:=()
def tw3763064767782465696:=()
def tw1937588757997542592:=()
def tw6090367890817826016:=()
def tw11145361131737779456:=()
def tw11580330514469120320:=()
def tw3979812842892386656:=()
def tw18343924297542965632:=()
def tw7156950394831539616:=()
def tw1031957679374639520:=()
def tw7449875054043605440:=()
def tw12893780005389805120:=()
def tw10274909012663377600:=()
def tw4903613260370815680:=()
def tw5165233262021056224:=()
def tw17030034787315318528:=()
def tw8453278198843344704:=()
def tw11425114182643207008:=()
def tw17240587728523874305:=()
def tw15443810872348336225:=()
def tw2059070008920900737:=()
def tw7148934985206993025:=()
def tw6101320959039674657:=()
def tw7450078728642109825:=()
def tw5363099244638618081:=()
def tw15009497898603434561:=()
def tw8230444157320288929:=()
def tw5614846469142095617:=()
def tw3009000474656657153:=()
def tw14594129718489937665:=()
def tw13131462262126634785:=()
def tw74663948371277633:=()
def tw10099695638841385889:=()
def tw10768446424828314561:=()
def tw5885766200903748545:=()
def tw14224772883799350241:=()
def tw16886350617538965506:=()
def tw3163217807179857922:=()
def tw3755915419497628706:=()
def tw4155370403949194338:=()
def tw5017884899072020610:=()
def tw14664442570611243266:=()
def tw17609847453510679042:=()
def tw7891871970215977698:=()
def tw5920597244747024162:=()
def tw9449106256036401986:=()
def tw8281039398285180770:=()
def tw1857879809359058850:=()
def tw8419007868389760003:=()
def tw14139053673683135555:=()
def tw8835452333821780259:=()
def tw11833997865787860387:=()
def tw5432874834905171395:=()
def tw15308806405571087811:=()
def tw3750028083350574531:=()
def tw12723709163734258179:=()
def tw3794317355570679459:=()
def tw11830476356166562531:=()
def tw10301200563340957411:=()
def tw9274933556345298723:=()
def tw9770887571987260259:=()
def tw11640217937080530819:=()
def tw11865053331515865987:=()
def tw13038936011269115843:=()
def tw7009740581462092868:=()
def tw890660297901460548:=()
def tw18188969029471768740:=()
def tw15651031862379361636:=()
def tw1432058875082836356:=()
def tw16460977569284743556:=()
def tw3278562246784279044:=()
def tw12278179424242486916:=()
def tw13711312134945991332:=()
def tw68637367299847876:=()
def tw9037024423309567684:=()
def tw4499336505944405732:=()
def tw2473860055375291140:=()
def tw10416862441068760165:=()
def tw2964491474191921285:=()
def tw12170436461423303845:=()
def tw1711716937562295493:=()
def tw9749006905721904325:=()
def tw9306920259015581061:=()
def tw3542173008339136933:=()
def tw5029665332173436357:=()
def tw10940319405948478949:=()
def tw7072719223745375717:=()
def tw7957985699441254085:=()
def tw7983007090494275301:=()
def tw588394099400301445:=()
def tw13050159067113572293:=()
def tw17061141170447380518:=()
def tw1896567366858444966:=()
def tw5218377233734759750:=()
def tw14816297726982580582:=()
def tw2223482398833415558:=()
def tw6862730295532410278:=()
def tw1589775094827678118:=()
def tw4945455619775401414:=()
def tw10755459767760302534:=()
def tw6476914457254133222:=()
def tw17030731380369037830:=()
def tw9890745274697342470:=()
def tw793386678933960262:=()
def tw13520642288541536966:=()
def tw11047492762340823750:=()
def tw17355523458351426278:=()
def tw4010461026702366566:=()
def tw5755440277297719174:=()
def tw13954613356136847302:=()
def tw2486203689027660871:=()
def tw14218720794276908135:=()
def tw12244908846169985351:=()
def tw14331986546932970855:=()
def tw8631119922075221703:=()
def tw16243691220564914023:=()
def tw17523357860535001959:=()
def tw8624196930197389159:=()
def tw18396002191304646664:=()
def tw12824225608724752424:=()
def tw16217775412105195560:=()
def tw558746005296412744:=()
def tw1132752003266019432:=()
def tw2810259913452938344:=()
def tw7148842861097315432:=()
def tw13166208584252299432:=()
def tw16763674208320990376:=()
def tw8495702330051731656:=()
def tw17745157685613742280:=()
def tw13997651772945361224:=()
def tw5419097350403292488:=()
def tw15347851337620323656:=()
def tw2497158778231768424:=()
def tw2625461754278809032:=()
def tw12419193261846059464:=()
def tw10958325981212500424:=()
def tw15858704347928230504:=()
def tw13435102599857380008:=()
def tw17636100177212503752:=()
def tw2791057311062819624:=()
def tw16885267941978153768:=()
def tw1475622693500433224:=()
def tw12077907180048599944:=()
def tw14645263427044794248:=()
def tw4936086006854156168:=()
def tw796050816773925864:=()
def tw12874141840109704233:=()
def tw12385669370956705865:=()
def tw4573085165934192841:=()
def tw9401617590642104553:=()
def tw11337939571669174537:=()
def tw11425248627073359113:=()
def tw7208751115768426825:=()
def tw12492198019759442377:=()
def tw9786341968383113673:=()
def tw1974420287372357129:=()
def tw6275630068390996585:=()
def tw1053313995919358601:=()
def tw4325926841318596265:=()
def tw4007469846208657097:=()
def tw11338288334836614889:=()
def tw5457915222827854633:=()
def tw4036461531281375081:=()
def tw15063816746116984713:=()
def tw10511018123266534345:=()
def tw4100007938799771754:=()
def tw11912099469482512586:=()
def tw16982734899456252298:=()
def tw2618685949271333354:=()
def tw4478654787941486154:=()
def tw14085569025281659562:=()
def tw104235418117889834:=()
def tw9733568294967660362:=()
def tw9304971058105865034:=()
def tw6948523838610923338:=()
def tw14344803227425698762:=()
def tw3280069390304979946:=()
def tw11854672462478225419:=()
def tw14756705942111597675:=()
def tw7579007895083926635:=()
def tw9485320362202397867:=()
def tw3105332416013755723:=()
def tw4039190097506466283:=()
def tw10889120481242820107:=()
def tw2097295425164946955:=()
def tw11392721782429675115:=()
def tw14479423038600503115:=()
def tw4090976627024491339:=()
def tw1632981890173992875:=()
def tw12662572187164664811:=()
def tw1702787182375695372:=()
def tw440782769964673260:=()
def tw16471387159689902444:=()
def tw2685113377615147372:=()
def tw4746921167546651180:=()
def tw8363115841319806668:=()
def tw3164860371053973356:=()
def tw4226848260258358124:=()
def tw5391572554334823308:=()
def tw12206921882397058988:=()
def tw11041927614218069037:=()
def tw10671786478918687917:=()
def tw7468514028552095949:=()
def tw3042307057773919469:=()
def tw2370766593442583821:=()
def tw16797315380603002157:=()
def tw13379470960043698477:=()
def tw15207807936149387565:=()
def tw11891165778884562253:=()
def tw7229622334968471949:=()
def tw4063573881387404685:=()
def tw7326280575537574285:=()
def tw16461020862680864173:=()
def tw14747563710385062381:=()
def tw17086903839395096045:=()
def tw14147686684331691533:=()
def tw10359059405588292173:=()
def tw4352668670278431373:=()
def tw12911455058812506893:=()
def tw15745447435639870349:=()
def tw1612442727989361613:=()
def tw15494438674416117774:=()
def tw2918202248286901454:=()
def tw15233841040833794350:=()
def tw17174843663265229166:=()
def tw4367557229581232622:=()
def tw664244091082734062:=()
def tw4162726254090068622:=()
def tw7736739695222416078:=()
def tw98068145813812014:=()
def tw10507443364458133294:=()
def tw9085145740428716910:=()
def tw1312446085913801646:=()
def tw8189578056743136238:=()
def tw17900084902259600399:=()
def tw3505861326113034351:=()
def tw3098963735914918031:=()
def tw8454741837468549263:=()
def tw15078775193499501839:=()
def tw12644464911596689743:=()
def tw17689317819290036623:=()
def tw8786036253874965903:=()
def tw12804198508965487023:=()
def tw14645385915613015631:=()
def tw6490091699469319951:=()
def tw10542286040425421647:=()
def tw3089962467943793519:=()
def tw9491931449441620879:=()
def tw1577010847474450319:=()
def tw9072106039034801168:=()
def tw18400874811627184240:=()
def tw3217158089760969968:=()
def tw10568925039722997136:=()
def tw1174662520086510992:=()
def tw1647475980172131728:=()
def tw6987496393814749648:=()
def tw9518707652791874032:=()
def tw13365648022291509744:=()
def tw9910060874654091792:=()
def tw6497083409103311440:=()
def tw14517492410455308912:=()
def tw14406561785035852464:=()
def tw12393423190094860080:=()
def tw5090833687433808752:=()
def tw1847674096497333104:=()
def tw14617196519517778832:=()
def tw17133233376583831472:=()
def tw8524310512081336240:=()
def tw4755322035185626064:=()
def tw466132905212005360:=()
def tw2332265283783468081:=()
def tw11212509683747803217:=()
def tw5775053703004775537:=()
def tw1586814386432065681:=()
def tw4079848406252760273:=()
def tw18236455360591461585:=()
def tw11884368551938140401:=()
def tw4522465980720557361:=()
def tw10365631065426583857:=()
def tw12345417779103459665:=()
def tw15181789389910223249:=()
def tw4682253471321590193:=()
def tw13005954146370661841:=()
def tw2729418844554048977:=()
def tw7843091463279191601:=()
def tw3706857856364341905:=()
def tw5220255134087640721:=()
def tw14465915897235975889:=()
def tw15883186764753521585:=()
def tw6230876638106146769:=()
def tw725167644113893329:=()
def tw18072588307805510706:=()
def tw6994615742954226898:=()
def tw13373161644567389554:=()
def tw1099633077098955154:=()
def tw10938539020755662226:=()
def tw18024478144130456210:=()
def tw4062197796661472914:=()
def tw303780793035643634:=()
def tw15642950988206242610:=()
def tw11266317964694191954:=()
def tw8846255094883945394:=()
def tw14712850086400744402:=()
def tw13515416901310548978:=()
def tw6482193909863024755:=()
def tw16127422392203786355:=()
def tw15684019346836118803:=()
def tw11617310392261798163:=()
def tw18122738669389878579:=()
def tw17628367871454634643:=()
def tw9833806813208670003:=()
def tw1046776669731703635:=()
def tw1482537961589120947:=()
def tw14297555905818320851:=()
def tw6866134895078950899:=()
def tw14325237694715702356:=()
def tw16348357270970813556:=()
def tw1329825861112079508:=()
def tw8608575186652088756:=()
def tw17097221767594397236:=()
def tw15750936597440050772:=()
def tw638297923029529172:=()
def tw5595023905871058548:=()
def tw8126179348126028532:=()
def tw464142990463128340:=()
def tw14087077044363196276:=()
def tw3168826794931204117:=()
def tw1984112895102349397:=()
def tw3119835848713025653:=()
def tw14844483314538570869:=()
def tw11586190912332078325:=()
def tw1822125171824872821:=()
def tw7359215475661287829:=()
def tw2192592922858377685:=()
def tw9885527301502707221:=()
def tw4155099513290616341:=()
def tw3842907970548989525:=()
def tw2139001761264422549:=()
def tw16844131366654406389:=()
def tw11845590207754610613:=()
def tw15498735793009607702:=()
def tw6002720326304715830:=()
def tw8323788935242343510:=()
def tw10379301036583039158:=()
def tw13729187797224944822:=()
def tw4126711968591976790:=()
def tw13353623244268563862:=()
def tw1188462880945110454:=()
def tw9822631622851560918:=()
def tw2253672120007611862:=()
def tw491917063019019766:=()
def tw15562923744641834518:=()
def tw17774530577512671830:=()
def tw17755900715435532950:=()
def tw1460922303519112854:=()
def tw2200864910392805142:=()
def tw6311198349885532982:=()
def tw12429786022357692246:=()
def tw7916025181599738774:=()
def tw7690263982000922518:=()
def tw18266746422620228566:=()
def tw13748577461770261591:=()
def tw16154182991341170775:=()
def tw6872063562458217751:=()
def tw7954014960889456919:=()
def tw5002000030608850199:=()
def tw3744700516938124599:=()
def tw14035094420071547223:=()
def tw18254063102935869911:=()
def tw17324846447732041207:=()
def tw9319984705923165719:=()
def tw16846627375198012055:=()
def tw340606899720885943:=()
def tw12934517471257370359:=()
def tw13813892191204711287:=()
def tw2310013915579584439:=()
def tw13589487388921946039:=()
def tw14966273054233675735:=()
def tw3462595488291191767:=()
def tw18393713428286595192:=()
def tw3012462994635878520:=()
def tw3200375104385201336:=()
def tw11882495857799807192:=()
def tw10766494856093624600:=()
def tw1260851757661849912:=()
def tw4220084461746356600:=()
def tw14122354408543093112:=()
def tw14116290809655240120:=()
def tw2281645744949877208:=()
def tw7782281806036060728:=()
def tw2169383868564578008:=()
def tw16870188353047138168:=()
def tw1411290552253026264:=()
def tw3511694617336004568:=()
def tw4534350275389467673:=()
def tw13157757656163652761:=()
def tw16608098765697861785:=()
def tw4811485881436149945:=()
def tw15928843872150331577:=()
def tw16810676349521182009:=()
def tw2648503310515553593:=()
def tw17485278492780250489:=()
def tw13284575536446135865:=()
def tw12502115837268226649:=()
def tw9670452447984571065:=()
def tw2366771041768892121:=()
def tw8534534267454093017:=()
def tw3841277518016346905:=()
def tw2708833814291623737:=()
def tw10336640447109019449:=()
def tw4528429290172839801:=()
def tw13464014425104947129:=()
def tw8308912113245058009:=()
def tw3439567745537036346:=()
def tw1450122753739707482:=()
def tw3774508814048831674:=()
def tw778255679271584954:=()
def tw7645405417117229306:=()
def tw8379108762608192826:=()
def tw13662782185602816346:=()
def tw4525992607811976570:=()
def tw12048911583005658490:=()
def tw815151707465999834:=()
def tw10240357735205696986:=()
def tw1649326413888131642:=()
def tw13666684493385676378:=()
def tw7210567731604423290:=()
def tw15440303728742991482:=()
def tw5374830236731897498:=()
def tw8141332160352876218:=()
def tw10872352773072155354:=()
def tw2451913211297765146:=()
def tw7750354549917964218:=()
def tw773304510420239354:=()
def tw1993860560073276443:=()
def tw17869942935493975131:=()
def tw8858116691924049019:=()
def tw1540761926435623131:=()
def tw18241824539721584923:=()
def tw2725870326581326171:=()
def tw10838779689171019163:=()
def tw16690752584973055483:=()
def tw3894448669117795867:=()
def tw12665394836699327099:=()
def tw3098147654240066235:=()
def tw11843757711878123227:=()
def tw1359769726700932859:=()
def tw17563380569588356859:=()
def tw16095667951327988539:=()
def tw11487866178655612795:=()
def tw14626913935583864731:=()
def tw11789503555512922011:=()
def tw15688247228519531451:=()
def tw8894553544174352379:=()
def tw6040837443394748444:=()
def tw5616628329872801852:=()
def tw5094233783756918876:=()
def tw8062602049690841180:=()
def tw10239629368724356220:=()
def tw7277628095361987772:=()
def tw3306597359199590812:=()
def tw12258269884315889052:=()
def tw14522752057006698076:=()
def tw6380909778941145692:=()
def tw18064529117680106076:=()
def tw6132727442864311932:=()
def tw9758594922861867644:=()
def tw14538685768688458428:=()
def tw14340997948366530332:=()
def tw5463811282917731132:=()
def tw4288888718723746652:=()
def tw1131936765491155868:=()
def tw17956224108379953052:=()
def tw16326965899116440508:=()
def tw2490890500789930972:=()
def tw2918804995271233500:=()
def tw7674836438987480028:=()
def tw7603721005848011805:=()
def tw4487500502896002109:=()
def tw12290435555538479229:=()
def tw7542596787205924029:=()
def tw17124305161995863261:=()
def tw1698996889396696349:=()
def tw14557500333765429597:=()
def tw14462824749356214621:=()
def tw1629932311045580157:=()
def tw18048046326338755005:=()
def tw8285750339144727005:=()
def tw3917619104225017341:=()
def tw2062032596816129533:=()
def tw11496577341053358717:=()
def tw5153202991106814653:=()
def tw14710433284802269:=()
def tw17583373998401766237:=()
def tw8414861320964003677:=()
def tw68523917658410973:=()
def tw11652563187888100349:=()
def tw4830891867550389245:=()
def tw894609685281855485:=()
def tw15877243629957314622:=()
def tw11264004120108430462:=()
def tw9480985089478716574:=()
def tw309492647624563902:=()
def tw9039671421636205790:=()
def tw2346339830717291902:=()
def tw1563881845005759006:=()
def tw2560073534162569822:=()
def tw17400771678382279294:=()
def tw9347195769723488926:=()
def tw13502058043044913086:=()
def tw4196626138541659102:=()
def tw49721690618537950:=()
def tw3103347526331971647:=()
def tw18137715408302642303:=()
def tw15654132365470475455:=()
def tw16918139668057049343:=()
def tw13181787721490038015:=()
def tw11004091521110442527:=()
def tw4635120314319742495:=()
def tw8215686023134954015:=()
def tw4199058660335682175:=()
def tw12769660984311136895:=()
def tw49001696787101311:=()
def tw13836647651325856511:=()
def tw5281405454208150303:=()
def tw10765222448683262847:=()
def tw10341904971170490239:=()
def tw231374270542318527:=()
def tw2695062673854538645:=()
def tw13058521393705239995:=()
end PySem.W.Fast
open_top hdT for PySem.Challenge.rw_foreknown_k51_roots
theorem PySem.Challenge.cw_foreknown_k51_roots_holds : PySem.Challenge.rw_foreknown_k51_roots.Holds :=
 hdT (by
 k_fill
 refine Mi.walkM (l:=PySem.Challenge.rw_foreknown_k51_roots) (k:=17) (x := "_law_script") rfl rfl ⟨rfl,by decide,by decide⟩ (fun w h Y=>PySem.W.kIn_of Y) ?F
 case F =>
  intro w mg fa h KX G hmg
  have m_Op_falls:Mi.MtF (L2.KOf KX) mg "Op" "falls" "Op.falls" FK51.zde ["self"]:=by
   dsimp only [L2.KOf]
   refine' Mi.zmf KX G ?aC ?pg ?hd ?po ?sa ?a ?i ?l ?c ?k ?b
   case aC|pg|hd|po|sa|a|i|l|c|k=>k_is
   (case b=>exact fun _ _ _ _ _ _ us hl=>match us,hl with|[_],_=>rfl)
  have n_Op:Mi.NwF (L2.KOf KX) mg "Op" "Op.__init__" FK51.zdf ["self", "word"]:=by
   dsimp only [L2.KOf]
   refine' Mi.zmg KX G ?aC ?mk ?kc ?a ?i ?l ?c ?k ?b
   case aC|mk|kc|a|i|l|c|k=>k_is
   (case b=>exact fun _ _ _ _ _ _ us hl=>match us,hl with|[_,_],_=>rfl)
  have x_NoOp:Mi.XnF (L2.KOf KX) mg "NoOp" "word" "NoOp.__init__" FK51.zdg:=by
   dsimp only [L2.KOf]
   refine' Mi.zmi KX G ?aC ?hC ?hB ?hN ?he ?hi ?fn ?kp ?sa ?hcl ?hl ?no ?hd ?l ?c ?k ?b
   case aC|hC=>k_is
   (case hB=>k_exc)
   (case hN=>k_is)
   (case he=>first|rfl|with_unfolding_all rfl|simp)
   (case hi=>k_is)
   (case fn=>k_is)
   (case kp=>k_is)
   (case sa=>k_is)
   (case hcl=>k_is)
   (case hl=>rfl)
   (case no=>k_is)
   (case hd=>k_is)
   (case l=>k_is)
   (case c=>k_is)
   (case k=>k_is)
   (case b=>exact fun _ _ _ _ _ _ us hl=>match us,hl with|[_,_],_=>rfl)
  have ct_FALLING:∃a,mg "FALLING" = some (.ref a)/\∀ρ H,Mi.R (L2.KOf KX) mg ρ H (.tup (List.map Mi.PV.str FK51.ct_FALLING)) (.ref a):=by
   dsimp only [L2.KOf]
   refine' Mi.znr KX G ?a ?l ?z ?s
   case a|l=>k_is
   (case z=>rfl)
   (case s=>decide)
  have d_many:Mi.FldF (L2.KOf KX) mg "many" FK51.insOf FK51.excOf:=by
   refine ⟨fun c hc=>?_,fun c hc=>?_⟩
   ·simp [FK51.insOf,or_assoc] at hc
    rcases hc with rfl
    ·dsimp only [L2.KOf]
     refine' Mi.zff KX G ?aC ?pg ?hd ?po ?sa ?na
     case aC|pg|hd|po|sa|na=>k_is
   ·simp [FK51.excOf,or_assoc] at hc
    rcases hc with rfl
    ·dsimp only [L2.KOf]
     refine' Mi.zfg KX G ?aC ?ga ?hk ?hB ?hd ?no
     case aC|ga|hk|hB|hd|no=>k_is
  have d_word:Mi.FldF (L2.KOf KX) mg "word" FK51.insOf FK51.excOf:=by
   refine ⟨fun c hc=>?_,fun c hc=>?_⟩
   ·simp [FK51.insOf,or_assoc] at hc
    rcases hc with rfl
    ·dsimp only [L2.KOf]
     refine' Mi.zff KX G ?aC ?pg ?hd ?po ?sa ?na
     case aC|pg|hd|po|sa|na=>k_is
   ·simp [FK51.excOf,or_assoc] at hc
    rcases hc with rfl
    ·dsimp only [L2.KOf]
     refine' Mi.zfg KX G ?aC ?ga ?hk ?hB ?hd ?no
     case aC|ga|hk|hB|hd|no=>k_is
  have is:Mi.IsF (L2.KOf KX) mg FK51.isT:=by
   exact Mi.zmS rfl rfl rfl
  have kd_OPS:∀X:L2.Cx,X.K=(L2.KOf KX)->X.mg=mg->X.w=w->Mi.KdF X "OPS" FK51.zar FK51.zas FK51.zdh:=by
   dsimp only [L2.KOf]
   refine' Mi.zne KX G ?aO ?lO ?hk ?no rfl ?ks ?hi
   case aO|lO=>k_is
   case hk =>
    repeat (refine ⟨⟨_,_,rfl,rfl⟩,?_⟩)
    exact trivial
   (case no=>first|rfl|decide)
   (case ks=>first|rfl|decide|kernel_rfl)
   case hi =>
    simp only [FK51.zar,FK51.zas,List.zip_cons_cons,List.zip_nil_left]
    refine Mi.all_cons ?_ ?_
    ·refine' Mi.wm KX G ?e ?l1 ?l2 ?a
     case e|l1|l2|a=>k_is
    refine Mi.all_cons ?_ ?_
    ·refine' Mi.wm KX G ?e ?l1 ?l2 ?a
     case e|l1|l2|a=>k_is
    refine Mi.all_cons ?_ ?_
    ·refine' Mi.wm KX G ?e ?l1 ?l2 ?a
     case e|l1|l2|a=>k_is
    refine Mi.all_cons ?_ ?_
    ·refine' Mi.wm KX G ?e ?l1 ?l2 ?a
     case e|l1|l2|a=>k_is
    refine Mi.all_cons ?_ ?_
    ·refine' Mi.wm KX G ?e ?l1 ?l2 ?a
     case e|l1|l2|a=>k_is
    refine Mi.all_cons ?_ ?_
    ·refine' Mi.wm KX G ?e ?l1 ?l2 ?a
     case e|l1|l2|a=>k_is
    refine Mi.all_cons ?_ ?_
    ·refine' Mi.wm KX G ?e ?l1 ?l2 ?a
     case e|l1|l2|a=>k_is
    refine Mi.all_cons ?_ ?_
    ·refine' Mi.zbi KX G ?e ?l1 ?l2 ?a
     case e|l1|l2|a=>k_is
    refine Mi.all_cons ?_ ?_
    ·refine' Mi.zbi KX G ?e ?l1 ?l2 ?a
     case e|l1|l2|a=>k_is
    refine Mi.all_cons ?_ ?_
    ·refine' Mi.wm KX G ?e ?l1 ?l2 ?a
     case e|l1|l2|a=>k_is
    refine Mi.all_cons ?_ ?_
    ·refine' Mi.zbi KX G ?e ?l1 ?l2 ?a
     case e|l1|l2|a=>k_is
    refine Mi.all_cons ?_ ?_
    ·refine' Mi.zbi KX G ?e ?l1 ?l2 ?a
     case e|l1|l2|a=>k_is
    refine Mi.all_cons ?_ ?_
    ·refine' Mi.zbi KX G ?e ?l1 ?l2 ?a
     case e|l1|l2|a=>k_is
    refine Mi.all_cons ?_ ?_
    ·refine' Mi.wm KX G ?e ?l1 ?l2 ?a
     case e|l1|l2|a=>k_is
    refine Mi.all_cons ?_ ?_
    ·refine' Mi.zf3 KX G ?e ?l1 ?l2 ?a
     case e|l1|l2|a=>k_is
    refine Mi.all_cons ?_ ?_
    ·refine' Mi.wm KX G ?e ?l1 ?l2 ?a
     case e|l1|l2|a=>k_is
    refine Mi.all_cons ?_ ?_
    ·refine' Mi.zf3 KX G ?e ?l1 ?l2 ?a
     case e|l1|l2|a=>k_is
    exact Mi.zmj
  have T:FK51.Txt w (L2.KOf KX) mg:=by
   constructor
   case m_Op_falls=>exact m_Op_falls
   case n_Op=>exact n_Op
   case x_NoOp=>exact x_NoOp
   case ct_FALLING=>exact ct_FALLING
   case d_many=>exact d_many
   case d_word=>exact d_word
   case is=>exact is
   case kd_OPS=>exact kd_OPS
   all_goals first
    | (show Mi.FnF _ _ _ _ [_];dsimp only [L2.KOf];refine' Mi.zbh KX G ?a ?l ?c ?k ?b;(case a|l|c|k=>k_is);(case b=>exact fun _ _ _ _ _ _ us hl=>match us,hl with|[_],_=>rfl))
    | (show Mi.FnF _ _ _ _ [_,_];dsimp only [L2.KOf];refine' Mi.zbh KX G ?a ?l ?c ?k ?b;(case a|l|c|k=>k_is);(case b=>exact fun _ _ _ _ _ _ us hl=>match us,hl with|[_,_],_=>rfl))
    | (show Mi.FnF _ _ _ _ [_,_,_];dsimp only [L2.KOf];refine' Mi.zbh KX G ?a ?l ?c ?k ?b;(case a|l|c|k=>k_is);(case b=>exact fun _ _ _ _ _ _ us hl=>match us,hl with|[_,_,_],_=>rfl))
    | (show Mi.FnF _ _ _ _ [_,_,_,_];dsimp only [L2.KOf];refine' Mi.zbh KX G ?a ?l ?c ?k ?b;(case a|l|c|k=>k_is);(case b=>exact fun _ _ _ _ _ _ us hl=>match us,hl with|[_,_,_,_],_=>rfl))
    | (show Mi.FnF _ _ _ _ [_,_,_,_,_,_];dsimp only [L2.KOf];refine' Mi.zbh KX G ?a ?l ?c ?k ?b;(case a|l|c|k=>k_is);(case b=>exact fun _ _ _ _ _ _ us hl=>match us,hl with|[_,_,_,_,_,_],_=>rfl))
    | (refine' Mi.zml KX G ?a;case a=>k_is)
  exact Mi.zmk T.f_law hmg (fun _ _ _ _ _ _ _=>rfl) (fun f fd F base=>FK51.zpr T F) (fun ns _=>FK51.zqj ns))
