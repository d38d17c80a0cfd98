import PyProof.Rows.All
import Wide.All
import OpenK.AllK
import Wide.FinOn
import Lean
import PyProof.EqAt
import PyProof.EqKinds
import PyProof.TupleCall
import PySem.Challenge.RW_foreknown_k52_roots_are_where_pieces_com
set_option Elab.async false
set_option linter.all false
set_option maxRecDepth 100000
abbrev Aa:=PySem.Value->PySem.Shared->Prop
abbrev Ab:=PySem.Str->Option PySem.Value
abbrev Ac:=List (PySem.Addr×PySem.Obj)
abbrev Ad:=List PySem.Str
abbrev Ae:=List PySem.Addr
abbrev Af:=List PySem.Value
def zq:=@PySem.wpAny_bind
def z7:=@PySem.Heap.get?_push_of_some
def zE:=@PySem.wpAny_pure
def zY:=@PySem.Heap.lt_size
def yR:=@PySem.Heap.get?_push_size
def jU:=@PySem.wpAny_field
def j7:=@PySem.wpAny_call_entry
def wt:=@PySem.wpAny_newObj_type
def jo:=@PySem.wpAny_holding
def yS:=@PySem.wpAny_mono
def jV:=@PySem.Heap.get?_update_other
def wu:=@PySem.wpAny_truthy_bool
def wv:=@PySem.lookup_relabel_local
def zK:=@List.getElem?_eq_getElem
def y0:=@List.getElem?_set_ne
def yf:=@List.getElem?_eq_some_iff
def yW:=@List.getElem?_set_self
def zI:=@Nat.le_refl
def yr:=@List.size_toArray
def yL:=@List.mem_cons_self
def y9:=@List.mem_cons_of_mem
def yb:=@List.mem_append_right
def jI:=@List.mem_append_left
def zw:=@if_pos
def zC:=@if_neg
def jh:=@List.mem_singleton
def jp:=@List.getElem?_map
def yv:=@List.mem_cons
def jc:=@List.drop_eq_getElem_cons
def yM:=@Nat.le_trans
def jJ:=@List.getElem_mem
def jW:=@List.length_append
def jX:=@if_true
def yX:=@Nat.zero_le
def jY:=@List.mem_of_getElem?
def ji:=@List.length_map
def i_:=@List.map_append
def y1:=@Nat.lt_of_lt_of_le
def yC:=@List.map_cons
def yt:=@Nat.ne_of_lt
def jZ:=@List.getElem_of_mem
def j0:=@Bool.and_eq_true
def jw:=@List.mem_map
def j1:=@List.mem_append
def jx:=@List.length_cons
def ja:=@List.nodup_cons
def jj:=@List.getElem?_append_left
def jd:=@List.getElem?_append_right
def yA:=@decide_eq_false
def je:=@decide_eq_true
def jK:=@Nat.mod_lt
def ww:=@List.drop_of_length_le
def jf:=@List.lookup_cons
def iD:=@List.getElem?_eq_none
def iE:=@List.getElem?_eq_none_iff
def iF:=@List.append_assoc
def wM:=@List.mem_range
def wx:=@decide_eq_true_eq
def y3:=@Ne.symm
def jq:=@Nat.lt_succ_self
namespace L2
open PySem PySem.Spec PyProof.Rows
abbrev Key:=Sum Int Str
def cK:Key->Value->Bool
 | .inl k,v=>Value.isInt k v
 | .inr x,v=>Value.isStrOf x v
def q_ (w:World):Key->Int
 | .inl k=>hashInt k
 | .inr x=>hashStr w x
def jy:∀{k:Key}{v:Value},cK k v=true->(∃i t,k=Sum.inl i/\v=Value.int i t)\/(∃x t,k=Sum.inr x/\v=Value.str x t)
 | .inl i,v,h=>by
  obtain ⟨t,e⟩:=Value.isInt_shape (k:=i) (v:=v) h
  exact .inl ⟨i,t,rfl,e⟩
 | .inr x,v,h=>by
  obtain ⟨t,e⟩:=Value.isStrOf_shape (x:=x) (v:=v) h
  exact .inr ⟨x,t,rfl,e⟩
def AK (i:Int) (t:Tok):cK (.inl i) (.int i t)=true:=by simp [cK,Value.isInt]
def AL (x:Str) (t:Tok):cK (.inr x) (.str x t)=true:=by simp [cK,Value.isStrOf]
def AO (a b:Int):decide ((Sum.inl a:Key)=Sum.inl b)=(a==b):=by
 by_cases e:a=b
 ·subst e;simp
 ·have h:¬(Sum.inl a:Key)=Sum.inl b:=λq=>e (Sum.inl.inj q)
  rw [yA h]
  exact (beq_eq_false_iff_ne.mpr e).symm
def AQ (a b:Str):decide ((Sum.inr a:Key)=Sum.inr b)=decide (a=b):=by
 by_cases e:a=b
 ·subst e;simp
 ·have h:¬(Sum.inr a:Key)=Sum.inr b:=λq=>e (Sum.inr.inj q)
  rw [yA h,yA e]
def AR (a:Int) (b:Str):decide ((Sum.inl a:Key)=Sum.inr b)=false:=yA (λq=>nomatch q)
def AU (a:Str) (b:Int):decide ((Sum.inr a:Key)=Sum.inl b)=false:=yA (λq=>nomatch q)
def a0 (prog:Program) (w:World):PySem.KeyKind prog w Key where
 is:=cK
 hash:=q_ w
 inj:=λv a b ha hb=>by
  rcases jy ha with ⟨i,t,rfl,rfl⟩|⟨x,t,rfl,rfl⟩
  ·rcases jy hb with ⟨j,u,rfl,e⟩|⟨y,u,rfl,e⟩
   ·injection e with e1 _;rw [e1]
   ·exact nomatch e
  ·rcases jy hb with ⟨j,u,rfl,e⟩|⟨y,u,rfl,e⟩
   ·exact nomatch e
   ·injection e with e1 _;rw [e1]
 byValue:=λk v h=>by
  rcases jy h with ⟨i,t,rfl,rfl⟩|⟨x,t,rfl,rfl⟩<;>rfl
 pyHash:=λhv h=>by
  rcases jy hv with ⟨i,t,rfl,rfl⟩|⟨x,t,rfl,rfl⟩
  ·exact wpAny_pyHash_int h
  ·exact wpAny_pyHash_str h
 eqBool:=λhu hv h=>by
  rcases jy hu with ⟨i,t,rfl,rfl⟩|⟨x,t,rfl,rfl⟩
  ·rcases jy hv with ⟨j,u,rfl,rfl⟩|⟨y,u,rfl,rfl⟩
   ·rw [AO] at h;exact wpAny_eqBool_int h
   ·rw [AR] at h;exact SeqAt.EqAt.int_str i t y u _ _ _ _ h
  ·rcases jy hv with ⟨j,u,rfl,rfl⟩|⟨y,u,rfl,rfl⟩
   ·rw [AU] at h;exact SeqAt.EqAt.str_int x t j u _ _ _ _ h
   ·rw [AQ] at h;exact wpAny_eqBool_str h
 «strs» := λk x t v h=>by
  rcases jy h with ⟨i,u,rfl,e⟩|⟨y,u,rfl,e⟩
  ·exact nomatch e
  ·injection e with e1 _
   subst e1
   cases v<;>rfl
def AV (prog:Program) (w:World) (i:Int) (t:Tok):(a0 prog w).is (.inl i) (.int i t)=true:=AK i t
def AW (prog:Program) (w:World) (x:Str) (t:Tok):(a0 prog w).is (.inr x) (.str x t)=true:=AL x t
inductive V where
 | non|bl (b:Bool)|int (i:Int)|str (x:Str)|byt (b:Array UInt8)|flt (b:UInt64)|ref (a:Addr)|ty (n:String)
 deriving DecidableEq
def RelV:V->Value->Prop
 | .non,u=>u=Value.none
 | .bl b,u=>u=Value.bool b
 | .int i,u=>∃t,u=Value.int i t
 | .str x,u=>∃t,u=Value.str x t
 | .byt b,u=>∃t,u=Value.bytes b t
 | .flt b,u=>∃t,u=Value.float b t
 | .ref a,u=>u=Value.ref a
 | .ty n,u=>u=Value.type n
abbrev Vals:List V->List Value->Prop:=Paired RelV
def Vals.length {xs:List V}{us:Af}(r:Vals xs us):xs.length=us.length:=Paired.length r
def Vals.get:∀{xs:List V}{us:Af}{i:Nat}{x:V},Vals xs us->xs[i]?=some x->∃u,us[i]?=some u/\RelV x u
 | _,_,_,_,.nil,e=>by simp at e
 | _,_,0,_,.cons r _,e=>by simp at e;subst e;exact ⟨_,rfl,r⟩
 | _,_,i+1,x,.cons _ t,e=>by
  obtain ⟨u,h1,h2⟩:=Vals.get (i:=i) (x:=x) t (by simpa using e)
  exact ⟨u,by simpa using h1,h2⟩
def Vals.append:∀{xs ys:List V}{us ws:Af},Vals xs us->Vals ys ws->Vals (xs++ys) (us++ws)
 | _,_,_,_,.nil,s=>s
 | _,_,_,_,.cons r t,s=>.cons r (Vals.append t s)
def Vals.take:∀{xs:List V}{us:Af}(n:Nat),Vals xs us->Vals (xs.take n) (us.take n)
 | _,_,0,_=>.nil
 | _,_,_+1,.nil=>.nil
 | _,_,n+1,.cons r t=>.cons r (Vals.take n t)
def Vals.drop:∀{xs:List V}{us:Af}(n:Nat),Vals xs us->Vals (xs.drop n) (us.drop n)
 | _,_,0,r=>r
 | _,_,_+1,.nil=>.nil
 | _,_,n+1,.cons _ t=>Vals.drop n t
def bO:Option V->Option Value->Prop
 | some v,some u=>RelV v u
 | none,none=>True
 | _,_=>False
def KV {κ:Type}:List (κ×V)->List (κ×Value)->Prop:=Paired λ(p:κ×V) (q:κ×Value)=>p.1=q.1/\RelV p.2 q.2
def kV:Key->V
 | .inl i=>.int i
 | .inr x=>.str x
inductive HO where
 | lst (xs:List V)
 | tup (xs:List V)
 | dK (kvs:List (Key×V))|dT (kvs:List (List Key×V))
 | set (S:Int->Bool) (n:Nat)
 | ins (C dx:Addr) (fs:List (Str×V))
 | own (x:Addr)
 | xd (fs:List (Str×V))
 | met (f x:Addr)
 | rng (lo hi:Int)
 | frz (o:Obj) (u:HO)
 | tbl (ps:Array Value)
 | ext (φ:Program->World->Heap->Prop)
abbrev Hp:=Addr->Option HO
def upd (H:Hp) (a:Addr) (o:HO):Hp:=λb=>if b=a then some o else H b
def yx {H:Hp}{a:Addr}{o:HO}:upd H a o a=some o:=by unfold upd;rw [zw rfl]
def zF {H:Hp}{a b:Addr}{o:HO}(h:b≠a):upd H a o b=H b:=by unfold upd;rw [zC h]
def AX {H:Hp}{a b:Addr}{o u:HO}(h:H a=some o) (h':H b=some u) (d:o≠u):a≠b:=by
 intro e;subst e;rw [h] at h';exact d (Option.some.inj h')
def jL {H:Hp}{a b:Addr}{o:HO}(h:H a=some o) (h':H b=none):a≠b:=by
 intro e;subst e;rw [h] at h';cases h'
section
variable (P:Program) (w:World)
def aX (H:Hp) (h:Heap) (a:Addr):HO->Prop
 | .lst xs=>xs.length<=sizeLine/\∃(its:Af) (n:Nat),Vals xs its/\h.get? a=some { cls:=.type "list", data:=.seq its.toArray n }
 | .tup xs=>xs.length<=sizeLine/\∃its:Af,Vals xs its/\IsTup h a its.toArray
 | .dK kvs=>kvs.length<=sizeLine/\(a==sysModules)=false/\∃vs,KV kvs vs/\h.DictOf (a0 P w) a vs
 | .dT kvs=>kvs.length<=sizeLine/\(a==sysModules)=false/\∃xs:List (List Key×Addr×Value),
   Paired (λ(p:List Key×V) (q:List Key×Addr×Value)=>p.1=q.1/\H q.2.1=some (.tup (p.1.map kV))/\RelV p.2 q.2.2) kvs xs /\
   ∃o es ep,h.get? a=some o/\o.ExactDict/\o.data=.dict es ep/\es.toList=xs.map (entryOfKey (tupleKind (a0 P w)))/\(xs.map (·.1)).Nodup
 | .set S n=>h.SetOf (intKind P w) a S n
 | .ins C dx fs=>H dx=some (.own a)/\fs.length<=1000/\dx≠a/\h.get? a=some (PySem.W.instObj C dx) /\
   ∃mA,h.Ns1 dx mA/\(∀f,bO (fs.lookup f) (mA f))/\PySem.Within mA (fs.map (·.1))
 | .own _=>∃o,h.get? a=some o
 | .xd fs=>∃mA,h.Ns1 a mA/\∀f,bO (fs.lookup f) (mA f)
 | .rng lo hi=>∃t u v,h.get? a=some { cls:=.type "range", data:=.fields #[.int lo t,.int hi u,.int 1 v] }
 | .frz o u=>h.get? a=some o/\aX H h a u
 | .tbl ps=>h.get? a=some { cls:=.none,data:=.fields ps }
 | .met f x=>h.get? a=some (PySem.W.methodObj (.ref f) (.ref x))
 | .ext φ=>φ P w h/\(∃o,h.get? a=some o)/\∀h1 h2:Heap,φ P w h1->(∀o,h1.get? a=some o->h2.get? a=some o)->φ P w h2
def bA (H:Hp) (h:Heap):Prop:=∀a o,H a=some o->aX P w H h a o
end
section
variable {P:Program}{w:World}{H H':Hp}{h h':Heap}{a:Addr}{o:HO}
def aX.lt (x:aX P w H h a o):a<h.objs.size:=by
 cases o with
 | lst xs=>obtain ⟨_,_,_,_,e⟩:=x;exact zY e
 | tup xs=>obtain ⟨_,_,_,p⟩:=x;exact p.lt
 | dK kvs=>obtain ⟨_,_,_,_,o,_,_,e,_⟩:=x;exact zY e
 | dT kvs=>obtain ⟨_,_,_,_,o,_,_,e,_⟩:=x;exact zY e
 | set S n=>obtain ⟨o,_,_,_,e,_⟩:=x;exact zY e
 | ins C dx fs=>obtain ⟨_,_,_,e,_⟩:=x;exact zY e
 | own y=>obtain ⟨_,e⟩:=x;exact zY e
 | xd fs=>obtain ⟨_,⟨_,_,_,e,_⟩,_⟩:=x;exact zY e
 | rng lo hi=>obtain ⟨_,_,_,e⟩:=x;exact zY e
 | frz ob u=>obtain ⟨e,_⟩:=x;exact zY e
 | tbl ps=>exact zY (show h.get? a=some _ from x)
 | met f y=>exact zY (show h.get? a=some _ from x)
 | ext φ=>obtain ⟨_,⟨_,e⟩,_⟩:=x;exact zY e
def Paired.mapP {α β:Type}{F G:α->β->Prop}:∀{aG:List α}{aH:List β},Paired F aG aH->(∀a b,F a b->G a b)->Paired G aG aH
 | _,_,.nil,_=>.nil
 | _,_,.cons r t,f=>.cons (f _ _ r) (Paired.mapP t f)
def aX.stay (x:aX P w H h a o) (k:∀b u,(b=a\/H b=some (.own a))->h.get? b=some u->h'.get? b=some u)
  (ho:∀b,H b=some (.own a)->H' b=some (.own a)) (ht:∀b xs,H b=some (.tup xs)->H' b=some (.tup xs)):aX P w H' h' a o:=by
 induction o with
 | lst xs=>obtain ⟨z,its,n,r,e⟩:=x;exact ⟨z,its,n,r,k _ _ (.inl rfl) e⟩
 | tup xs=>obtain ⟨z,its,r,ob,e,c⟩:=x;exact ⟨z,its,r,ob,k _ _ (.inl rfl) e,c⟩
 | dK kvs=>obtain ⟨z,y,vs,r,ob,es,ep,e,c⟩:=x;exact ⟨z,y,vs,r,ob,es,ep,k _ _ (.inl rfl) e,c⟩
 | dT kvs =>
  obtain ⟨z,y,xs,r,ob,es,ep,e,c⟩:=x
  exact ⟨z,y,xs,Paired.mapP r λp q z=>⟨z.1,ht _ _ z.2.1,z.2.2⟩,ob,es,ep,k _ _ (.inl rfl) e,c⟩
 | set S n=>obtain ⟨ob,es,ep,t,e,c⟩:=x;exact ⟨ob,es,ep,t,k _ _ (.inl rfl) e,c⟩
 | ins C dx fs =>
  obtain ⟨d,z,ne,e,mA,⟨od,es,ep,e2,c⟩,r⟩:=x
  exact ⟨ho _ d,z,ne,k _ _ (.inl rfl) e,mA,⟨od,es,ep,k _ _ (.inr d) e2,c⟩,r⟩
 | own y=>obtain ⟨ob,e⟩:=x;exact ⟨ob,k _ _ (.inl rfl) e⟩
 | xd fs=>obtain ⟨mA,⟨od,es,ep,e,c⟩,r⟩:=x;exact ⟨mA,⟨od,es,ep,k _ _ (.inl rfl) e,c⟩,r⟩
 | rng lo hi=>obtain ⟨t,u,v,e⟩:=x;exact ⟨t,u,v,k _ _ (.inl rfl) e⟩
 | frz ob u ih=>obtain ⟨e,q⟩:=x;exact ⟨k _ _ (.inl rfl) e,ih q⟩
 | tbl ps =>
  have e:h.get? a=some { cls:=.none,data:=.fields ps }:=x
  show h'.get? a=some { cls:=.none,data:=.fields ps }
  exact k a _ (.inl rfl) e
 | met f y =>
  have e:h.get? a=some (PySem.W.methodObj (.ref f) (.ref y)):=x
  show h'.get? a=some (PySem.W.methodObj (.ref f) (.ref y))
  exact k a _ (.inl rfl) e
 | ext φ=>obtain ⟨p,⟨o,e⟩,st⟩:=x;exact ⟨st _ _ p λo q=>k _ _ (.inl rfl) q,⟨o,k _ _ (.inl rfl) e⟩,st⟩
def bA.lt (x:bA P w H h) (e:H a=some o):a<h.objs.size:=(x a o e).lt
def bA.fresh (x:bA P w H h) (e:h.objs.size<=a):H a=none:=by
 cases q:H a with
 | none=>rfl
 | some u=>exact absurd (y1 (x.lt q) e) (Nat.lt_irrefl _)
def bA.kept (x:bA P w H h) (k:∀b u,h.get? b=some u->h'.get? b=some u):bA P w H h':=λa o e =>
 (x a o e).stay (λb u _ q=>k b u q) (λ_ q=>q) λ_ _ q=>q
def bA.laid (x:bA P w H h) (k:∀b u,h.get? b=some u->h'.get? b=some u) (hp:h.objs.size<=a) (new:aX P w (upd H a o) h' a o):bA P w (upd H a o) h':=λb u e=>by
 have hn:=x.fresh hp
 by_cases hb:b=a
 ·subst hb;rw [yx] at e;cases e;exact new
 ·rw [zF hb] at e
  exact (x b u e).stay (λc v _ q=>k c v q) (λc q=>by rw [zF (jL q hn)];exact q) λc xs q=>by rw [zF (jL q hn)];exact q
end
def Rd (H:Hp) (a:Addr) (u:HO):Prop:=H a=some u\/∃o,H a=some (.frz o u)
def Rd.ok {P:Program}{w:World}{H:Hp}{h:Heap}{a:Addr}{u:HO}(r:Rd H a u) (x:bA P w H h):aX P w H h a u:=by
 rcases r with r|⟨o,r⟩
 ·exact x a u r
 ·obtain ⟨_,q⟩:=x a _ r
  exact q
def iG:Option HO->Prop
 | some (.lst _)=>True
 | some (.dK _)=>True
 | some (.dT _)=>True
 | some (.set _ _)=>True
 | some (.ins _ _ _)=>True
 | some (.ext _)=>True
 | _=>False
section
variable {P:Program}{w:World}{H:Hp}{h h':Heap}{x e:Addr}{o':HO}
def bA.write (ok:bA P w H h) (mu:iG (H x)) (he:e=x\/H e=some (.own x)) (k:∀b u,b≠e->h.get? b=some u->h'.get? b=some u) (iH:∃u,h'.get? e=some u)
  (new:aX P w (upd H x o') h' x o'):bA P w (upd H x o') h':=λb u q=>by
 have nY:∀c y,H c=some (.own y)->c≠x:=λc y r z=>by subst z;rw [r] at mu;exact mu
 have rd:∀c xs,H c=some (.tup xs)->c≠x:=λc xs r z=>by subst z;rw [r] at mu;exact mu
 by_cases hb:b=x
 ·subst hb;rw [yx] at q;cases q;exact new
 ·rw [zF hb] at q
  by_cases hbe:b=e
  ·have q':H b=some (.own x):=by
    rcases he with z|z
    ·exact absurd (hbe.trans z) hb
    ·rw [hbe];exact z
   rw [q] at q';cases q'
   obtain ⟨v,hv⟩:=iH
   exact ⟨v,by rw [hbe];exact hv⟩
  ·refine (ok b u q).stay (λc v hc r=>k c v ?_ r) (λc r=>by rw [zF (nY c b r)];exact r) λc xs r=>by rw [zF (rd c xs r)];exact r
   rcases hc with rfl|hc
   ·exact hbe
   ·rintro rfl
    rcases he with z|z
    ·exact nY c b hc z
    ·rw [hc] at z;cases z;exact hb rfl
end
structure Un (fs ex:Ae) (H H':Hp) (h h':Heap):Prop where
 keep:∀b o,h.get? b=some o->H b=none->b∉fs->b∉ex->h'.get? b=some o
 slot:∀b o,h.get? b=some o->H b=none->b∈fs->b∉ex->∃sl,h'.get? b=some { o with slots:=sl }
 free:∀b o,h.get? b=some o->H b=none->b∉ex->H' b=none
 there:∀b o,h.get? b=some o->b∉ex->∃o',h'.get? b=some o'
 tups:∀b xs,H b=some (.tup xs)->H' b=some (.tup xs)
 frzs:∀b o u,H b=some (.frz o u)->H' b=some (.frz o u)
 tbls:∀b ps,H b=some (.tbl ps)->∃more,H' b=some (.tbl (ps++more))
section
variable {fs AY ex Kt:Ae}{H H1 H2:Hp}{h h1 h2 h':Heap}{a x e:Addr}{o:HO}
def Un.any (u:Un fs ex H H1 h h1) {b:Addr}{ob:Obj}(q:h.get? b=some ob) (n:H b=none) (hx:b∉ex):∃sl,h1.get? b=some { ob with slots:=sl }:=by
 by_cases hb:b∈fs
 ·exact u.slot b ob q n hb hx
 ·exact ⟨ob.slots,u.keep b ob q n hb hx⟩
def Un.trans (a:Un fs ex H H1 h h1) (b:Un fs ex H1 H2 h1 h2):Un fs ex H H2 h h2 where
 keep:=λc ob q n hc hx=>b.keep c ob (a.keep c ob q n hc hx) (a.free c ob q n hx) hc hx
 slot:=λc ob q n hc hx=>by
  obtain ⟨sl,e1⟩:=a.slot c ob q n hc hx
  obtain ⟨lS,e2⟩:=b.slot c _ e1 (a.free c ob q n hx) hc hx
  exact ⟨lS,e2⟩
 free:=λc ob q n hx=>by
  obtain ⟨o',e1⟩:=a.there c ob q hx
  exact b.free c o' e1 (a.free c ob q n hx) hx
 there:=λc ob q hx=>by
  obtain ⟨o',e1⟩:=a.there c ob q hx
  exact b.there c o' e1 hx
 tups:=λc xs q=>b.tups c xs (a.tups c xs q)
 frzs:=λc ob xs q=>b.frzs c ob xs (a.frzs c ob xs q)
 tbls:=λc ps q=>by
  obtain ⟨m1,e1⟩:=a.tbls c ps q
  obtain ⟨m2,e2⟩:=b.tbls c _ e1
  exact ⟨m1++m2,by rw [e2,Array.append_assoc]⟩
def Un.kept (k:∀b u,h.get? b=some u->h'.get? b=some u):Un fs ex H H h h' :=
 ⟨λb ob q _ _ _=>k b ob q,λb ob q _ _ _=>⟨ob.slots,k b ob q⟩,λ_ _ _ n _=>n,λb ob q _=>⟨ob,k b ob q⟩,λ_ _ q=>q,λ_ _ _ q=>q,λ_ ps q=>⟨#[],by rw [q];simp⟩⟩
def Un.refl:Un fs ex H H h h:=Un.kept λ_ _ q=>q
def Un.laid (k:∀b u,h.get? b=some u->h'.get? b=some u) (hp:h.objs.size<=a) (hn:H a=none):Un fs ex H (upd H a o) h h' where
 keep:=λb u q _ _ _=>k b u q
 slot:=λb u q _ _ _=>⟨u.slots,k b u q⟩
 free:=λb u q n _=>by rw [zF (yt (y1 (zY q) hp))];exact n
 there:=λb u q _=>⟨u,k b u q⟩
 tups:=λb xs q=>by rw [zF (jL q hn)];exact q
 frzs:=λb u xs q=>by rw [zF (jL q hn)];exact q
 tbls:=λb ps q=>⟨#[],by rw [zF (jL q hn),q];simp⟩
def Un.write (mu:iG (H x)) (he:e=x\/H e=some (.own x)) (k:∀b u,b≠e->h.get? b=some u->h'.get? b=some u) (iH:∃u,h'.get? e=some u):Un fs ex H (upd H x o) h h':=by
 have hx:∀b,H b=none->b≠x:=λb n z=>by subst z;rw [n] at mu;exact mu
 have hb:∀b,H b=none->b≠e:=λb n z=>by
  subst z
  rcases he with r|r
  ·exact hx b n r
  ·rw [n] at r;cases r
 have hm:∀b u,H b=some u->¬iG (some u)->b≠x:=λb u q nm z=>by subst z;rw [q] at mu;exact nm mu
 refine ⟨λb u q n _ _=>k b u (hb b n) q,λb u q n _ _=>⟨u.slots,k b u (hb b n) q⟩,λb u q n _=>by rw [zF (hx b n)];exact n,λb u q _=>?_,
  λb xs q=>by rw [zF (hm b _ q λz=>z)];exact q,λb u xs q=>by rw [zF (hm b _ q λz=>z)];exact q,λb ps q=>⟨#[],by rw [zF (hm b _ q λz=>z),q];simp⟩⟩
 by_cases hbe:b=e
 ·subst hbe;exact iH
 ·exact ⟨u,k b u hbe q⟩
end
def lT (h:Heap) (H:Hp):Ae:=(List.range h.objs.size).filter λa=>(H a).isSome
def dF (h:Heap) (H:Hp):Heap:=PySem.W.hideAll h (lT h H)
def AZ (h:Heap) (H:Hp):(dF h H).objs.size=h.objs.size:=PySem.W.hideAll_size _ _
def A0 {h:Heap}{H:Hp}{b:Addr}{o:Obj}(e:h.get? b=some o) (n:H b=none):(dF h H).get? b=some o :=
 PySem.W.hideAll_get _ e λhm=>by
  have q:(H b).isSome=true:=(List.mem_filter.mp hm).2
  rw [n] at q;simp at q
def A1 {h:Heap}{H:Hp}{b:Addr}{o:Obj}(e:(dF h H).get? b=some o):h.get? b=some o/\H b=none:=by
 have e':h.get? b=some o:=PySem.W.of_hideAll (lT h H) e
 refine ⟨e',?_⟩
 cases q:H b with
 | none=>rfl
 | some x =>
  have hm:b∈lT h H:=List.mem_filter.mpr ⟨wM.mpr (zY e'),by simp [q]⟩
  have z:(dF h H).get? b=none:=PySem.W.hideAll_none (lT h H) hm
  rw [z] at e;cases e
def j_ (g h:Heap) (L:Addr):Ac:=(List.range h.objs.size).filterMap λa=>if a=L\/(g.get? a).isSome=true then none else (h.get? a).map λo=>(a,o)
def rest (g h:Heap) (L d:Addr):Ac:=(j_ g h L).filter λp=>decide (p.1≠d)
structure Mod (K:PySem.W.Frag) (mg:Ab) (base:Heap):Prop where
 kin:K.In base
 glob:base.Ns mainGlobals mg
 blt:∃mb,base.Ns builtinsNs mb/\∀x:Str,x ≠ "__name__" -> mb x=bootBuiltins x
 nolimit:base.NoLimit
structure Cx where
 prog:Program
 w:World
 K:PySem.W.Frag
 mg:Ab
 base:Heap
 A:Around
 N:Ad
 s₀:Shared
 H₀:Hp
 env:Env
 outer:List Env
 stack:List Env
 ex:Ae
 fn:Str->Bool
 calm:Bool
 pn:Ac
 xe:Aa
def b_ (l:List Env):Ae:=l.filterMap (·.frame)
abbrev Cx.fs (X:Cx):Ae:=b_ X.outer
def lU (sc:Scope) (x:Str):Prop:=sc.names.lookup x=some .local\/sc.names.lookup x=some .cell\/sc.names.lookup x=some .free
def Loc (sc:Scope) (x:Str):Prop:=sc.names.lookup x=some .local\/sc.names.lookup x=some .cell
def Look (env:Env) (h:Heap) (m:Ab) (x:Str) (u:Value):Prop :=
 (env.kindOf x=some .local/\m x=some u)\/((env.kindOf x=some .cell\/env.kindOf x=some .free)/\∃c,env.cells.lookup x=some c/\h.IsCell c (some u))
structure Cx.Ok (X:Cx):Prop where
 mod:Mod X.K X.mg X.base
 kind:X.env.scope.kind=.function
 glob:X.env.globals=mainGlobals
 blt:X.env.builtins=builtinsNs
 above:X.s₀.heap.objs.size<=X.env.locals
 inj:∀x y c,X.env.cells.lookup x=some c->X.env.cells.lookup y=some c->x=y
 has:∀x,(X.env.kindOf x=some .cell\/X.env.kindOf x=some .free)->∃c,X.env.cells.lookup x=some c
 cab:∀x c,X.fn x=true->X.env.cells.lookup x=some c->X.s₀.heap.objs.size<=c
 hd:X.calm=true->X.A.handled=none
 frames:X.A.frames=some X.stack
 stk:X.stack=X.outer\/(X.stack=X.env::X.outer/\X.env.frame=some X.env.locals)
 exf:∀b∈X.ex,b≠X.env.locals/\∀x c,X.env.cells.lookup x=some c->c≠b
 bs:∀b o,X.base.get? b=some o->X.s₀.heap.get? b=some o/\X.H₀ b=none
 bsz:X.base.objs.size<=X.s₀.heap.objs.size
 noex:∀b o,X.base.get? b=some o->b∉X.ex
 exfs:∀b∈X.ex,b∉X.fs
 funs:X.s₀.heap.FunFrames X.base X.outer
 frf:∀b∈X.fs,X.H₀ b=none
structure Inv (X:Cx) (pins:Ac) (U:List (Option V)) (H:Hp) (s:Shared):Prop where
 ok:X.Ok
 os:s.os=X.s₀.os
 bare:AllBare s.gens
 base:Un X.fs X.ex X.H₀ H X.s₀.heap s.heap
 loc:∃m,s.heap.Ns X.env.locals m/\∀(i:Nat) (x:Str) (v:V),X.N[i]?=some x->U[i]?=some (some v)->lU X.env.scope x->∃u,RelV v u/\Look X.env s.heap m x u
 cell:∀x c,X.env.cells.lookup x=some c->∃v,s.heap.IsCell c v
 free:H X.env.locals=none
 freeC:∀x c,X.env.cells.lookup x=some c->H c=none
 pin:∀p∈X.pn++pins,s.heap.get? p.1=some p.2/\H p.1=none/\p.1≠X.env.locals/\p.1∉X.fs/\∀v,p.2.data ≠ .cell v
 hok:bA X.prog X.w H s.heap
 len:U.length=X.N.length
section
variable {X:Cx}{pins:Ac}{U:List (Option V)}{H H':Hp}{s:Shared}{h':Heap}
def Cx.Ok.nofr (ok:X.Ok) {b:Addr}{o:Obj}(e:X.base.get? b=some o):b∉X.fs:=λhb=>by
 have:=(ok.funs.mem hb).1
 rw [e] at this;cases this
def Inv.bs (I:Inv X pins U H s):∀b o,X.base.get? b=some o->s.heap.get? b=some o/\H b=none:=λb o e =>
 ⟨I.base.keep b o (I.ok.bs b o e).1 (I.ok.bs b o e).2 (I.ok.nofr e) (I.ok.noex b o e),I.base.free b o (I.ok.bs b o e).1 (I.ok.bs b o e).2 (I.ok.noex b o e)⟩
def Inv.bk (I:Inv X pins U H s):∀b o,X.base.get? b=some o->s.heap.get? b=some o:=λb o e=>(I.bs b o e).1
def Inv.mod (I:Inv X pins U H s):Mod X.K X.mg X.base:=I.ok.mod
def Inv.kIn (I:Inv X pins U H s):X.K.In s.heap:=I.ok.mod.kin.keeps I.bk
def Inv.fr (I:Inv X pins U H s):∃m,Fr X.base X.env.locals s.heap m :=
 let ⟨m,hn,_⟩:=I.loc
 ⟨m,hn,I.bk,yM I.ok.bsz I.ok.above⟩
def Inv.lt (I:Inv X pins U H s):X.env.locals<s.heap.objs.size:=let ⟨_,hn,_⟩:=I.loc;hn.lt
def Inv.sz (I:Inv X pins U H s):X.s₀.heap.objs.size<=s.heap.objs.size:=yM I.ok.above (Nat.le_of_lt I.lt)
def Inv.nofs (I:Inv X pins U H s) {a:Addr}(h:s.heap.objs.size<=a):a∉X.fs:=λhb=>by
 obtain ⟨_,o,ho,_⟩:=I.ok.funs.mem hb
 exact absurd (y1 (zY ho) (yM I.sz h)) (Nat.lt_irrefl _)
def Inv.cne (I:Inv X pins U H s):∀x c,X.env.cells.lookup x=some c->c≠X.env.locals:=λx c e z=>by
 obtain ⟨v,o,ho,hd⟩:=I.cell x c e
 obtain ⟨m,⟨o',es,ep,ho',eD,_⟩,_⟩:=I.loc
 rw [z,ho'] at ho;cases ho;rw [eD] at hd;cases hd
def Inv.funs (I:Inv X pins U H s):s.heap.FunFrames X.base X.outer:=by
 have all:∀(l:List Env),(∀b∈b_ l,b∈X.fs)->X.s₀.heap.FunFrames X.base l->s.heap.FunFrames X.base l:=by
  intro l
  induction l with
  | nil=>intro _ _;trivial
  | cons env r ih =>
   intro hs hl
   obtain ⟨hk,⟨L,o,hf,hn,ho,hd⟩,hr⟩:=hl
   have hL:L∈X.fs:=hs L (by unfold b_;rw [List.filterMap_cons,hf];exact yL)
   obtain ⟨sl,e⟩:=I.base.slot L o ho (I.ok.frf L hL) hL λz=>I.ok.exfs L z hL
   exact ⟨hk,⟨L,_,hf,hn,e,hd⟩,ih (λb hb=>hs b (by unfold b_;rw [List.filterMap_cons,hf];exact y9 _ hb)) hr⟩
 exact all X.outer (λ_ hb=>hb) I.ok.funs
def Inv.stack (I:Inv X pins U H s):s.heap.FunFrames X.base X.stack:=by
 rcases I.ok.stk with e|⟨e,hf⟩
 ·rw [e];exact I.funs
 ·rw [e]
  obtain ⟨m,hn,_⟩:=I.loc
  refine .cons (by rw [I.ok.kind];decide) hf hn ?_ I.funs
  exact Heap.get?_none_of_le (yM I.ok.bsz I.ok.above)
def Inv.stkSub (I:Inv X pins U H s):∀b∈b_ X.stack,b∈X.env.locals::X.fs:=λb hb=>by
 rcases I.ok.stk with e|⟨e,hf⟩
 ·rw [e] at hb;exact y9 _ hb
 ·rw [e] at hb
  unfold b_ at hb
  rw [List.filterMap_cons,hf] at hb
  exact hb
def Inv.stkFree (I:Inv X pins U H s):∀b∈b_ X.stack,H b=none:=λb hb=>by
 rcases yv.mp (I.stkSub b hb) with e|hb
 ·rw [e];exact I.free
 ·obtain ⟨_,o,ho,_⟩:=I.ok.funs.mem hb
  exact I.base.free b o ho (I.ok.frf b hb) λz=>I.ok.exfs b z hb
def Inv.step {g':Array GenState}{t':Nat}{d':Drawn}{ch:Ae}(I:Inv X pins U H s)
  (fj:∀b∈ch,(b∈X.ex\/X.s₀.heap.objs.size<=b)/\b≠X.env.locals/\(∀x c,X.env.cells.lookup x=some c->c≠b)/\∀p∈X.pn++pins,p.1≠b)
  (keep:∀b o,b≠X.env.locals->b∉X.fs->b∉ch->s.heap.get? b=some o->H b=none->h'.get? b=some o)
  (slot:∀b o,b≠X.env.locals->b∈X.fs->b∉ch->s.heap.get? b=some o->H b=none->∃sl,h'.get? b=some { o with slots:=sl }) (free:∀b o,b∉ch->s.heap.get? b=some o->H b=none->H' b=none)
  (there:∀b o,b∉ch->s.heap.get? b=some o->∃o',h'.get? b=some o')
  (tups:∀b xs,H b=some (.tup xs)->H' b=some (.tup xs)) (frzs:∀b o u,H b=some (.frz o u)->H' b=some (.frz o u)) (tbls:∀b ps,H b=some (.tbl ps)->∃more,H' b=some (.tbl (ps++more)))
  (ns:∀m,s.heap.Ns X.env.locals m->h'.Ns X.env.locals m) (hok:bA X.prog X.w H' h') (hg:AllBare g') :
  Inv X pins U H' { s with heap:=h',gens:=g',drawn:=d',toks:=t' }:=by
 have rg:∀b o,X.s₀.heap.get? b=some o->b≠X.env.locals:=λb o e=>yt (y1 (zY e) I.ok.above)
 have dW:∀b o,X.s₀.heap.get? b=some o->b∉X.ex->b∉ch:=λb o e hx hb=>by
  rcases (fj b hb).1 with z|z
  ·exact hx z
  ·exact absurd (y1 (zY e) z) (Nat.lt_irrefl _)
 have cellK:∀x c,X.env.cells.lookup x=some c->∀v,s.heap.IsCell c v->h'.IsCell c v:=λx c e v ⟨o,ho,hd⟩=>by
  have eE:c∉ch:=λz=>(fj c z).2.2.1 x c e rfl
  by_cases hc:c∈X.fs
  ·obtain ⟨sl,q⟩:=slot c o (I.cne x c e) hc eE ho (I.freeC x c e)
   exact ⟨_,q,hd⟩
  ·exact ⟨o,keep c o (I.cne x c e) hc eE ho (I.freeC x c e),hd⟩
 refine ⟨I.ok,I.os,hg,⟨λb o e n hb hx=>?_,λb o e n hb hx=>?_,λb o e n hx=>?_,λb o e hx=>?_,λb xs e=>tups b xs (I.base.tups b xs e),λb o xs e=>frzs b o xs (I.base.frzs b o xs e),λb ps e=>?_⟩,?_,λx c e=>?_,?_,λx c e=>?_,λp hp=>?_,hok,I.len⟩
 ·exact keep b o (rg b o e) hb (dW b o e hx) (I.base.keep b o e n hb hx) (I.base.free b o e n hx)
 ·obtain ⟨sl,e1⟩:=I.base.slot b o e n hb hx
  obtain ⟨lS,e2⟩:=slot b _ (rg b o e) hb (dW b o e hx) e1 (I.base.free b o e n hx)
  exact ⟨lS,e2⟩
 ·obtain ⟨o',e1⟩:=I.base.there b o e hx
  exact free b o' (dW b o e hx) e1 (I.base.free b o e n hx)
 ·obtain ⟨o',e1⟩:=I.base.there b o e hx
  exact there b o' (dW b o e hx) e1
 ·obtain ⟨m1,e1⟩:=I.base.tbls b ps e
  obtain ⟨m2,e2⟩:=tbls b _ e1
  exact ⟨m1++m2,by rw [e2,Array.append_assoc]⟩
 ·obtain ⟨m,hn,hl⟩:=I.loc
  refine ⟨m,ns m hn,λi x v e1 e2 e3=>?_⟩
  obtain ⟨u,r,l⟩:=hl i x v e1 e2 e3
  refine ⟨u,r,?_⟩
  rcases l with l|⟨k,c,e,z⟩
  ·exact .inl l
  ·exact .inr ⟨k,c,e,cellK x c e _ z⟩
 ·obtain ⟨v,z⟩:=I.cell x c e
  exact ⟨v,cellK x c e v z⟩
 ·obtain ⟨m,⟨o,_,_,ho,_⟩,_⟩:=I.loc
  exact free _ o (λz=>(fj _ z).2.1 rfl) ho I.free
 ·obtain ⟨v,o,ho,hd⟩:=I.cell x c e
  exact free c o (λz=>(fj c z).2.2.1 x c e rfl) ho (I.freeC x c e)
 ·obtain ⟨e,n,ne,nf,d⟩:=I.pin p hp
  have eE:p.1∉ch:=λz=>(fj p.1 z).2.2.2 p hp rfl
  exact ⟨keep p.1 p.2 ne nf eE e n,free p.1 p.2 eE e n,ne,nf,d⟩
def Inv.un {t':Nat}(I:Inv X pins U H s) (u:Un X.fs [] H H' s.heap h') (hok:bA X.prog X.w H' h'):Inv X pins U H' { s with heap:=h',toks:=t' }:=by
 obtain ⟨m,⟨o,es,ep,ho,r⟩,_⟩:=id I.loc
 obtain ⟨sl,hL⟩:=u.any ho I.free (by simp)
 exact I.step (g':=s.gens) (d':=s.drawn) (ch:=[]) (λ_ z=>nomatch z) (λb o _ hb _ e n=>u.keep b o e n hb (by simp)) (λb o _ hb _ e n=>u.slot b o e n hb (by simp)) (λb o _ e n=>u.free b o e n (by simp)) (λb o _ e=>u.there b o e (by simp)) u.tups u.frzs u.tbls (λm' hm=>by
  obtain ⟨o',lV,lW,ho',r'⟩:=hm
  rw [ho] at ho';cases ho'
  exact ⟨_,lV,lW,hL,r'⟩) hok I.bare
def Inv.call {g':Array GenState}{t':Nat}{d':Drawn}{ch:Ae}(I:Inv X pins U H s) (u:Un (b_ X.stack) ch H H' s.heap h') (hok:bA X.prog X.w H' h') (hg:AllBare g')
  (fj:∀b∈ch,(b∈X.ex\/X.s₀.heap.objs.size<=b)/\b≠X.env.locals/\(∀x c,X.env.cells.lookup x=some c->c≠b)/\∀p∈X.pn++pins,p.1≠b) :
  Inv X pins U H' { s with heap:=h',gens:=g',drawn:=d',toks:=t' }:=by
 obtain ⟨m,⟨o,es,ep,ho,r⟩,_⟩:=id I.loc
 obtain ⟨sl,hL⟩:=u.any ho I.free λz=>(fj _ z).2.1 rfl
 exact I.step (ch:=ch) fj (λb o hL hb hc e n=>u.keep b o e n (λz=>(yv.mp (I.stkSub b z)).elim hL hb) hc) (λb o _ _ hc e n=>u.any e n hc) (λb o hc e n=>u.free b o e n hc) (λb o hc e=>u.there b o e hc) u.tups u.frzs u.tbls (λm' hm=>by
  obtain ⟨o',lV,lW,ho',r'⟩:=hm
  rw [ho] at ho';cases ho'
  exact ⟨_,lV,lW,hL,r'⟩) hok hg
def Inv.turned {t':Nat}{it:Addr}(I:Inv X pins U H s) (k:∀b o,b≠it->s.heap.get? b=some o->h'.get? b=some o) (hn:H it=none) (hL:it≠X.env.locals)
  (h1:it∈X.ex\/X.s₀.heap.objs.size<=it) (h2:∀x c,X.env.cells.lookup x=some c->c≠it) (h3:∀p∈X.pn++pins,p.1≠it):Inv X pins U H { s with heap:=h',toks:=t' }:=by
 have rh:∀b u,H b=some u->b≠it:=λb u e z=>by rw [z,hn] at e;cases e
 refine I.step (g':=s.gens) (d':=s.drawn) (ch:=[it]) (λb hb=>?_) (λb o _ _ hc e _=>k b o (λz=>hc (by simp [z])) e) (λb o _ _ hc e _=>⟨o.slots,k b o (λz=>hc (by simp [z])) e⟩) (λ_ _ _ _ n=>n)
  (λb o hc e=>⟨o,k b o (λz=>hc (by simp [z])) e⟩) (λ_ _ e=>e) (λ_ _ _ e=>e) (λb ps e=>⟨#[],by rw [e];simp⟩) (λm hm=>?_) (λb u e=>?_) I.bare
 ·have e:b=it:=by simpa using hb
  subst e
  exact ⟨h1,hL,h2,h3⟩
 ·obtain ⟨o,es,ep,ho,r⟩:=hm
  exact ⟨o,es,ep,k _ o (y3 hL) ho,r⟩
 ·refine (I.hok b u e).stay (λc v hc q=>k c v ?_ q) (λ_ q=>q) λ_ _ q=>q
  rcases hc with z|z
  ·rw [z];exact rh b u e
  ·exact rh c _ z
def Inv.tok (I:Inv X pins U H s) (t:Nat):Inv X pins U H { s with toks:=t }:=I.un (h':=s.heap) (t':=t) Un.refl I.hok
def Inv.kept {t':Nat}(I:Inv X pins U H s) (k:∀b u,s.heap.get? b=some u->h'.get? b=some u):Inv X pins U H { s with heap:=h',toks:=t' }:=I.un (Un.kept k) (I.hok.kept k)
def Inv.laid {a:Addr}{o:HO}{t':Nat}(I:Inv X pins U H s) (k:∀b u,s.heap.get? b=some u->h'.get? b=some u) (hp:s.heap.objs.size<=a) (new:aX X.prog X.w (upd H a o) h' a o) :
  Inv X pins U (upd H a o) { s with heap:=h',toks:=t' }:=I.un (Un.laid k hp (I.hok.fresh hp)) (I.hok.laid k hp new)
def Inv.write {x e:Addr}{o:HO}{t':Nat}(I:Inv X pins U H s) (mu:iG (H x)) (he:e=x\/H e=some (.own x)) (k:∀b u,b≠e->s.heap.get? b=some u->h'.get? b=some u) (iH:∃u,h'.get? e=some u)
  (new:aX X.prog X.w (upd H x o) h' x o):Inv X pins U (upd H x o) { s with heap:=h',toks:=t' }:=I.un (Un.write mu he k iH) (I.hok.write mu he k iH new)
def Inv.weak {ah:List (Option V)}(I:Inv X pins U H s) (hl:ah.length=U.length) (w:∀(i:Nat) v,ah[i]?=some (some v)->U[i]?=some (some v)):Inv X pins ah H s :=
 ⟨I.ok,I.os,I.bare,I.base,let ⟨m,hn,fG⟩:=I.loc;⟨m,hn,λi x v e1 e2 e3=>fG i x v e1 (w i v e2) e3⟩,I.cell,I.free,I.freeC,I.pin,I.hok,hl.trans I.len⟩
def Inv.pins_of {pins':Ac}(I:Inv X pins U H s) (h:∀p∈pins',s.heap.get? p.1=some p.2/\H p.1=none/\p.1≠X.env.locals/\p.1∉X.fs/\∀v,p.2.data ≠ .cell v):Inv X pins' U H s :=
 ⟨I.ok,I.os,I.bare,I.base,I.loc,I.cell,I.free,I.freeC,λp hp=>(j1.mp hp).elim (λz=>I.pin p (jI _ z)) (h p),I.hok,I.len⟩
def ri {N:Ad}(hN:N.Nodup) {i j:Nat}{x:Str}(a:N[i]?=some x) (b:N[j]?=some x):i=j:=by
 obtain ⟨h1,e1⟩:=yf.mp a
 obtain ⟨h2,e2⟩:=yf.mp b
 exact (List.getElem_inj hN).mp (e1.trans e2.symm)
def A2 {M:Model}{A:Around}{E:Aa}{i:Nat}{x:Str}{v:V}{u:Value}{Q:Unit->Shared->Prop}(I:Inv X pins U H s) (hN:X.N.Nodup) (hi:X.N[i]?=some x) (hx:Loc X.env.scope x) (r:RelV v u)
  (h:∀s',Inv X pins (U.set i (some v)) H s'->(∃a,Heap.SameBut a s.heap s'.heap/\(a=X.env.locals\/X.env.cells.lookup x=some a))->Q () s') (hf:X.fn x=true\/X.env.scope.names.lookup x=some .local:=by first|exact .inl rfl|exact .inr rfl|assumption):wpAny M A (storeName X.env x u) Q E s:=by
 obtain ⟨m,hn,hl⟩:=id I.loc
 have rj:(X.env.scope.kind == .class||(X.env.scope.kind == .module&&X.env.locals != X.env.globals))=false:=by rw [I.ok.kind];rfl
 have aI:i<U.length:=by rw [I.len];exact (yf.mp hi).1
 have cne:=I.cne
 have tracked:∀{a:Addr} {h':Heap},(∃o,s.heap.get? a=some o/\H a=none)->Heap.SameBut a s.heap h'->bA X.prog X.w H h':=λ{a h'} ha hs b ob e=>by
  obtain ⟨_,_,fH⟩:=ha
  refine (I.hok b ob e).stay (λc w' hc q=>(hs.2 c ?_).trans q) (λ_ q=>q) λ_ _ q=>q
  rintro rfl
  rcases hc with rfl|hc
  ·rw [fH] at e;cases e
  ·rw [fH] at hc;cases hc
 rcases hx with hk|hk
 ·refine wpAny_storeName_local hk hn (λh' ke hs=>?_) rj
  obtain ⟨oL,_,_,kg,_⟩:=id hn
  refine h _ ⟨I.ok,I.os,I.bare,⟨λb o e n hb hx=>?_,λb o e n hb hx=>?_,I.base.free,λb o e hx=>?_,I.base.tups,I.base.frzs,I.base.tbls⟩,⟨_,ke,λj y v' e1 e2 e3=>?_⟩,λy c e=>?_,I.free,I.freeC,λp hp=>?_,tracked ⟨oL,kg,I.free⟩ hs,by simpa using I.len⟩ ⟨_,hs,.inl rfl⟩
  ·exact (hs.2 b (yt (y1 (zY e) I.ok.above))).trans (I.base.keep b o e n hb hx)
  ·obtain ⟨sl,e1⟩:=I.base.slot b o e n hb hx
   exact ⟨sl,(hs.2 b (yt (y1 (zY e) I.ok.above))).trans e1⟩
  ·obtain ⟨o',e1⟩:=I.base.there b o e hx
   exact ⟨o',(hs.2 b (yt (y1 (zY e) I.ok.above))).trans e1⟩
  ·by_cases hj:j=i
   ·subst hj
    rw [hi] at e1;cases e1
    rw [yW aI] at e2
    cases e2
    exact ⟨u,r,.inl ⟨hk,by simp⟩⟩
   ·rw [y0 (y3 hj)] at e2
    obtain ⟨u',r',q⟩:=hl j y v' e1 e2 e3
    refine ⟨u',r',?_⟩
    rcases q with ⟨k,e⟩|⟨k,c,e,z⟩
    ·refine .inl ⟨k,?_⟩
     have:y≠x:=λe=>hj (ri hN e1 (e▸hi))
     simp [this,e]
    ·exact .inr ⟨k,c,e,z.sameBut hs (cne y c e)⟩
  ·obtain ⟨w',z⟩:=I.cell y c e
   exact ⟨w',z.sameBut hs (cne y c e)⟩
  ·obtain ⟨e,n,ne,nf,d⟩:=I.pin p hp
   exact ⟨(hs.2 p.1 ne).trans e,n,ne,nf,d⟩
 ·have og:X.fn x=true:=by
   rcases hf with z|z
   ·exact z
   ·rw [z] at hk;cases hk
  obtain ⟨c,hc⟩:=I.ok.has x (.inl hk)
  obtain ⟨w',z⟩:=I.cell x c hc
  refine wpAny_storeName_cell I.ok.kind hk hc z (λh' cC hs=>?_)
  obtain ⟨oc,rl,rm⟩:=id z
  refine h { s with heap:=h' } ⟨I.ok,I.os,I.bare,⟨λb o e n hb hx=>?_,λb o e n hb hx=>?_,I.base.free,λb o e hx=>?_,I.base.tups,I.base.frzs,I.base.tbls⟩,⟨m,hn.sameBut hs (y3 (cne x c hc)),λj y v' e1 e2 e3=>?_⟩,λy c' e=>?_,I.free,I.freeC,λp hp=>?_,tracked ⟨oc,rl,I.freeC x c hc⟩ hs,by simpa using I.len⟩ ⟨c,hs,.inr hc⟩
  ·exact (hs.2 b (yt (y1 (zY e) (I.ok.cab x c og hc)))).trans (I.base.keep b o e n hb hx)
  ·obtain ⟨sl,e1⟩:=I.base.slot b o e n hb hx
   exact ⟨sl,(hs.2 b (yt (y1 (zY e) (I.ok.cab x c og hc)))).trans e1⟩
  ·obtain ⟨o',e1⟩:=I.base.there b o e hx
   exact ⟨o',(hs.2 b (yt (y1 (zY e) (I.ok.cab x c og hc)))).trans e1⟩
  ·by_cases hj:j=i
   ·subst hj
    rw [hi] at e1;cases e1
    rw [yW aI] at e2
    cases e2
    exact ⟨u,r,.inr ⟨.inl hk,c,hc,cC⟩⟩
   ·rw [y0 (y3 hj)] at e2
    obtain ⟨u',r',q⟩:=hl j y v' e1 e2 e3
    refine ⟨u',r',?_⟩
    rcases q with q|⟨k,c',e,z'⟩
    ·exact .inl q
    ·refine .inr ⟨k,c',e,z'.sameBut hs ?_⟩
     rintro rfl
     exact hj (ri hN e1 (I.ok.inj _ _ _ e hc▸hi))
  ·by_cases gf:c'=c
   ·subst gf;exact ⟨_,cC⟩
   ·obtain ⟨w2,z2⟩:=I.cell y c' e
    exact ⟨w2,z2.sameBut hs gf⟩
  ·obtain ⟨e,n,ne,nf,d⟩:=I.pin p hp
   refine ⟨(hs.2 p.1 ?_).trans e,n,ne,nf,d⟩
   intro q
   rw [q,rl] at e
   have q':oc=p.2:=Option.some.inj e
   exact d w' (by rw [<-q'];exact rm)
def lX {M:Model}{A:Around}{E:Aa}{i:Nat}{x:Str}{v:V}{u:Value}{Q:Unit->Shared->Prop}(I:Inv X pins U H s) (hN:X.N.Nodup) (hi:X.N[i]?=some x) (hx:Loc X.env.scope x) (r:RelV v u)
  (h:∀s',Inv X pins (U.set i (some v)) H s'->Q () s') (hf:X.fn x=true\/X.env.scope.names.lookup x=some .local:=by first|exact .inl rfl|exact .inr rfl|assumption):wpAny M A (storeName X.env x u) Q E s :=
 A2 I hN hi hx r (λs' I' _=>h s' I') hf
def Inv.call' {s':Shared}{ch:Ae}(I:Inv X pins U H s) (ho:s'.os=s.os) (u:Un (b_ X.stack) ch H H' s.heap s'.heap) (hok:bA X.prog X.w H' s'.heap) (hg:AllBare s'.gens)
  (fj:∀b∈ch,(b∈X.ex\/X.s₀.heap.objs.size<=b)/\b≠X.env.locals/\(∀x c,X.env.cells.lookup x=some c->c≠b)/\∀p∈X.pn++pins,p.1≠b):Inv X pins U H' s':=by
 obtain ⟨h',g',d',t',o'⟩:=s'
 have e:o'=s.os:=ho
 subst e
 exact I.call (g':=g') (t':=t') (d':=d') u hok hg fj
end
abbrev XK:=Value->Option Addr->Hp->Prop
abbrev St:=List (Option V)
abbrev VK:=V->Hp->Prop
abbrev TE:=St->Hp->VK->Prop
abbrev TT:=St->Hp->(Bool->Hp->Prop)->Prop
abbrev TA:=St->Hp->(List V->Hp->Prop)->Prop
structure Ends where
 nx:St->Hp->Prop
 rt:VK
 bk:St->Hp->Prop:=λ_ _=>False
 ct:St->Hp->Prop:=λ_ _=>False
abbrev TS:=Ends->St->Hp->Prop
def EP (X:Cx) (pins:Ac) (U:St) (Q:VK) (u:Value) (s':Shared):Prop:=∃v H',Inv X pins U H' s'/\RelV v u/\Q v H'
def TP (X:Cx) (pins:Ac) (U:St) (Q:Bool->Hp->Prop) (b:Bool) (s':Shared):Prop:=∃H',Inv X pins U H' s'/\Q b H'
def AP (X:Cx) (pins:Ac) (U:St) (Q:List V->Hp->Prop) (us:Af) (s':Shared):Prop:=∃vs H',Inv X pins U H' s'/\Vals vs us/\Q vs H'
def SP (X:Cx) (pins:Ac) (D:Ends) (f:Flow) (s':Shared):Prop :=
 match f with
 | .next=>∃ah H',Inv X pins ah H' s'/\D.nx ah H'
 | .brk=>∃ah H',Inv X pins ah H' s'/\D.bk ah H'
 | .cont=>∃ah H',Inv X pins ah H' s'/\D.ct ah H'
 | .ret u=>∃v ah H',Inv X pins ah H' s'/\RelV v u/\D.rt v H'
def PE (X:Cx) (e:Expr) (t:TE):Prop :=
 ∀(pins:Ac) (s:Shared) (U:St) (H:Hp) (Q:VK),Inv X pins U H s->t U H Q->wpAny (model X.prog X.w) X.A (eval e X.env) (EP X pins U Q) X.xe s
def PT (X:Cx) (e:Expr) (t:TT):Prop :=
 ∀(pins:Ac) (s:Shared) (U:St) (H:Hp) (Q:Bool->Hp->Prop),Inv X pins U H s->t U H Q->wpAny (model X.prog X.w) X.A (isTrue e X.env (eval e X.env)) (TP X pins U Q) X.xe s
def PW (X:Cx) (e:Expr) (t:TT):Prop :=
 ∀(whole:Sem Value) (pins:Ac) (s:Shared) (U:St) (H:Hp) (Q:Bool->Hp->Prop),Inv X pins U H s->t U H Q->wpAny (model X.prog X.w) X.A (isTrue e X.env whole) (TP X pins U Q) X.xe s
def PW.pt {X:Cx}{e:Expr}{t:TT}(h:PW X e t):PT X e t:=h _
def PA (X:Cx) (es:List Expr) (t:TA):Prop :=
 ∀(pos:Pos) (pins:Ac) (s:Shared) (U:St) (H:Hp) (Q:List V->Hp->Prop),Inv X pins U H s->t U H Q->wpAny (model X.prog X.w) X.A (spliced (backTo pos (starEach es X.env))) (AP X pins U Q) X.xe s
def PS (X:Cx) (st:Stmt) (t:TS):Prop :=
 ∀(pins:Ac) (s:Shared) (U:St) (H:Hp) (D:Ends),Inv X pins U H s->t D U H->wpAny (model X.prog X.w) X.A (exec st X.env) (SP X pins D) X.xe s
def bM (X:Cx) (st:List Stmt) (t:TS):Prop :=
 ∀(pins:Ac) (s:Shared) (U:St) (H:Hp) (D:Ends),Inv X pins U H s->t D U H->wpAny (model X.prog X.w) X.A (execs st X.env) (SP X pins D) X.xe s
def aS {α:Type}{t:Sem α}{Q Q':α->Shared->Prop}{M:Model}{A:Around}{E:Aa}{s:Shared}(h:wpAny M A t Q E s) (hQ:∀a s,Q a s->Q' a s):wpAny M A t Q' E s:=yS h hQ λ_ _ x=>x
section
variable {X:Cx}
def lY (i:Nat):TE:=λU H Q=>∃v,U[i]?=some (some v)/\Q v H
def tC (v:V):TE:=λ_ H Q=>Q v H
def rn {i:Nat} {x:Str} {pos:Pos} (hN:X.N[i]?=some x) (hv:lU X.env.scope x) (hd:(x==("__debug__" : Str))=false:=by decide) (du:(x==("__classdict__" : Str))=false:=by decide):PE X (.Name x pos) (lY i):=by
 intro pins s U H Q I h
 obtain ⟨v,e,h⟩:=h
 obtain ⟨m,hn,hl⟩:=I.loc
 obtain ⟨u,r,l⟩:=hl i x v hN e hv
 have fin:EP X pins U Q u s:=⟨v,H,I,r,h⟩
 rcases l with ⟨hk,hm⟩|⟨hk,c,hc,cX⟩
 ·exact wpAny_Name (wpAny_loadName_local I.ok.kind hk hn hm fin) hd
 ·rcases hk with hk|hk
  ·exact wpAny_Name (wpAny_loadName_cell I.ok.kind hk hc cX fin) hd
  ·exact wpAny_Name (wpAny_loadName_free I.ok.kind hk hc cX fin du) hd
def A3 {i j pos}:PE X (.Constant (.int i) j pos) (tC (.int i)):=λ_ _ _ H _ I h=>wpAny_Constant_int ⟨.int i,H,I.tok _,⟨_,rfl⟩,h⟩
def A5 {b j pos}:PE X (.Constant (.bool b) j pos) (tC (.bl b)):=λ_ _ _ H _ I h=>Constant_bool ⟨.bl b,H,I,rfl,h⟩
def A6 {j pos}:PE X (.Constant .none j pos) (tC .non):=λ_ _ _ H _ I h=>Constant_none ⟨.non,H,I,rfl,h⟩
def ro {x j pos}:PE X (.Constant (.str x) j pos) (tC (.str x)):=λ_ _ _ H _ I h=>Calls.Constant_str ⟨.str x,H,I.tok _,⟨_,rfl⟩,h⟩
def Gl (X:Cx) (x:Str):Prop:=X.env.kindOf x=some .globalImplicit
def oh {E:Aa}{pins:Ac}{s:Shared}{U:St}{H:Hp}{x:Str}{u:Value}{pos:Pos}{Q:Aa}(I:Inv X pins U H s) (hg:Gl X x) (hm:X.mg x=some u) (h:Q u s)
  (hd:(x==("__debug__" : Str))=false:=by decide):wpAny (model X.prog X.w) X.A (eval (.Name x pos) X.env) Q E s :=
 Calls.Name_function_global I.ok.kind hg (Calls.loadGlobal_global (by rw [I.ok.glob];exact I.mod.glob.keeps I.bk) hm h) hd
def kh {E:Aa}{pins:Ac}{s:Shared}{U:St}{H:Hp}{x:Str}{u:Value}{pos:Pos}{Q:Aa}(I:Inv X pins U H s) (hg:Gl X x) (hm:X.mg x=none) (hv:bootBuiltins x=some u) (h:Q u s)
  (hn:x ≠ "__name__" := by decide) (hd:(x==("__debug__" : Str))=false:=by decide):wpAny (model X.prog X.w) X.A (eval (.Name x pos) X.env) Q E s:=by
 obtain ⟨mb,h1,h2⟩:=I.mod.blt
 exact Calls.Name_function_global I.ok.kind hg (Calls.loadGlobal_builtin (by rw [I.ok.glob];exact I.mod.glob.keeps I.bk) hm (by rw [I.ok.blt];exact h1.keeps I.bk) ((h2 x hn).trans hv) h) hd
def oi {x:Str} {v:V} {u:Value} {pos:Pos} (hg:Gl X x) (hm:X.mg x=some u) (r:RelV v u) (hd:(x==("__debug__" : Str))=false:=by decide):PE X (.Name x pos) (tC v) :=
 λ_ _ _ H _ I h=>oh I hg hm ⟨v,H,I,r,h⟩ hd
def A7 {x:Str} {v:V} {u:Value} {pos:Pos} (hg:Gl X x) (hm:X.mg x=none) (hv:bootBuiltins x=some u) (r:RelV v u) (hn:x ≠ "__name__" := by decide) (hd:(x==("__debug__" : Str))=false:=by decide):PE X (.Name x pos) (tC v) :=
 λ_ _ _ H _ I h=>kh I hg hm hv ⟨v,H,I,r,h⟩ hn hd
variable {a b:Expr}{ta tb:TE}{pos:Pos}
def PC (X:Cx) (op:CmpOp) (a b:Expr) (t:TE):Prop :=
 ∀(pins:Ac) (s:Shared) (U:St) (H:Hp) (Q:VK),Inv X pins U H s->t U H Q ->
  wpAny (model X.prog X.w) X.A (eval a X.env) (λv aj=>wpAny (model X.prog X.w) X.A (eval b X.env) (λu aa=>wpAny (model X.prog X.w) X.A (compareOp op v u) (EP X pins U Q) X.xe aa) X.xe aj) X.xe s
def tB (t:TE):TT:=λU H Q=>t U H λx H1=>∃c,x=.bl c/\Q c H1
def A8 {e:Expr}{t:TE}(h:PE X e t) (he:∀whole,isTrue e X.env whole=(do let v <-whole;standAt e.pos;holding [v] (truthy v)):=by intro _;rfl):PT X e (tB t):=by
 intro pins s U H Q I hw
 refine isTrue_plain (aS (h pins s U H _ I hw) λv s1 ⟨x,H1,I1,r1,q1⟩=>?_) (he _)
 obtain ⟨d,rfl,q⟩:=q1
 cases r1
 exact wu ⟨H1,I1,q⟩
variable {tA lZ:TT}{rest:List Expr}
def A9 (t u:TT):TT:=λU H Q=>t U H λc H1=>if c=true then u U H1 Q else Q false H1
def A_ (t u:TT):TT:=λU H Q=>t U H λc H1=>if c=true then Q true H1 else u U H1 Q
def Ba (t:TT):TT:=λU H Q=>t U H λc H1=>Q (!c) H1
def Bb (ha:PT X a tA):PW X (.BoolOp .And [a] pos) tA:=by
 intro wh pins s U H Q I h
 refine isTrue_and (aS (ha pins s U H Q I h) λc s1 e=>?_)
 cases c with
 | true=>exact isTrue_and_nil e
 | false=>exact e
def Bc (ha:PT X a tA):PW X (.BoolOp .Or [a] pos) tA:=by
 intro wh pins s U H Q I h
 refine isTrue_or (aS (ha pins s U H Q I h) λc s1 e=>?_)
 cases c with
 | false=>exact isTrue_or_nil e
 | true=>exact e
def Bd (ha:PT X a tA) (hb:PW X (.BoolOp .And (b::rest) pos) lZ):PW X (.BoolOp .And (a::b::rest) pos) (A9 tA lZ):=by
 intro wh pins s U H Q I h
 refine isTrue_and (aS (ha pins s U H _ I h) λc s1 ⟨H1,I1,q1⟩=>?_)
 cases c with
 | true=>exact hb wh pins s1 U H1 Q I1 q1
 | false=>exact ⟨H1,I1,q1⟩
def Be (ha:PT X a tA) (hb:PW X (.BoolOp .Or (b::rest) pos) lZ):PW X (.BoolOp .Or (a::b::rest) pos) (A_ tA lZ):=by
 intro wh pins s U H Q I h
 refine isTrue_or (aS (ha pins s U H _ I h) λc s1 ⟨H1,I1,q1⟩=>?_)
 cases c with
 | true=>exact ⟨H1,I1,q1⟩
 | false=>exact hb wh pins s1 U H1 Q I1 q1
def Bf (ha:PT X a tA):PT X (.UnaryOp .Not a pos) (Ba tA):=by
 intro pins s U H Q I h
 exact isTrue_not (ha pins s U H (λc H1=>Q (!c) H1) I h)
def Bg (ta tb:TE):TE:=λU H Q=>ta U H λx H1=>∃c,x=.bl c/\if c=true then tb U H1 Q else Q (.bl false) H1
def Bh {op}{t:TE}(h:PE X a t):PE X (.BoolOp op [a] pos) t:=λpins s U H Q I hw=>BoolOp_one (h pins s U H Q I hw)
def Bi (ha:PE X a ta) (hb:PE X (.BoolOp .And (b::rest) pos) tb):PE X (.BoolOp .And (a::b::rest) pos) (Bg ta tb):=by
 intro pins s U H Q I h
 refine BoolOp_and (aS (ha pins s U H _ I h) λv s1 ⟨x,H1,I1,r1,q1⟩=>?_)
 obtain ⟨c,rfl,q1⟩:=q1
 cases r1
 refine wu ?_
 cases c with
 | true=>exact hb pins s1 U H1 Q I1 q1
 | false=>exact ⟨.bl false,H1,I1,rfl,q1⟩
end
def a3 (K:PySem.W.Frag) (H:Hp) (a:Addr) (xs:List V):Prop :=
 Rd H a (.lst xs) \/
  ∃(o:Obj) (its:Array Value) (n:Nat),K.lookup a=some o/\o.cls=.type "list" /\ o.dict=none/\o.data=.seq its n/\its.size<=sizeLine/\Vals xs its.toList
def bt (K:PySem.W.Frag) (H:Hp) (a:Addr) (xs:List V):Prop :=
 Rd H a (.tup xs) \/
  ∃(o:Obj) (its:Array Value) (n:Nat),K.lookup a=some o/\o.cls=.type "tuple" /\ o.data=.seq its n/\its.size<=sizeLine/\Vals xs its.toList
def rp:Value->Option V
 | .none=>some .non
 | .bool b=>some (.bl b)
 | .int i _=>some (.int i)
 | .str x _=>some (.str x)
 | .bytes b _=>some (.byt b)
 | .float b _=>some (.flt b)
 | .ref a=>some (.ref a)
 | .type n=>some (.ty n)
 | _=>none
def RelV.abs {x:V}{u:Value}(r:RelV x u):rp u=some x:=by
 cases x with
 | non=>cases r;rfl
 | bl _=>cases r;rfl
 | int _=>obtain ⟨t,rfl⟩:=r;rfl
 | str _=>obtain ⟨t,rfl⟩:=r;rfl
 | byt _=>obtain ⟨t,rfl⟩:=r;rfl
 | flt _=>obtain ⟨t,rfl⟩:=r;rfl
 | ref _=>cases r;rfl
 | ty _=>cases r;rfl
def RelV.inj {x y:V}{u:Value}(r:RelV x u) (q:RelV y u):x=y:=Option.some.inj (r.abs.symm.trans q.abs)
def Vals.inj:∀{xs ys:List V}{us:Af},Vals xs us->Vals ys us->xs=ys
 | _,_,_,.nil,.nil=>rfl
 | _,_,_,.cons r t,.cons r' t'=>by rw [r.inj r',Vals.inj t t']
section
variable {X:Cx}{pins:Ac}{U:St}{H:Hp}{s:Shared}{a:Addr}{xs ys:List V}
def a3.of {K:PySem.W.Frag}(h:H a=some (.lst xs)):a3 K H a xs:=.inl (.inl h)
def bt.of {K:PySem.W.Frag}(h:H a=some (.tup xs)):bt K H a xs:=.inl (.inl h)
def Inv.list (I:Inv X pins U H s) (h:a3 X.K H a xs):∃its:Af,Vals xs its/\PlainL s.heap a its.toArray/\xs.length<=sizeLine:=by
 rcases h with h|⟨o,its,n,hk,hc,hd,hs,hz,r⟩
 ·obtain ⟨z,its,n,r,e⟩:=h.ok I.hok
  exact ⟨its,r,⟨_,n,e,rfl,rfl,rfl⟩,z⟩
 ·refine ⟨its.toList,r,⟨o,n,I.kIn a o hk,hc,hd,by simpa using hs⟩,?_⟩
  have e:=r.length
  simp only [Array.length_toList] at e
  omega
def Inv.tuple (I:Inv X pins U H s) (h:bt X.K H a xs):∃its:Af,Vals xs its/\IsTup s.heap a its.toArray/\xs.length<=sizeLine:=by
 rcases h with h|⟨o,its,n,hk,hc,hs,hz,r⟩
 ·obtain ⟨z,its,r,p⟩:=h.ok I.hok
  exact ⟨its,r,p,z⟩
 ·refine ⟨its.toList,r,⟨o,I.kIn a o hk,hc,n,by simpa using hs⟩,?_⟩
  have e:=r.length
  simp only [Array.length_toList] at e
  omega
def Inv.list_inj (I:Inv X pins U H s) (h:a3 X.K H a xs) (h':a3 X.K H a ys):xs=ys:=by
 obtain ⟨its,r,⟨o,n,e,_,_,d⟩,_⟩:=I.list h
 obtain ⟨its',r',⟨o',n',e',_,_,d'⟩,_⟩:=I.list h'
 rw [e] at e';cases e'
 rw [d] at d'
 injection d' with d1 _
 have:its=its':=by simpa using congrArg Array.toList d1
 subst this
 exact r.inj r'
def Inv.tuple_inj (I:Inv X pins U H s) (h:bt X.K H a xs) (h':bt X.K H a ys):xs=ys:=by
 obtain ⟨its,r,⟨o,e,_,n,d⟩,_⟩:=I.tuple h
 obtain ⟨its',r',⟨o',e',_,n',d'⟩,_⟩:=I.tuple h'
 rw [e] at e';cases e'
 rw [d] at d'
 injection d' with d1 _
 have:its=its':=by simpa using congrArg Array.toList d1
 subst this
 exact r.inj r'
end
abbrev Cx.wish (X:Cx) (E:Aa):Cx:={ X with xe:=E }
abbrev Cx.nox (X:Cx):Cx:=X.wish λ_ _=>False
def Cx.Ok.wish {X:Cx}(ok:X.Ok) (E:Aa):(X.wish E).Ok :=
 ⟨ok.mod,ok.kind,ok.glob,ok.blt,ok.above,ok.inj,ok.has,ok.cab,ok.hd,ok.frames,ok.stk,ok.exf,ok.bs,ok.bsz,ok.noex,ok.exfs,ok.funs,ok.frf⟩
def Cx.Ok.unwish {X:Cx}{E:Aa}(ok:(X.wish E).Ok):X.Ok :=
 ⟨ok.mod,ok.kind,ok.glob,ok.blt,ok.above,ok.inj,ok.has,ok.cab,ok.hd,ok.frames,ok.stk,ok.exf,ok.bs,ok.bsz,ok.noex,ok.exfs,ok.funs,ok.frf⟩
section
variable {X:Cx}{pins:Ac}{U:St}{H:Hp}{s:Shared}{E:Aa}
def Inv.wish (I:Inv X pins U H s) (E:Aa):Inv (X.wish E) pins U H s:=⟨I.ok.wish E,I.os,I.bare,I.base,I.loc,I.cell,I.free,I.freeC,I.pin,I.hok,I.len⟩
def Inv.unwish (I:Inv (X.wish E) pins U H s):Inv X pins U H s:=⟨I.ok.unwish,I.os,I.bare,I.base,I.loc,I.cell,I.free,I.freeC,I.pin,I.hok,I.len⟩
def SP.unwish {D:Ends}{f:Flow}{s':Shared}(h:SP (X.wish E) pins D f s'):SP X pins D f s':=by
 cases f with
 | next=>obtain ⟨ah,H',I,q⟩:=h;exact ⟨ah,H',I.unwish,q⟩
 | brk=>obtain ⟨ah,H',I,q⟩:=h;exact ⟨ah,H',I.unwish,q⟩
 | cont=>obtain ⟨ah,H',I,q⟩:=h;exact ⟨ah,H',I.unwish,q⟩
 | ret u=>obtain ⟨v,ah,H',I,r,q⟩:=h;exact ⟨v,ah,H',I.unwish,r,q⟩
def PE.nox {e:Expr}{t:TE}(h:PE X.nox e t):PE X e t:=λpins s U H Q I hw =>
 yS (h pins s U H Q (I.wish _) hw) (λ_ _ ⟨v,H',I',r,q⟩=>⟨v,H',I'.unwish,r,q⟩) λ_ _ z=>z.elim
def PT.nox {e:Expr}{t:TT}(h:PT X.nox e t):PT X e t:=λpins s U H Q I hw =>
 yS (h pins s U H Q (I.wish _) hw) (λ_ _ ⟨H',I',q⟩=>⟨H',I'.unwish,q⟩) λ_ _ z=>z.elim
def bM.nox {st:List Stmt}{t:TS}(h:bM X.nox st t):bM X st t:=λpins s U H D I hw =>
 yS (h pins s U H D (I.wish _) hw) (λ_ _ q=>q.unwish) λ_ _ z=>z.elim
end
section
variable {X:Cx}{st:Stmt}{rest:List Stmt}{t u:TS}{e:Expr}{te:TE}{pos:Pos}
def Bj:TS:=λD U H=>D.nx U H
def Bk (t u:TS):TS:=λD U H=>t { D with nx:=u D } U H
def Bl:bM X [] Bj:=λ_ _ U H _ I h=>wpAny_execs_nil ⟨U,H,I,h⟩
def Bm (h1:PS X st t) (h2:bM X rest u):bM X (st::rest) (Bk t u):=by
 intro pins s U H D I h
 refine wpAny_execs_cons (aS (h1 pins s U H { D with nx:=u D } I h) λf s1 q=>?_)
 cases f with
 | next =>
  obtain ⟨ah,H',I',q⟩:=q
  exact h2 pins s1 ah H' D I' q
 | ret v=>exact q
 | brk=>exact q
 | cont=>exact q
def Bn (h1:PS X st t):bM X [st] t:=by
 intro pins s U H D I h
 refine wpAny_execs_cons (aS (h1 pins s U H D I h) λf s1 q=>?_)
 cases f with
 | next=>exact wpAny_execs_nil q
 | ret v=>exact q
 | brk=>exact q
 | cont=>exact q
def Inv.quiet {pins:Ac}{U:St}{H:Hp}{s:Shared}(I:Inv X pins U H s):interactive X.env=false:=by simp [interactive,I.ok.kind]
def Bo (te:TE):TS:=λD U H=>te U H λ_ H1=>D.nx U H1
def Bp (he:PE X e te) (hs:swapsWith e none pos.line X.env=pure false:=by rfl):PS X (.Expr e pos) (Bo te):=by
 intro pins s U H D I h
 exact wpAny_Expr_any (aS (he pins s U H _ I h) λv s1 ⟨x,H1,I1,r1,q1⟩=>⟨U,H1,I1,q1⟩) I.quiet hs
def Bq (te:TE):TS:=λD U H=>te U H D.rt
def Br (he:PE X e te):PS X (.Return (some e) pos) (Bq te):=by
 intro pins s U H D I h
 exact wpAny_Return_some (aS (he pins s U H _ I h) λv s1 ⟨x,H1,I1,r1,q1⟩=>⟨x,U,H1,I1,r1,q1⟩)
def Bs (c:TT) (t u:TS):TS:=λD U H=>c U H λb H1=>if b=true then t D U H1 else u D U H1
def Bt {c:Expr}{a b:List Stmt}{tc:TT}(hc:PT X c tc) (ha:bM X a t) (hb:bM X b u):PS X (.If c a b pos) (Bs tc t u):=by
 intro pins s U H D I h
 refine wpAny_If (aS (hc pins s U H _ I h) λd s1 ⟨H1,I1,q1⟩=>?_)
 cases d with
 | true=>exact ha pins s1 U H1 D I1 q1
 | false=>exact hb pins s1 U H1 D I1 q1
def rq:TS:=λ_ _ _=>False
def Bu:PS X st rq:=λ_ _ _ _ _ _ h=>h.elim
def Bv {cL:List Stmt}:bM X cL rq:=λ_ _ _ _ _ _ h=>h.elim
end
abbrev TG:=V->St->Hp->(St->Hp->Prop)->Prop
abbrev gF:=List V->St->Hp->(St->Hp->Prop)->Prop
def PG (X:Cx) (target:Expr) (t:TG):Prop :=
 ∀(pins:Ac) (s:Shared) (U:St) (H:Hp) (v:V) (u:Value) (Q:St->Hp->Prop),Inv X pins U H s->RelV v u->t v U H Q ->
  wpAny (model X.prog X.w) X.A (assign target X.env u) (λ_ s'=>∃ah H',Inv X pins ah H' s'/\Q ah H') X.xe s
def l8 (X:Cx) (ts:List Expr) (t:gF):Prop :=
 ∀(pins:Ac) (s:Shared) (U:St) (H:Hp) (vs:List V) (us:Af) (Q:St->Hp->Prop),Inv X pins U H s->Vals vs us->t vs U H Q ->
  wpAny (model X.prog X.w) X.A (assignInOrder ((assignEach ts X.env).map (·.2)) us) (λ_ s'=>∃ah H',Inv X pins ah H' s'/\Q ah H') X.xe s
section
variable {X:Cx}{pos:Pos}
def j8 (i:Nat):TG:=λv U H Q=>Q (U.set i (some v)) H
def wN {i:Nat}{x:Str}(hN:X.N.Nodup) (hi:X.N[i]?=some x) (hx:Loc X.env.scope x) (hf:X.fn x=true\/X.env.scope.names.lookup x=some .local:=by first|exact .inl rfl|exact .inr rfl|assumption):PG X (.Name x pos) (j8 i):=by
 intro pins s U H v u Q I r h
 exact wpAny_assign_Name (lX I hN hi hx r (λs' I'=>⟨_,H,I',h⟩) hf)
def Bw:gF:=λvs U H Q=>vs=[]/\Q U H
def Bx (t:TG) (u:gF):gF:=λvs U H Q=>∃v r,vs=v::r/\t v U H λah H'=>u r ah H' Q
def By:l8 X [] Bw:=by
 intro pins s U H vs us Q I r h
 obtain ⟨e,h⟩:=h
 subst e
 cases r
 exact assignInOrder_nil ⟨U,H,I,h⟩
def rz {e:Expr}{es:List Expr}{t:TG}{u:gF}(h1:PG X e t) (h2:l8 X es u)
  (hs:(assignEach (e::es) X.env).map (·.2)=assign e X.env::(assignEach es X.env).map (·.2):=by rfl):l8 X (e::es) (Bx t u):=by
 intro pins s U H vs us Q I r h
 obtain ⟨v,vr,e1,h⟩:=h
 subst e1
 cases r with
 | cons r rr =>
  rw [hs]
  refine assignInOrder_cons (aS (h1 pins s U H _ _ _ I r h) λ_ s1 ⟨av,H1,I1,q1⟩=>?_)
  exact h2 pins s1 av H1 _ _ Q I1 rr q1
def Bz (K:PySem.W.Frag) (n:Nat) (t:gF):TG:=λv U H Q=>∃a xs,v=.ref a/\bt K H a xs/\xs.length=n/\t xs U H Q
def BA {es:List Expr}{k:Nat}{t:gF}{n:Nat}(hc:X.calm=true) (h:l8 X es t)
  (hn:(assignEach es X.env).length=n:=by rfl) (bV:(assignEach es X.env).findIdx? (·.1)=none:=by rfl):PG X (.Tuple es k pos) (Bz X.K n t):=by
 intro pins s U H v u Q I r hw
 obtain ⟨a,xs,e1,hq,hl,hw⟩:=hw
 subst e1
 cases r
 obtain ⟨its,rv,ht,hz⟩:=I.tuple hq
 refine assign_Tuple_tuple (I.ok.hd hc) ht (by simp [hn,<-hl,rv.length]) bV λh' hx=>?_
 have I1:Inv X pins U H { s with heap:=h' }:=I.kept (t':=s.toks) λb o e=>hx b o (yt (zY e)) e
 exact h pins _ U H xs _ Q I1 (by simpa using rv) hw
def BB (te:TE) (g:TG):TS:=λD U H=>te U H λx H1=>g x U H1 D.nx
def BC {i:Nat}{x:Str}{e:Expr}{te:TE}{pos':Pos}(hN:X.N.Nodup) (hi:X.N[i]?=some x) (hx:Loc X.env.scope x) (he:PE X e te) (hs:swapsWith e (some (.Name x pos')) pos.line X.env=pure false:=by rfl) (hf:X.fn x=true\/X.env.scope.names.lookup x=some .local:=by first|exact .inl rfl|exact .inr rfl|assumption) :
  PS X (.Assign [.Name x pos'] e pos) (BB te (j8 i)):=by
 intro pins s U H D I h
 refine wpAny_Assign_Name (aS (he pins s U H _ I h) λv s1 ⟨y,H1,I1,r1,q1⟩=>?_) hs
 exact lX I1 hN hi hx r1 (λs2 I2=>⟨_,H1,I2,q1⟩) hf
def BD (c:TT) (tb:TS):TS:=λD U H=>∃W:Nat->St->Hp->Prop,(∃m,W m U H)/\∀m U H,W m U H ->
 c U H λb H1=>if b=true then ∃N:St->Hp->Prop,(∀ah H',N ah H'->∃m',m'<m/\W m' ah H')/\tb { D with nx:=N,ct:=N,bk:=D.nx } U H1 else D.nx U H1
def BE {c:Expr}{body:List Stmt}{tc:TT}{tb:TS}(hp:PassesOwn (model X.prog X.w) X.A X.env X.xe) (hc:PT X c tc) (hb:bM X body tb):PS X (.While c body [] pos) (BD tc tb):=by
 intro pins s U H D I h
 obtain ⟨W,⟨m0,w0⟩,turn⟩:=h
 refine wpAny_While (codeAny_whileLoop (λn s'=>∃ah H',Inv X pins ah H' s'/\W n ah H') ?_ m0 ⟨U,H,I,w0⟩)
 rintro n s1 ⟨av,H1,I1,w1⟩
 refine wpAny_passesOwn hp (aS (hc pins s1 av H1 _ I1 (turn n av H1 w1)) λb s2 ⟨H2,I2,q2⟩=>?_)
 cases b with
 | true =>
  obtain ⟨N,hN,q2⟩:=q2
  rw [zw rfl]
  refine wpAny_passesOwn hp (aS (hb pins s2 av H2 _ I2 q2) λf s3 q3=>?_)
  cases f with
  | next =>
   obtain ⟨az,H3,I3,n3⟩:=q3
   obtain ⟨m',hm,w3⟩:=hN az H3 n3
   exact ⟨m',hm,az,H3,I3,w3⟩
  | cont =>
   obtain ⟨az,H3,I3,n3⟩:=q3
   obtain ⟨m',hm,w3⟩:=hN az H3 n3
   exact ⟨m',hm,az,H3,I3,w3⟩
  | brk=>exact q3
  | ret v=>exact q3
 | false =>
  rw [zC Bool.false_ne_true]
  exact wpAny_execs_nil ⟨av,H2,I2,q2⟩
end
structure It where
 go:Nat->Hp->Prop
 yld:Nat->Hp->V->Hp->Prop
 stop:Nat->Hp->Prop
def b0 (X:Cx) (pins:Ac) (H:Hp) (b:Addr):Prop :=
 H b=none/\b≠X.env.locals/\b∉X.fs/\(b∈X.ex\/X.s₀.heap.objs.size<=b)/\(∀x c,X.env.cells.lookup x=some c->c≠b)/\∀p∈X.pn++pins,p.1≠b
def Inv.fpOk {X:Cx}{pins:Ac}{U:St}{H H':Hp}{s:Shared}{b:Addr}(I:Inv X pins U H s) (hb:s.heap.objs.size<=b) (hn:H' b=none):b0 X pins H' b:=by
 refine ⟨hn,Nat.ne_of_gt (y1 I.lt hb),I.nofs hb,.inr (yM I.sz hb),λx c e z=>?_,λp hp z=>?_⟩
 ·obtain ⟨v,q⟩:=I.cell x c e
  exact absurd (y1 q.lt (by rw [z];exact hb)) (Nat.lt_irrefl _)
 ·exact absurd (y1 (zY (I.pin p hp).1) (by rw [z];exact hb)) (Nat.lt_irrefl _)
structure Turn (P:Program) (w:World) (K:PySem.W.Frag) (tg:Expr) (J:It) (fp:Ae) (it:Addr) (tn:Nat->Heap->Prop):Prop where
 mem:it∈fp
 obj:∀i h,tn i h->∀b∈fp,∃o,h.get? b=some o/\∀v,o.data ≠ .cell v
 keep:∀i h h',tn i h->(∀b∈fp,∀o,h.get? b=some o->h'.get? b=some o)->tn i h'
 item:∀(X:Cx),X.prog=P->X.w=w->X.K=K->X.calm=true->∀(i:Nat) (pins:Ac) (s:Shared) (U:St) (H:Hp) (E:Aa),Inv X pins U H s->(∀b∈fp,b0 X pins H b)->tn i s.heap->J.go i H ->
  wpAny (model P w) X.A (pyNext (.ref it)) (λr s1=>∃u,r=some u /\
   wpAny (model P w) X.A (letOwnedTupleGo tg (.ref it) u) (λ_ s2=>∃x H',Inv X pins U H' s2/\RelV x u/\J.yld i H x H'/\tn (i+1) s2.heap/\∀b∈fp,H' b=none) E s1) E s
 done:∀(X:Cx),X.prog=P->X.w=w->X.K=K->X.calm=true->∀(i:Nat) (pins:Ac) (s:Shared) (U:St) (H:Hp) (E:Aa),Inv X pins U H s->(∀b∈fp,b0 X pins H b)->tn i s.heap->J.stop i H ->
  wpAny (model P w) X.A (pyNext (.ref it)) (λr s1=>r=none/\Inv X pins U H s1) E s
 self:∀(A:Around) (i:Nat) (s:Shared) (Q:Aa) (E:Aa),tn i s.heap->Q (.ref it) s->wpAny (model P w) A (pyIter (.ref it)) Q E s
abbrev TI:=St->Hp->(It->Hp->Prop)->Prop
def rA (X:Cx) (pins:Ac) (U:St) (tg:Expr) (R:It->Hp->Prop) (ki:Value) (s2:Shared):Prop :=
 ∃(it:Addr) (fp:Ae) (tn:Nat->Heap->Prop) (J:It) (H':Hp),ki=.ref it/\Inv X pins U H' s2/\Turn X.prog X.w X.K tg J fp it tn/\tn 0 s2.heap/\(∀b∈fp,b0 X pins H' b)/\R J H'
def PI (X:Cx) (tg iter:Expr) (wi:TI):Prop :=
 ∀(pins:Ac) (s:Shared) (U:St) (H:Hp) (R:It->Hp->Prop),Inv X pins U H s->wi U H R ->
  wpAny (model X.prog X.w) X.A (eval iter X.env) (λv s1=>wpAny (model X.prog X.w) X.A (pyIter v) (rA X pins U tg R) X.xe s1) X.xe s
def kj {M:Model}{A:Around}{E:Aa}{s:Shared}{tg:Expr}{it:Addr}{u:Value}{o:Obj}{n:String}{vs:Array Value}{Q:Unit->Shared->Prop}(ho:s.heap.get? it=some o) (hc:o.cls=.type n) (hd:o.data=.fields vs)
  (hn:["enumerate", "zip", "dict_itemiterator", "dict_reverseitemiterator", "odict_iterator", "itertools.zip_longest", "itertools.pairwise"].contains n=false) (hQ:Q () s):wpAny M A (letOwnedTupleGo tg (.ref it) u) Q E s:=by
 unfold letOwnedTupleGo
 cases tg<;>first
  | exact zE hQ
  | (cases u<;>first
    | exact zE hQ
    | (refine zq (wpAny_load ho ?_)
       rw [hc,hd]
       show wpAny M A (if (["enumerate", "zip", "dict_itemiterator", "dict_reverseitemiterator", "odict_iterator", "itertools.zip_longest", "itertools.pairwise"].contains n&&vs[0]?==some (rawInt _))=true then _ else _) Q E s
       rw [zC (by intro h;rw [hn,Bool.false_and] at h;cases h)]
       exact zE hQ))
def l_ (K:PySem.W.Frag) (a:Addr):It :=
 ⟨λi H=>∃xs x,a3 K H a xs/\xs[i]?=some x,λi H x H'=>H'=H/\∀xs,a3 K H a xs->xs[i]?=some x,λi H=>∃xs,a3 K H a xs/\xs.length<=i⟩
def iI (K:PySem.W.Frag) (a:Addr):It :=
 ⟨λi H=>∃xs x,bt K H a xs/\xs[i]?=some x,λi H x H'=>H'=H/\∀xs,bt K H a xs->xs[i]?=some x,λi H=>∃xs,bt K H a xs/\xs.length<=i⟩
def kl (lo:Int) (n:Nat):It:=⟨λi _=>i<n,λi H x H'=>H'=H/\x=.int (lo+i),λi _=>n<=i⟩
def BF {P:Program}{w:World}{K:PySem.W.Frag}{tg:Expr}(a it:Addr):Turn P w K tg (l_ K a) [it] it (λi h=>h.IsListIter it a i) where
 mem:=by simp
 obj:=λi h st b hb=>by
  have e:b=it:=by simpa using hb
  subst e
  obtain ⟨o,e,c,d⟩:=st
  exact ⟨o,e,λv z=>by rw [d] at z;cases z⟩
 keep:=λi h h' st k=>st.at λo e=>k it (by simp) o e
 item:=by
  intro X hP hw hK hc i pins s U H E I hf st hg
  subst hP hw hK
  obtain ⟨xs,x,hq,hx⟩:=hg
  obtain ⟨its,rv,p,hz⟩:=I.list hq
  obtain ⟨u,hu,ru⟩:=rv.get hx
  obtain ⟨f0,f1,f2,f3,f4,f5⟩:=hf it (by simp)
  refine wpAny_pyNext_list_item st p.isList (x:=u) (by simpa using hu) λh' aU sb=>?_
  have I1:Inv X pins U H { s with heap:=h' }:=I.turned (t':=s.toks) (λb o hb e=>(sb.2 b hb).trans e) f0 f1 f3 f4 f5
  obtain ⟨o,e,c,d⟩:=id aU
  exact ⟨u,rfl,kj (s:={ s with heap:=h' }) e c d (by decide) ⟨x,H,I1,ru,⟨rfl,λys hy=>by rw [I.list_inj hy hq];exact hx⟩,aU,λb hb=>(hf b hb).1⟩⟩
 done:=by
  intro X hP hw hK hc i pins s U H E I hf st hg
  subst hP hw hK
  obtain ⟨xs,hq,hx⟩:=hg
  obtain ⟨its,rv,p,hz⟩:=I.list hq
  obtain ⟨f0,f1,f2,f3,f4,f5⟩:=hf it (by simp)
  have hl:=rv.length
  exact wpAny_pyNext_list_end (I.ok.hd hc) st p.isList (by simp;omega) λh' eb=>⟨rfl,I.turned (t':=s.toks) (λb o hb e=>eb b o hb e) f0 f1 f3 f4 f5⟩
 self:=λ_ _ _ _ _ st h=>wpAny_pyIter_listiter st h
def BG {P:Program}{w:World}{K:PySem.W.Frag}{tg:Expr}(a it:Addr):Turn P w K tg (iI K a) [it] it (λi h=>h.IsTupleIter it a i) where
 mem:=by simp
 obj:=λi h st b hb=>by
  have e:b=it:=by simpa using hb
  subst e
  obtain ⟨o,e,c,d⟩:=st
  exact ⟨o,e,λv z=>by rw [d] at z;cases z⟩
 keep:=λi h h' st k=>st.at λo e=>k it (by simp) o e
 item:=by
  intro X hP hw hK hc i pins s U H E I hf st hg
  subst hP hw hK
  obtain ⟨xs,x,hq,hx⟩:=hg
  obtain ⟨its,rv,p,hz⟩:=I.tuple hq
  obtain ⟨u,hu,ru⟩:=rv.get hx
  obtain ⟨f0,f1,f2,f3,f4,f5⟩:=hf it (by simp)
  refine wpAny_pyNext_tuple_item st (show s.heap.IsTuple a its.toArray from p) (x:=u) (by simpa using hu) λh' aU sb=>?_
  have I1:Inv X pins U H { s with heap:=h' }:=I.turned (t':=s.toks) (λb o hb e=>(sb.2 b hb).trans e) f0 f1 f3 f4 f5
  obtain ⟨o,e,c,d⟩:=id aU
  exact ⟨u,rfl,kj (s:={ s with heap:=h' }) e c d (by decide) ⟨x,H,I1,ru,⟨rfl,λys hy=>by rw [I.tuple_inj hy hq];exact hx⟩,aU,λb hb=>(hf b hb).1⟩⟩
 done:=by
  intro X hP hw hK hc i pins s U H E I hf st hg
  subst hP hw hK
  obtain ⟨xs,hq,hx⟩:=hg
  obtain ⟨its,rv,p,hz⟩:=I.tuple hq
  obtain ⟨f0,f1,f2,f3,f4,f5⟩:=hf it (by simp)
  have hl:=rv.length
  exact wpAny_pyNext_tuple_end (I.ok.hd hc) st (show s.heap.IsTuple a its.toArray from p) (by simp;omega) λh' eb=>⟨rfl,I.turned (t':=s.toks) (λb o hb e=>eb b o hb e) f0 f1 f3 f4 f5⟩
 self:=λ_ _ _ _ _ st h=>wpAny_pyIter_tupleiter st h
def BH {P:Program}{w:World}{K:PySem.W.Frag}{tg:Expr}(it:Addr) (lo:Int) (n:Nat):Turn P w K tg (kl lo n) [it] it (λi h=>IsRangeIter h it (lo+(i:Nat)*1) ((n:Int)-(i:Nat)) 1) where
 mem:=by simp
 obj:=λi h st b hb=>by
  have e:b=it:=by simpa using hb
  subst e
  exact ⟨_,st,λv z=>by
   have z':Data.fields _=Data.cell v:=z
   cases z'⟩
 keep:=λi h h' st k=>k it (by simp) _ st
 item:=by
  intro X hP hw hK hc i pins s U H E I hf st hg
  subst hP hw hK
  obtain ⟨f0,f1,f2,f3,f4,f5⟩:=hf it (by simp)
  have W:=Walks.range (prog:=X.prog) (w:=X.w) (I.ok.hd hc) it lo 1 n
  refine W.item i s _ _ hg st λv h' tk hv aU kk=>?_
  obtain ⟨t,rfl⟩:=hv
  have I1:Inv X pins U H { s with heap:=h',toks:=tk }:=I.turned (λb o hb e=>kk b o (by simpa using hb) e) f0 f1 f3 f4 f5
  refine ⟨_,rfl,kj (s:={ s with heap:=h',toks:=tk }) (n := "range_iterator") aU rfl rfl (by decide) ⟨.int (lo+i),H,I1,⟨t,?_⟩,⟨rfl,rfl⟩,aU,λb hb=>(hf b hb).1⟩⟩
  rw [Int.mul_one]
 done:=by
  intro X hP hw hK hc i pins s U H E I hf st hg
  subst hP hw hK
  obtain ⟨f0,f1,f2,f3,f4,f5⟩:=hf it (by simp)
  exact wpAny_pyNext_range_end (I.ok.hd hc) st (by have:n<=i:=hg;omega) λh' eb=>⟨rfl,I.turned (t':=s.toks) (λb o hb e=>eb b o hb e) f0 f1 f3 f4 f5⟩
 self:=λ_ _ _ _ _ st h=>wpAny_pyIter_rangeiter st h
section
variable {X:Cx}{tg:Expr}
def BI {pins:Ac}{U:St}{H:Hp}{s:Shared}{R:It->Hp->Prop}{E:Aa}{lo hi:Int}{t u v:Tok}{tk:Nat}(I:Inv X pins U H s) (h1 : -(2 ^ 62)<=lo) (h2:lo<2 ^ 62) (h3 : -(2 ^ 62)<=hi) (h4:hi<2 ^ 62)
  (q:R (kl lo (hi-lo).toNat) H):wpAny (model X.prog X.w) X.A (pyIter (.ref s.heap.objs.size)) (rA X pins U tg R) E { s with heap:=s.heap.push { cls:=.type "range", data:=.fields #[.int lo t,.int hi u,.int 1 v] },toks:=tk }:=by
 refine wpAny_pyIter_range (IsRange.new ..) (small_one h1 h2 h3 h4) ?_
 have I1:Inv X pins U H { s with heap:=s.heap.push { cls:=.type "range", data:=.fields #[.int lo t,.int hi u,.int 1 v] },toks:=tk }:=I.kept λb o e=>z7 _ e
 refine ⟨(s.heap.push { cls:=.type "range", data:=.fields #[.int lo t,.int hi u,.int 1 v] }).objs.size,[(s.heap.push { cls:=.type "range", data:=.fields #[.int lo t,.int hi u,.int 1 v] }).objs.size],_,_,H,rfl,
  I1.kept (t':=tk) λb o e=>z7 _ e,BH _ lo (hi-lo).toNat,?_,λb hb=>?_,q⟩
 ·have e1:lo+((0:Nat):Int)*1=lo:=by simp
  have e2:(((hi-lo).toNat:Nat):Int)-((0:Nat):Int)=Builtin.Range.rangeSize lo hi 1:=by rw [rangeSize_one];split<;>omega
  show IsRangeIter _ _ (lo+((0:Nat):Int)*1) ((((hi-lo).toNat:Nat):Int)-((0:Nat):Int)) 1
  rw [e1,e2]
  exact yR _ rfl
 ·have e:b=(s.heap.push { cls:=.type "range", data:=.fields #[.int lo t,.int hi u,.int 1 v] }).objs.size:=by simpa using hb
  subst e
  exact I1.fpOk (zI _) (I1.hok.fresh (zI _))
def cD (ta:TA):TI:=λU H R=>ta U H λvs H1=>∃j:Int,vs=[.int j] /\ -(2 ^ 62)<=j/\j<2 ^ 62/\R (kl 0 j.toNat) H1
def oj (ta:TA):TI:=λU H R=>ta U H λvs H1=>∃i j:Int,vs=[.int i,.int j]/\(-(2 ^ 62)<=i/\i<2 ^ 62 /\ -(2 ^ 62)<=j/\j<2 ^ 62)/\R (kl i (j-i).toNat) H1
def BJ {a:Expr} {ta:TA} {p pos:Pos} (hg:Gl X "range") (hm:X.mg "range" = none) (ha:PA X [a] ta) (hs:starEach [a] X.env=[(false,eval a X.env)]:=by rfl):PI X tg (.Call (.Name "range" p) [a] [] pos) (cD ta):=by
 intro pins s U H R I h
 refine Call_ (kh I hg hm boot_range (PyProof.Rows.callWith_type1 (aS (ha pos pins s U H _ I h) λus s1 ⟨vs,H1,I1,r1,q1⟩=>?_) hs rfl))
 obtain ⟨j,e,q1,q2,q⟩:=q1
 subst e
 cases r1 with
 | cons r rr =>
  cases rr
  obtain ⟨t,rfl⟩:=r
  exact call_range_1 (BI I1 (by omega) (by omega) q1 q2 (by simpa using q))
def BK (wi:TI) (g:TG) (tb:TS):TS:=λD U H=>wi U H λJ H1=>∃W:Nat->Nat->St->Hp->Prop,(∃m,W 0 m U H1)/\∀i m U H,W i m U H ->
 (J.stop i H/\D.nx U H)\/(J.go i H/\∃N:St->Hp->Prop,(∀ah H',N ah H'->∃m',m'<m/\W (i+1) m' ah H')/\∀x H',J.yld i H x H'->g x U H' λaD H2=>tb { D with nx:=N,ct:=N,bk:=D.nx } aD H2)
def eh (fp:Ae) (h:Heap):Ac:=fp.filterMap λb=>(h.get? b).map λo=>(b,o)
def wO {fp:Ae}{h:Heap}{b:Addr}{o:Obj}(hb:b∈fp) (e:h.get? b=some o):(b,o)∈eh fp h:=List.mem_filterMap.mpr ⟨b,hb,by rw [e];rfl⟩
def BL {fp:Ae}{h:Heap}{p:Addr×Obj}(hp:p∈eh fp h):p.1∈fp/\h.get? p.1=some p.2:=by
 obtain ⟨b,hb,e⟩:=List.mem_filterMap.mp hp
 cases q:h.get? b with
 | none=>rw [q] at e;cases e
 | some o =>
  rw [q] at e
  have e':(b,o)=p:=Option.some.inj e
  subst e'
  exact ⟨hb,q⟩
def Inv.pinned {pins:Ac}{U:St}{H:Hp}{s:Shared}{fp:Ae}(I:Inv X pins U H s) (hf:∀b∈fp,b0 X pins H b) (ho:∀b∈fp,∃o,s.heap.get? b=some o/\∀v,o.data ≠ .cell v):Inv X (pins++eh fp s.heap) U H s :=
 I.pins_of λp hp=>(j1.mp hp).elim (λz=>I.pin p (yb _ z)) λz=>by
  obtain ⟨hb,e⟩:=BL z
  obtain ⟨f0,f1,f2,_⟩:=hf p.1 hb
  obtain ⟨o,e',d⟩:=ho p.1 hb
  rw [e] at e';cases e'
  exact ⟨e,f0,f1,f2,d⟩
def Inv.unpinned {pins pl:Ac}{U:St}{H:Hp}{s:Shared}(I:Inv X (pins++pl) U H s):Inv X pins U H s:=I.pins_of λp hp=>I.pin p (yb _ (jI _ hp))
def oq {iter:Expr}{body:List Stmt}{wi:TI}{g:TG}{tb:TS}{pos:Pos}(hp:PassesOwn (model X.prog X.w) X.A X.env X.xe) (hc:X.calm=true) (hi:PI X tg iter wi) (hg:PG X tg g) (hb:bM X body tb)
  (hs:∀x,foldedSetIterable iter X.env x=pure x:=by intro _;rfl):PS X (.For tg iter body [] pos) (BK wi g tb):=by
 intro pins s U H D I h
 refine wpAny_For (aS (hi pins s U H _ I h) λv s1 h1=>aS h1 λki s2 h2=>?_) hs
 obtain ⟨it,fp,tn,J,H2,e,I2,T,aA,f2,W,⟨m0,w0⟩,turn⟩:=h2
 subst e
 have stat:∀{H':Hp},(∀b∈fp,H' b=none)->∀b∈fp,b0 X pins H' b:=λhn b hb=>⟨hn b hb,(f2 b hb).2⟩
 refine codeAny_forLoop_any (λn s'=>∃i ah H',Inv X pins ah H' s'/\tn i s'.heap/\(∀b∈fp,H' b=none)/\W i n ah H') ?_ m0 ⟨0,U,H2,I2,aA,λb hb=>(f2 b hb).1,w0⟩
 rintro n s3 ⟨i,az,H3,I3,a4,eG,w3⟩
 rcases turn i n az H3 w3 with ⟨stop,qn⟩|⟨go,N,hN,step⟩
 ·refine wpAny_passesOwn hp (aS (T.done X rfl rfl rfl hc i pins s3 az H3 X.xe I3 (stat eG) a4 stop) λr s4 ⟨hr,I4⟩=>?_)
  subst hr
  exact wpAny_execs_nil ⟨az,H3,I4,qn⟩
 ·refine wpAny_passesOwn hp (aS (T.item X rfl rfl rfl hc i pins s3 az H3 X.xe I3 (stat eG) a4 go) λr s4 ⟨u,hr,h4⟩=>?_)
  subst hr
  refine wpAny_passesOwn hp (aS h4 λ_ s5 ⟨x,H5,I5,r5,y5,cM,gG⟩=>?_)
  have gH:=I5.pinned (stat gG) (T.obj _ _ cM)
  refine wpAny_passesOwn hp (aS (hg _ s5 az H5 x u _ gH r5 (step x H5 y5)) λ_ s6 ⟨aE,H6,I6,q6⟩=>?_)
  refine wpAny_passesOwn hp (aS (hb _ s6 aE H6 _ I6 q6) λf s7 q7=>?_)
  have again:∀{ax:St} {H7:Hp},Inv X (pins++eh fp s5.heap) ax H7 s7->N ax H7->∃m,m<n/\∃i ah H',Inv X pins ah H' s7/\tn i s7.heap/\(∀b∈fp,H' b=none)/\W i m ah H':=λ{ax H7} I7 n7=>by
   obtain ⟨m',hm,w7⟩:=hN ax H7 n7
   refine ⟨m',hm,i+1,ax,H7,I7.unpinned,T.keep _ _ _ cM λb hb o e=>(I7.pin (b,o) (yb _ (yb _ (wO hb e)))).1,λb hb=>?_,w7⟩
   obtain ⟨o,e,d⟩:=T.obj _ _ cM b hb
   exact (I7.pin (b,o) (yb _ (yb _ (wO hb e)))).2.1
  cases f with
  | next=>obtain ⟨ax,H7,I7,n7⟩:=q7;exact again I7 n7
  | cont=>obtain ⟨ax,H7,I7,n7⟩:=q7;exact again I7 n7
  | brk=>obtain ⟨ax,H7,I7,q7⟩:=q7;exact ⟨ax,H7,I7.unpinned,q7⟩
  | ret v=>obtain ⟨x7,ax,H7,I7,r7,q7⟩:=q7;exact ⟨x7,ax,H7,I7.unpinned,r7,q7⟩
end
def eI {K:PySem.W.Frag}{a:Addr}{xs:List V}{g:TG}{tb:TS}{D:Ends}{U:St}{H:Hp}(Pv:Nat->St->Hp->Prop) (h0:Pv 0 U H) (hl:∀i U H,i<=xs.length->Pv i U H->bt K H a xs)
  (hs:∀i x U H,xs[i]?=some x->Pv i U H->g x U H λaD H2=>tb { D with nx:=Pv (i+1),ct:=Pv (i+1),bk:=D.nx } aD H2) (hd:∀U H,Pv xs.length U H->D.nx U H) :
  ∃W:Nat->Nat->St->Hp->Prop,(∃m,W 0 m U H)/\∀i m U H,W i m U H ->
   ((iI K a).stop i H/\D.nx U H)\/((iI K a).go i H/\∃N:St->Hp->Prop,(∀ah H',N ah H'->∃m',m'<m/\W (i+1) m' ah H')/\∀x H',(iI K a).yld i H x H'->g x U H' λaD H2=>tb { D with nx:=N,ct:=N,bk:=D.nx } aD H2):=by
 refine ⟨λi m U H=>m=xs.length-i/\i<=xs.length/\Pv i U H,⟨xs.length,by simp,yX _,h0⟩,?_⟩
 rintro i m U H ⟨rfl,hi,p⟩
 have q:=hl i U H hi p
 by_cases a6:i<xs.length
 ·refine .inr ⟨⟨xs,xs[i],q,by simp [a6]⟩,Pv (i+1),λah H' p'=>⟨xs.length-(i+1),by omega,rfl,a6,p'⟩,λx H' y=>?_⟩
  obtain ⟨e,y⟩:=y
  subst e
  exact hs i x U _ (y xs q) p
 ·have e:i=xs.length:=by omega
  subst e
  exact .inl ⟨⟨xs,q,zI _⟩,hd U H p⟩
abbrev R2:=V->V->Hp->VK->Prop
def bf (X:Cx) (f:Value->Value->Sem Value) (r:R2):Prop :=
 ∀(pins:Ac) (s:Shared) (U:St) (H:Hp) (x y:V) (v u:Value) (Q:VK),Inv X pins U H s->RelV x v->RelV y u->r x y H Q ->
  wpAny (model X.prog X.w) X.A (f v u) (EP X pins U Q) X.xe s
def bj (X:Cx) (f:Value) (r:List V->Hp->VK->Prop):Prop :=
 ∀(pins:Ac) (s:Shared) (U:St) (H:Hp) (xs:List V) (us:Af) (Q:VK),Inv X pins U H s->Vals xs us->r xs H Q ->
  wpAny (model X.prog X.w) X.A (call f us) (EP X pins U Q) X.xe s
def km (r:R2) (ta tb:TE):TE:=λU H Q=>ta U H λx H1=>tb U H1 λy H2=>r x y H2 Q
def rI (C:Int->Int->Prop) (g:Int->Int->V):R2:=λx y H Q=>∃i j,x=.int i/\y=.int j/\C i j/\Q (g i j) H
def j9 (g:Int->Int->V):R2:=λx y H Q=>∃i j,x=.int i/\y=.int j/\Q (g i j) H
section
variable {X:Cx}{a b c:Expr}{ta tb tc:TE}{pos:Pos}
def kn (ha:PE X a ta) (hb:PE X b tb) {pins:Ac}{s:Shared}{U:St}{H:Hp}{R:V->V->Hp->Prop}(I:Inv X pins U H s)
  (h:ta U H λx H1=>tb U H1 λy H2=>R x y H2) {Q:Aa} {f:Value->Value->Sem Value}
  (hf:∀v u s2 x y H2,Inv X pins U H2 s2->RelV x v->RelV y u->R x y H2->wpAny (model X.prog X.w) X.A (f v u) Q X.xe s2) :
  wpAny (model X.prog X.w) X.A (eval a X.env) (λv aj=>wpAny (model X.prog X.w) X.A (eval b X.env) (λu aa=>wpAny (model X.prog X.w) X.A (f v u) Q X.xe aa) X.xe aj) X.xe s:=by
 refine aS (ha pins s U H _ I h) λv s1 ⟨x,H1,I1,r1,q1⟩=>?_
 refine aS (hb pins s1 U H1 _ I1 q1) λu s2 ⟨y,H2,I2,r2,q2⟩=>?_
 exact hf v u s2 x y H2 I2 r1 r2 q2
def BM {op:Operator}{r:R2}(ho:bf X (binaryOp op) r) (ha:PE X a ta) (hb:PE X b tb):PE X (.BinOp a op b pos) (km r ta tb):=by
 intro pins s U H Q I h
 exact wpAny_BinOp (kn ha hb I h λv u s2 x y H2 I2 rx ry q=>ho pins s2 U H2 x y v u Q I2 rx ry q)
def opI {f:Value->Value->Sem Value}{C:Int->Int->Prop}{g:Int->Int->Int}
  (rule:∀(i j:Int) (t u:Tok) (s:Shared) (Q:Aa) (E:Aa),C i j->Q (.int (g i j) s.toks) { s with toks:=s.toks+1 }->wpAny (model X.prog X.w) X.A (f (.int i t) (.int j u)) Q E s) :
  bf X f (rI C λi j=>.int (g i j)):=by
 intro pins s U H x y v u Q I rx ry h
 obtain ⟨i,j,rfl,rfl,hc,q⟩:=h
 obtain ⟨t,rfl⟩:=rx
 obtain ⟨t',rfl⟩:=ry
 exact rule i j t t' s _ _ hc ⟨.int (g i j),H,I.tok _,⟨_,rfl⟩,q⟩
def rB {f:Value->Value->Sem Value}{g:Int->Int->Int}
  (rule:∀(i j:Int) (t u:Tok) (s:Shared) (Q:Aa) (E:Aa),Q (.int (g i j) s.toks) { s with toks:=s.toks+1 }->wpAny (model X.prog X.w) X.A (f (.int i t) (.int j u)) Q E s) :
  bf X f (j9 λi j=>.int (g i j)):=by
 intro pins s U H x y v u Q I rx ry h
 obtain ⟨i,j,rfl,rfl,q⟩:=h
 obtain ⟨t,rfl⟩:=rx
 obtain ⟨t',rfl⟩:=ry
 exact rule i j t t' s _ _ ⟨.int (g i j),H,I.tok _,⟨_,rfl⟩,q⟩
def ou {f:Value->Value->Sem Value}{g:Int->Int->Bool}
  (rule:∀(i j:Int) (t u:Tok) (s:Shared) (Q:Aa) (E:Aa),Q (.bool (g i j)) s->wpAny (model X.prog X.w) X.A (f (.int i t) (.int j u)) Q E s) :
  bf X f (j9 λi j=>.bl (g i j)):=by
 intro pins s U H x y v u Q I rx ry h
 obtain ⟨i,j,rfl,rfl,q⟩:=h
 obtain ⟨t,rfl⟩:=rx
 obtain ⟨t',rfl⟩:=ry
 exact rule i j t t' s _ _ ⟨.bl (g i j),H,I,rfl,q⟩
def rD (i j:Int):Prop:=0<=j/\j<=1000000/\i.natAbs<2 ^ 64
def ic (i j:Int):Prop:=(-(2 ^ 64)<i/\i<2 ^ 64)\/(-(2 ^ 64)<j/\j<2 ^ 64)
def ic.ok {i j:Int}(h:ic i j):IntMulOk i j:=by
 rcases h with ⟨h1,h2⟩|⟨h1,h2⟩
 ·exact .of_left (intBits_le_64 h1 h2)
 ·exact .of_right (intBits_le_64 h1 h2)
def BN:bf X (binaryOp .Add) (j9 λi j=>.int (i+j)):=rB λ_ _ _ _ _ _ _ q=>add_int q
def BO:bf X (binaryOp .Sub) (j9 λi j=>.int (i-j)):=rB λ_ _ _ _ _ _ _ q=>sub_int q
def BP:bf X (binaryOp .Mult) (rI ic λi j=>.int (i*j)):=opI λ_ _ _ _ _ _ _ hc q=>mul_int q hc.ok
def BQ:bf X (binaryOp .Mod) (rI (λ_ j=>j≠0) λi j=>.int (i.fmod j)):=opI λ_ _ _ _ _ _ _ hc q=>mod_int' hc q
def BR:bf X (binaryOp .Pow) (rI rD λi j=>.int (i ^ j.toNat)):=opI λ_ _ _ _ _ _ _ hc q=>pow_int_small hc.1 hc.2.1 hc.2.2 q
def oy {pins:Ac}{U:St}{H:Hp}{s:Shared}{Q:VK}{k k':Bool}(I:Inv X pins U H s) (q:Q (.bl k) H) (e:k=k'):EP X pins U Q (.bool k') s:=by
 subst e
 exact ⟨.bl k,H,I,rfl,q⟩
def BS:bf X (compareOp .Lt) (j9 λi j=>.bl (decide (i<j))):=ou λ_ _ _ _ _ _ _ q=>lt_int q
def BU:bf X (compareOp .LtE) (j9 λi j=>.bl (decide (i<=j))):=ou λ_ _ _ _ _ _ _ q=>le_int q
def BV:bf X (compareOp .Gt) (j9 λi j=>.bl (decide (j<i))):=ou λ_ _ _ _ _ _ _ q=>gt_int q
def BW:bf X (compareOp .In) (λx y H Q=>∃i j,x=.str i/\y=.str j/\Q (.bl (!(Builtin.Str.occurrences j i 0 j.length 1).isEmpty)) H):=by
 intro pins s U H x y v u Q I rx ry h
 obtain ⟨i,j,rfl,rfl,q⟩:=h
 obtain ⟨t,rfl⟩:=rx
 obtain ⟨t',rfl⟩:=ry
 exact in_str (oy I q rfl)
def BX:bf X (compareOp .Is) (λx y H Q=>y=.non/\Q (.bl (decide (x=.non))) H):=by
 intro pins s U H x y v u Q I rx ry h
 obtain ⟨rfl,q⟩:=h
 cases ry
 refine is_none_gen (oy I q ?_)
 cases x<;>first
  | (cases rx;rfl)
  | (obtain ⟨t,rfl⟩:=rx;rfl)
def BZ:bf X (compareOp .IsNot) (λx y H Q=>y=.non/\Q (.bl (!decide (x=.non))) H):=by
 intro pins s U H x y v u Q I rx ry h
 obtain ⟨rfl,q⟩:=h
 cases ry
 refine isnot_none_gen (oy I q ?_)
 cases x<;>first
  | (cases rx;rfl)
  | (obtain ⟨t,rfl⟩:=rx;rfl)
def bf.or {f:Value->Value->Sem Value}{r r':R2}(h:bf X f r) (h':bf X f r'):bf X f (λx y H Q=>r x y H Q\/r' x y H Q):=by
 intro pins s U H x y v u Q I rx ry q
 rcases q with q|q
 ·exact h pins s U H x y v u Q I rx ry q
 ·exact h' pins s U H x y v u Q I rx ry q
def ie (b:Expr) {op:CmpOp}(h:op ≠ .In:=by decide) (h2:op ≠ .NotIn:=by decide):behindInMarks op b=false:=by
 have e1:(op==CmpOp.In)=false:=by cases op<;>first|rfl|exact absurd rfl h
 have e2:(op==CmpOp.NotIn)=false:=by cases op<;>first|rfl|exact absurd rfl h2
 cases b<;>simp [behindInMarks,e1,e2]
def B0 {op:CmpOp}{r:R2}(ho:bf X (compareOp op) r) (ha:PE X a ta) (hb:PE X b tb) (hm:behindInMarks op b=false):PE X (.Compare a [op] [b] pos) (km r ta tb):=by
 intro pins s U H Q I h
 exact wpAny_Compare1 (kn ha hb I h λv u s2 x y H2 I2 rx ry q=>ho pins s2 U H2 x y v u Q I2 rx ry q) hm
def B1 (t:TE):TT:=λU H Q=>t U H λx H'=>∃k,x=.bl k/\Q k H'
def rE {op:CmpOp}{r:R2}(ho:bf X (compareOp op) r) (ha:PE X a ta) (hb:PE X b tb) (hm:behindInMarks op b=false):PT X (.Compare a [op] [b] pos) (B1 (km r ta tb)):=by
 intro pins s U H Q I h
 refine wpAny_isTrue_Compare1 (aS (ha pins s U H _ I h) λv s1 ⟨x,H1,I1,r1,q1⟩=>aS (hb pins s1 U H1 _ I1 q1) λu s2 ⟨y,H2,I2,r2,q2⟩ =>
  aS (ho pins s2 U H2 x y v u _ I2 r1 r2 q2) λc s3 ⟨z,H3,I3,r3,k,e,q3⟩=>?_) hm
 subst e
 cases r3
 exact wu ⟨H3,I3,q3⟩
def ma:(sizeLine:Nat)<2 ^ 63:=by rw [sizeLine_eq];decide
def B2:bf X (binaryOp .Add) (λx y H Q=>∃i j,x=.str i/\y=.str j/\i.length+j.length<=sizeLine/\Q (.str (i++j)) H):=by
 intro pins s U H x y v u Q I rx ry h
 obtain ⟨i,j,rfl,rfl,hz,q⟩:=h
 obtain ⟨t,rfl⟩:=rx
 obtain ⟨t',rfl⟩:=ry
 exact add_str (λt' tk=>⟨.str (i++j),H,I.tok _,⟨_,rfl⟩,q⟩) hz
def vals1 {x:V}{us:Af}(r:Vals [x] us):∃u,us=[u]/\RelV x u:=by
 cases r with
 | cons r1 r2=>cases r2;exact ⟨_,rfl,r1⟩
def rF {x y:V}{us:Af}(r:Vals [x,y] us):∃u w',us=[u,w']/\RelV x u/\RelV y w':=by
 cases r with
 | cons r1 r2 =>
  cases r2 with
  | cons r3 r4=>cases r4;exact ⟨_,_,rfl,r1,r3⟩
def B3 (hc:X.calm=true):bj X (.builtin "min") (λxs H Q=>∃i j,xs=[.int i,.int j]/\Q (.int (if j<i then j else i)) H):=by
 intro pins s U H xs us Q I r h
 obtain ⟨i,j,rfl,q⟩:=h
 obtain ⟨u,w',rfl,⟨t,rfl⟩,⟨t',rfl⟩⟩:=rF r
 refine min_two_ints (I.ok.hd hc) λh' tk k=>⟨_,H,I.kept k,?_,q⟩
 by_cases hj:j<i
 ·rw [zw hj,zw hj];exact ⟨_,rfl⟩
 ·rw [zC hj,zC hj];exact ⟨_,rfl⟩
def B4:bj X (.type "str") (λxs H Q=>∃i,xs=[.int i]/\i.natAbs.log2<1920/\Q (.str (toString i)) H):=by
 intro pins s U H xs us Q I r h
 obtain ⟨i,rfl,hz,q⟩:=h
 obtain ⟨u,rfl,t,rfl⟩:=vals1 r
 exact PySem.P.str_of_int hz ⟨.str _,H,I.tok _,⟨_,rfl⟩,q⟩
def rG (K:PySem.W.Frag) (x:V) (H:Hp) (n:Nat):Prop :=
 match x with
 | .str y=>y.length<=sizeLine/\n=y.length
 | .byt y=>y.size<=sizeLine/\n=y.size
 | .ref p=>(∃xs,a3 K H p xs/\n=xs.length)\/∃xs,bt K H p xs/\n=xs.length
 | _=>False
def B5:bj X (.builtin "len") (λxs H Q=>∃x n,xs=[x]/\rG X.K x H n/\Q (.int n) H):=by
 intro pins s U H xs us Q I r h
 obtain ⟨x,n,rfl,e,q⟩:=h
 obtain ⟨u,rfl,rx⟩:=vals1 r
 have hl:=ma
 have hs:sizeLine=16777216:=sizeLine_eq
 cases x with
 | str y =>
  obtain ⟨t,rfl⟩:=rx
  obtain ⟨hy,e'⟩:y.length<=sizeLine/\n=y.length:=e
  subst e'
  exact len_str (by omega) ⟨.int _,H,I.tok _,⟨_,rfl⟩,q⟩
 | byt y =>
  obtain ⟨t,rfl⟩:=rx
  obtain ⟨hy,e'⟩:y.size<=sizeLine/\n=y.size:=e
  subst e'
  exact PySem.W.len_bytes (by omega) ⟨.int _,H,I.tok _,⟨_,rfl⟩,q⟩
 | ref p =>
  cases rx
  have e':(∃xs,a3 X.K H p xs/\n=xs.length)\/∃xs,bt X.K H p xs/\n=xs.length:=e
  rcases e' with ⟨xs,hx,e'⟩|⟨xs,hx,e'⟩
  ·subst e'
   obtain ⟨its,r',pl,hz⟩:=I.list hx
   have hlen:=r'.length
   exact Calls.call_len_list pl.isList (by simp only [yr];omega) ⟨.int xs.length,H,I.tok _,⟨_,by simp only [yr];rw [hlen]⟩,q⟩
  ·subst e'
   obtain ⟨its,r',pl,hz⟩:=I.tuple hx
   have hlen:=r'.length
   exact len_tuple pl (by simp only [yr];omega) ⟨.int xs.length,H,I.tok _,⟨_,by simp only [yr];rw [hlen]⟩,q⟩
 | _=>exact (show False from e).elim
end
structure eJ (h:Heap) (x dx C:Addr) (mA:Ab):Prop where
 obj:h.get? x=some (PySem.W.instObj C dx)
 ns:h.Ns1 dx mA
 ne:dx≠x
def rH {h:Heap}{dx:Addr}{mA:Ab}(n:h.Ns1 dx mA):∃od,h.get? dx=some od/\∀name,PySem.W.lookIn name od=some (mA name):=by
 obtain ⟨o,es,ep,ho,hd,hk,_,hm⟩:=n
 refine ⟨o,ho,λname=>?_⟩
 have e:=hm name
 unfold nsFind findBy at e
 rw [<-Array.find?_toList] at e
 unfold PySem.W.lookIn
 rw [hd]
 dsimp only
 split
 ·rename_i y q
  rw [q] at e
  exact congrArg some e
 ·rename_i q
  rw [q] at e
  have a:es.toList.any (·.refKey)=false:=by
   rw [List.any_eq_false]
   intro y hy
   obtain ⟨z,t,fA⟩:=hk y (Array.mem_toList_iff.mp hy)
   simp [DictEntry.refKey,fA]
  have a':¬es.toList.any (·.refKey)=true:=by rw [a];exact Bool.false_ne_true
  rw [zC a']
  exact congrArg some e
def eJ.look {h:Heap}{x dx C:Addr}{mA:Ab}(I:eJ h x dx C mA):∃od,PySem.W.InstAt h x (PySem.W.instObj C dx) C (some od)/\∀name,PySem.W.lookIn name od=some (mA name) :=
 let ⟨od,ho,hl⟩:=rH I.ns
 ⟨od,⟨I.obj,rfl,rfl,ho⟩,hl⟩
section
variable {prog:Program}{w:World}{A:Around}{E:Aa}{s:Shared}{K:PySem.W.Frag}{x dx C f:Addr}{mA:Ab}{name:Str}{v:Value}
def B6 {expr:Bool}{Q:Aa}(X:K.In s.heap) (I:eJ s.heap x dx C mA) (hg:PySem.W.plainGet K C name=true) (hh:PySem.W.hasDictIn K C=true)
  (ha:PySem.W.findIn K (.ref C) name=some none) (hv:mA name=some v) (md:PySem.W.handedIn v=true) (h:Q v { s with toks:=s.toks+1 }) :
  wpAny (model prog w) A (getAttr (.ref x) name expr) Q E s:=by
 obtain ⟨od,J,hl⟩:=I.look
 exact PySem.W.get_value X J (PySem.W.plainGet_of hg).1 (PySem.W.findObj_own hh ha rfl (by rw [hl,hv])) md h
def B7 {pl:Sem Bool}{Q:Value×List Value->Shared->Prop}(X:K.In s.heap) (I:eJ s.heap x dx C mA) (hg:PySem.W.plainGet K C name=true)
  (hf:PySem.W.findIn K (.ref C) name=some (some (.ref f))) (ht:PySem.W.isFn K (.ref f)=true) (hv:mA name=none) (h:Q (.ref f,[.ref x]) s) :
  wpAny (model prog w) A (getMethod (.ref x) name pl) Q E s:=by
 obtain ⟨od,J,hl⟩:=I.look
 exact PySem.W.method_fn X J (PySem.W.plainGet_of hg).1 (PySem.W.plainGet_of hg).2 hf (beq_iff_eq.mp ht) (by show (PySem.W.lookIn name od).map (·.isSome)=some false;rw [hl,hv];rfl) h
def B8 {ns:Ad}{Q:Unit->Shared->Prop}(X:K.In s.heap) (I:eJ s.heap x dx C mA)
  (hs:PySem.W.findIn K (.ref C) "__setattr__" = some (some (.builtin "object.__setattr__"))) (hp:PySem.W.plainOver K C=true) (ht:PySem.W.takerIn K C name=some none) (hh:PySem.W.hasDictIn K C=true)
  (hw:PySem.Within mA ns) (hsz:ns.length<=sizeLine)
  (h:∀h',eJ h' x dx C (λy=>if y=name then some v else mA y)->Heap.SameBut dx s.heap h'->Q () { s with heap:=h',toks:=s.toks+2 }) :
  wpAny (model prog w) A (setAttr (.ref x) name v) Q E s:=by
 obtain ⟨od,J,hl⟩:=I.look
 refine PySem.W.set_plain X J hs (PySem.W.osa_open (s:={ s with toks:=s.toks+1 }) (r:=none) X J hp ht λb=>?_)
 obtain ⟨cd,hc,eD⟩:=PySem.W.any_some hh
 have hx:s.heap.get? x=some ⟨.ref C,some dx,.plain,#[]⟩:=I.obj
 refine zq (zE (zq (zq (wpAny_loadPart hx (zq (PySem.W.Looks.here (s:={ s with toks:=s.toks+1 }) (PySem.W.looks_clsIn X hc) ?_))))))
 rw [eD]
 refine zE (a:=some dx) (zq (zE (zq ?_)))
 refine wpAny_nsSet1 (s:={ s with toks:=s.toks+1 }) I.ns λh' dg rJ=>?_
 obtain ⟨oD,Ku,Kv,B9,B_,Ca⟩:=dg.count (PySem.Within.cons name v hw)
 refine zq (wpAny_lookBehind B9 (by rw [B_];exact pastItsLine_dict (yM Ca (by rw [jx];omega))) ?_)
 exact zE (h _ ⟨(rJ.2 _ (y3 I.ne)).trans I.obj,dg,I.ne⟩ rJ)
def Cb {R:Result->Shared->Prop}{vs:Af}{kw:List (Str×Value)}(X:K.In s.heap) (hm:PySem.W.makesIn K C=true)
  (hi:PySem.W.findIn K (.ref C) "__init__" = some (some (.ref f))) (hf:PySem.W.typeIn K (.ref f)=some (.type "function"))
  (h:codeAny (model prog w) (A.under (.builtin "type.__call__" ⟨.ref C::vs,kw⟩)) (.call (.ref f) ⟨.ref (s.heap.objs.size+1)::vs,kw⟩) (PySem.W.InitBack (s.heap.objs.size+1) R)
   { s with heap:=(s.heap.push PySem.W.emptyDict).push (PySem.W.instObj C s.heap.objs.size) }) :
  codeAny (model prog w) A (.call (.ref C) ⟨vs,kw⟩) R s:=by
 obtain ⟨hh,g,d,t,os⟩:=s
 exact PySem.W.make_core (PySem.W.makes_of X hm) (PySem.W.looks_findIn X hi) (λself=>PySem.W.bind_fn X self hf) (.inl rfl) h
end
def bG (f:Str) (v:V):List (Str×V)->List (Str×V)
 | []=>[(f,v)]
 | (g,x)::r=>if g=f then (g,v)::r else (g,x)::bG f v r
def rK (f g:Str) (v:V):∀fs:List (Str×V),(bG f v fs).lookup g=if g=f then some v else fs.lookup g
 | []=>by
  show List.lookup g [(f,v)]=_
  by_cases h:g=f
  ·have hb:(g==f)=true:=beq_iff_eq.mpr h
   simp only [List.lookup,hb,zw h]
  ·have hb:(g==f)=false:=beq_eq_false_iff_ne.mpr h
   simp only [List.lookup,hb,zC h]
 | (k,x)::r=>by
  have ih:=rK f g v r
  rw [show bG f v ((k,x)::r)=(if k=f then (k,v)::r else (k,x)::bG f v r) from rfl]
  by_cases hk:k=f
  ·rw [zw hk]
   by_cases h:g=k
   ·have hb:(g==k)=true:=beq_iff_eq.mpr h
    simp only [List.lookup,hb,zw (h.trans hk)]
   ·have hb:(g==k)=false:=beq_eq_false_iff_ne.mpr h
    simp only [List.lookup,hb,zC (λe:g=f=>h (e.trans hk.symm))]
  ·rw [zC hk]
   by_cases h:g=k
   ·have hb:(g==k)=true:=beq_iff_eq.mpr h
    simp only [List.lookup,hb,zC (λe:g=f=>hk (h.symm.trans e))]
   ·have hb:(g==k)=false:=beq_eq_false_iff_ne.mpr h
    simp only [List.lookup,hb]
    exact ih
def oz (f:Str) (v:V):∀fs:List (Str×V),f∈(bG f v fs).map (·.1)/\∀g,g∈fs.map (·.1)->g∈(bG f v fs).map (·.1)
 | []=>⟨by simp [bG],λg h=>by simp at h⟩
 | (k,x)::r=>by
  obtain ⟨i1,i2⟩:=oz f v r
  rw [show bG f v ((k,x)::r)=(if k=f then (k,v)::r else (k,x)::bG f v r) from rfl]
  by_cases hk:k=f
  ·rw [zw hk]
   subst hk
   exact ⟨by simp,λg h=>by simpa using h⟩
  ·rw [zC hk]
   refine ⟨?_,λg h=>?_⟩
   ·rw [yC]
    exact y9 _ i1
   ·rw [yC] at h ⊢
    rcases yv.mp h with e|e
    ·exact yv.mpr (.inl e)
    ·exact y9 _ (i2 g e)
def rL (f:Str) (v:V):∀fs:List (Str×V),(bG f v fs).length<=fs.length+1
 | []=>by simp [bG]
 | (k,x)::r=>by
  have ih:=rL f v r
  rw [show bG f v ((k,x)::r)=(if k=f then (k,v)::r else (k,x)::bG f v r) from rfl]
  by_cases hk:k=f
  ·rw [zw hk,jx,jx];omega
  ·rw [zC hk,jx,jx];omega
def bO.some_of {v:V}{o:Option Value}(r:bO (some v) o):∃u,o=some u/\RelV v u:=by
 cases o with
 | none=>exact (show False from r).elim
 | some u=>exact ⟨u,rfl,r⟩
def bO.none_of {o:Option Value}(r:bO none o):o=none:=by
 cases o with
 | none=>rfl
 | some u=>exact (show False from r).elim
def rM {v:V}{u:Value}(r:RelV v u):PySem.W.handedIn u=true:=by
 cases v with
 | non=>cases (show u=Value.none from r);rfl
 | bl b=>cases (show u=Value.bool b from r);rfl
 | int i=>obtain ⟨t,e⟩:=(show ∃t,u=Value.int i t from r);cases e;rfl
 | str x=>obtain ⟨t,e⟩:=(show ∃t,u=Value.str x t from r);cases e;rfl
 | byt b=>obtain ⟨t,e⟩:=(show ∃t,u=Value.bytes b t from r);cases e;rfl
 | flt b=>obtain ⟨t,e⟩:=(show ∃t,u=Value.float b t from r);cases e;rfl
 | ref a=>cases (show u=Value.ref a from r);rfl
 | ty n=>cases (show u=Value.type n from r);rfl
section
variable {P:Program}{w:World}{H H':Hp}{h h':Heap}{a C dx:Addr}{fs AY:List (Str×V)}
def mf (hok:bA P w H h) (e:H a=some (.ins C dx fs)):∃mA,eJ h a dx C mA/\(∀f,bO (fs.lookup f) (mA f))/\PySem.Within mA (fs.map (·.1))/\fs.length<=1000/\H dx=some (.own a):=by
 obtain ⟨d,z,ne,ob,mA,n,r,q⟩:=(show aX P w H h a (.ins C dx fs) from hok a _ e)
 exact ⟨mA,⟨ob,n,ne⟩,r,q,z,d⟩
end
structure dG (K:PySem.W.Frag) (C:Addr):Prop where
 pg:PySem.W.plainGet K C Str.empty=true
 hd:PySem.W.hasDictIn K C=true
 po:PySem.W.plainOver K C=true
 sa:PySem.W.findIn K (.ref C) "__setattr__" = some (some (.builtin "object.__setattr__"))
def dG.get {K:PySem.W.Frag}{C:Addr}(c:dG K C) (f:Str):PySem.W.plainGet K C f=true:=c.pg
def cw (K:PySem.W.Frag) (C:Addr) (f:Str):Prop:=PySem.W.findIn K (.ref C) f=some none
def cw.taker {K:PySem.W.Frag}{C:Addr}{f:Str}(n:cw K C f):PySem.W.takerIn K C f=some none:=by
 unfold PySem.W.takerIn
 rw [show PySem.W.findIn K (.ref C) f=some none from n]
 rfl
structure Kw (K:PySem.W.Frag) (C:Addr) (f:Str) (v:V) (u:Value):Prop where
 at_:PySem.W.findIn K (.ref C) f=some (some u)
 rel:RelV v u
 get:PySem.W.specialIn K u "__get__" = some none
 cp:PySem.W.copiedNames.contains f=false
structure Meth (K:PySem.W.Frag) (C:Addr) (m:Str) (f:Addr):Prop where
 at_:PySem.W.findIn K (.ref C) m=some (some (.ref f))
 fn:PySem.W.isFn K (.ref f)=true
 kp:PySem.W.keepIn K (.ref f)=true
section
variable {X:Cx}{pins:Ac}{U:St}{H:Hp}{s:Shared}{a C dx:Addr}{fs:List (Str×V)}{f:Str}{v:V}{A:Around}{E:Aa}
def Cc {b:Bool}{Q:Aa}(I:Inv X pins U H s) (e:H a=some (.ins C dx fs)) (c:dG X.K C) (n:cw X.K C f) (l:fs.lookup f=some v)
  (h:∀u s',Inv X pins U H s'->RelV v u->Q u s'):wpAny (model X.prog X.w) A (getAttr (.ref a) f b) Q E s:=by
 obtain ⟨mA,O,r,_,_,_⟩:=mf I.hok e
 obtain ⟨u,hu,ru⟩:=bO.some_of (v:=v) (o:=mA f) (by rw [<-l];exact r f)
 exact B6 I.kIn O (c.get f) c.hd n hu (rM ru) (h u _ (I.tok _) ru)
def Cd {m:Str}{g:Addr}{pl:Sem Bool}{Q:Value×List Value->Shared->Prop}(I:Inv X pins U H s) (e:H a=some (.ins C dx fs)) (c:dG X.K C) (k:Meth X.K C m g) (l:fs.lookup m=none)
  (h:Q (.ref g,[.ref a]) s):wpAny (model X.prog X.w) A (getMethod (.ref a) m pl) Q E s:=by
 obtain ⟨mA,O,r,_,_,_⟩:=mf I.hok e
 have hn:mA m=none:=bO.none_of (by rw [<-l];exact r m)
 exact B7 I.kIn O (c.get m) k.at_ k.fn hn h
def Ce {y:V}{u:Value}{Q:Unit->Shared->Prop}(I:Inv X pins U H s) (e:H a=some (.ins C dx fs)) (c:dG X.K C) (n:cw X.K C f) (hl:fs.length<1000) (ry:RelV y u)
  (h:∀s',Inv X pins U (upd H a (.ins C dx (bG f y fs))) s'->Q () s'):wpAny (model X.prog X.w) A (setAttr (.ref a) f u) Q E s:=by
 obtain ⟨mA,O,r,wi,_,ho⟩:=mf I.hok e
 have hz:(fs.map (·.1)).length<=sizeLine:=by rw [ji,sizeLine_eq];omega
 refine B8 I.kIn O c.sa c.po n.taker c.hd wi hz λh' O' sb=>h _ ?_
 have hd:∃o,h'.get? dx=some o:=let ⟨o,_,_,e',_⟩:=O'.ns;⟨o,e'⟩
 refine I.write (x:=a) (e:=dx) (by rw [e];exact True.intro) (.inr ho) (λb q hb z=>(sb.2 b hb).trans z) hd ?_
 refine ⟨by rw [zF O.ne];exact ho,?_,O.ne,O'.obj,_,O'.ns,λg=>?_,λg hg=>?_⟩
 ·have:=rL f y fs;omega
 ·show bO ((bG f y fs).lookup g) (if g=f then some u else mA g)
  rw [rK]
  by_cases q:g=f
  ·rw [zw q,zw q];exact ry
  ·rw [zC q,zC q];exact r g
 ·by_cases q:g=f
  ·rw [q];exact (oz f y fs).1
  ·refine (oz f y fs).2 g (wi g λz=>hg ?_)
   show (if g=f then some u else mA g)=none
   rw [zC q];exact z
def Inv.made (I:Inv X pins U H s):Inv X pins U (upd (upd H s.heap.objs.size (.own (s.heap.objs.size+1))) (s.heap.objs.size+1) (.ins C s.heap.objs.size []))
  { s with heap:=(s.heap.push PySem.W.emptyDict).push (PySem.W.instObj C s.heap.objs.size) }:=by
 have e1:(s.heap.push PySem.W.emptyDict).get? s.heap.objs.size=some PySem.W.emptyDict:=yR s.heap rfl
 have e2:((s.heap.push PySem.W.emptyDict).push (PySem.W.instObj C s.heap.objs.size)).get? (s.heap.objs.size+1)=some (PySem.W.instObj C s.heap.objs.size):=by
  have:=yR (s.heap.push PySem.W.emptyDict) (o:=PySem.W.instObj C s.heap.objs.size) rfl
  rwa [Heap.size_push] at this
 have e3:(s.heap.push PySem.W.emptyDict).Ns s.heap.objs.size (λ_=>none):=⟨PySem.W.emptyDict,#[],_,e1,rfl,(λe he=>absurd he (by simp)),λ_=>rfl⟩
 have I1:=I.laid (a:=s.heap.objs.size) (o:=.own (s.heap.objs.size+1)) (h':=s.heap.push PySem.W.emptyDict) (t':=s.toks) (λb u q=>z7 _ q) (zI _) ⟨_,e1⟩
 refine I1.laid (a:=s.heap.objs.size+1) (o:=.ins C s.heap.objs.size []) (t':=s.toks) (λb u q=>z7 _ q) (Nat.le_of_eq (Heap.size_push _ _)) ?_
 have ne:s.heap.objs.size≠s.heap.objs.size+1:=yt (jq _)
 refine ⟨by rw [zF ne,yx],yX _,ne,e2,λ_=>none,(Heap.Ns1.of_empty e3).at λo q=>z7 _ q,λ_=>True.intro,λy hy=>absurd rfl hy⟩
def Cf {prog:Program}{w:World}{env:Env}{e:Expr}{f:Str}{pos:Pos}{s:Shared}{Q:Aa}(hb:attributeBase e f env (eval e env)=eval e env)
  (h:wpAny (model prog w) A (eval e env) (λo aj=>wpAny (model prog w) A (getAttr o f true) Q E aj) E s):wpAny (model prog w) A (eval (.Attribute e f pos) env) Q E s :=
 Attribute_any_ h (by rw [arm_eval_Attribute,hb])
end
def sFld (K:PySem.W.Frag) (ta tv:TE) (f:Str):TS:=λD U H=>tv U H λy H1=>ta U H1 λx H2=>∃a C dx fs,x=.ref a/\H2 a=some (.ins C dx fs)/\dG K C/\cw K C f/\fs.length<1000 /\
 D.nx U (upd H2 a (.ins C dx (bG f y fs)))
section
variable {X:Cx}{o e value:Expr}{f:Str}{pos pos' rN:Pos}{ta tv:TE}
def Cg (ha:PE X o ta) (hv:PE X value tv) (hs:swapsWith value (some (.Attribute o f pos')) pos.line X.env=pure false):PS X (.Assign [.Attribute o f pos'] value pos) (sFld X.K ta tv f):=by
 intro pins s U H D I h
 refine plainObj_wpAny_Assign_Attribute (aS (hv pins s U H _ I h) λu s1 ⟨y,H1,I1,ry,q⟩=>aS (ha pins s1 U H1 _ I1 q) λov s2 ⟨x,H2,I2,rx,a,C,dx,fs,ex,ea,c,n,l,q2⟩=>?_) hs
 subst ex
 obtain rfl:ov=Value.ref a:=rx
 exact Ce I2 ea c n l ry λs3 I3=>⟨U,_,I3,q2⟩
end
section
variable {X:Cx}{pins:Ac}{U:St}{H:Hp}{s:Shared}{A:Around}{E:Aa}{Q:Aa}{c:Value}{b:Bool}
inductive cH (K:PySem.W.Frag) (H:Hp):V->Value->Prop where
 | non:cH K H .non (.type "NoneType")
 | bl (x:Bool):cH K H (.bl x) (.type "bool")
 | int (i:Int):cH K H (.int i) (.type "int")
 | str (x:Str):cH K H (.str x) (.type "str")
 | flt (x:UInt64):cH K H (.flt x) (.type "float")
 | lst {a:Addr} {xs:List V} (e:H a=some (.lst xs)):cH K H (.ref a) (.type "list")
 | frz {a:Addr} {o:Obj} {xs:List V} (e:H a=some (.frz o (.lst xs))):cH K H (.ref a) (.type "list")
 | tup {a:Addr} {xs:List V} (e:H a=some (.tup xs)):cH K H (.ref a) (.type "tuple")
 | dK {a:Addr} {kvs:List (Key×V)} (e:H a=some (.dK kvs)):cH K H (.ref a) (.type "dict")
 | dT {a:Addr} {kvs:List (List Key×V)} (e:H a=some (.dT kvs)):cH K H (.ref a) (.type "dict")
 | ins {a C dx:Addr} {fs:List (Str×V)} (e:H a=some (.ins C dx fs)) (cl:dG K C) (ha:PySem.W.findIn K (.ref C) "__class__" = some (some (.builtin "object.__class__")))
   (hn:PySem.W.specialIn K (.builtin "object.__class__") "__get__" = some (some (.builtin "getset_descriptor.__get__"))) (rO:PySem.W.takesIn K (.builtin "object.__class__")=some true)
   (hm:PySem.W.mroIn K C (.type "object")=some true):cH K H (.ref a) (.ref C)
def Ci {x:V}{u t:Value}(I:Inv X pins U H s) (rx:RelV x u) (ty:cH X.K H x t) (e:PySem.W.kitOne X.K t c=some b) (h:∀tk,Q (.bool b) { s with toks:=tk }) :
  wpAny (model X.prog X.w) A (call (.builtin "isinstance") [u,c]) Q E s:=by
 cases ty with
 | non=>cases (show u=Value.none from rx);exact PySem.W.kia_one PySem.W.kitx_none I.kIn True.intro e (λz=>nomatch z) h
 | bl y=>cases (show u=Value.bool y from rx);exact PySem.W.kia_one PySem.W.kitx_bool I.kIn True.intro e (λz=>nomatch z) h
 | int i=>obtain ⟨t,q⟩:=(show ∃t,u=Value.int i t from rx);cases q;exact PySem.W.kia_one PySem.W.kitx_int I.kIn True.intro e (λz=>nomatch z) h
 | str y=>obtain ⟨t,q⟩:=(show ∃t,u=Value.str y t from rx);cases q;exact PySem.W.kia_one PySem.W.kitx_str I.kIn True.intro e (λz=>nomatch z) h
 | flt y=>obtain ⟨t,q⟩:=(show ∃t,u=Value.float y t from rx);cases q;exact PySem.W.kia_one PySem.W.kitx_float I.kIn True.intro e (λz=>nomatch z) h
 | @lst a xs ea =>
  cases (show u=Value.ref a from rx)
  obtain ⟨_,_,n,_,h1⟩:=(show aX X.prog X.w H s.heap a (.lst xs) from I.hok a _ ea)
  exact PySem.W.kia_one PySem.W.kitx_list I.kIn ⟨_,h1,rfl⟩ e (λz=>nomatch z) h
 | @frz a ob xs ea =>
  cases (show u=Value.ref a from rx)
  obtain ⟨_,_,_,n,_,h1⟩:=(show aX X.prog X.w H s.heap a (.frz ob (.lst xs)) from I.hok a _ ea)
  exact PySem.W.kia_one PySem.W.kitx_list I.kIn ⟨_,h1,rfl⟩ e (λz=>nomatch z) h
 | @tup a xs ea =>
  cases (show u=Value.ref a from rx)
  obtain ⟨_,_,_,p⟩:=(show aX X.prog X.w H s.heap a (.tup xs) from I.hok a _ ea)
  obtain ⟨o,h1,h2,_⟩:=p
  exact PySem.W.kia_one PySem.W.kitx_tuple I.kIn ⟨o,h1,h2⟩ e (λz=>nomatch z) h
 | @dK a kvs ea =>
  cases (show u=Value.ref a from rx)
  obtain ⟨_,_,vs,_,p⟩:=(show aX X.prog X.w H s.heap a (.dK kvs) from I.hok a _ ea)
  obtain ⟨o,es,ep,h1,h2,_⟩:=p
  exact PySem.W.kia_one PySem.W.kitx_dict I.kIn ⟨o,h1,h2.1⟩ e (λz=>nomatch z) h
 | @dT a kvs ea =>
  cases (show u=Value.ref a from rx)
  obtain ⟨_,_,xs,_,o,es,ep,h1,h2,_⟩:=(show aX X.prog X.w H s.heap a (.dT kvs) from I.hok a _ ea)
  exact PySem.W.kia_one PySem.W.kitx_dict I.kIn ⟨o,h1,h2.1⟩ e (λz=>nomatch z) h
 | @ins a C dx fs ea cl ha hn rO hm =>
  cases (show u=Value.ref a from rx)
  obtain ⟨mA,O,_⟩:=mf I.hok ea
  obtain ⟨od,J,_⟩:=O.look
  exact PySem.W.kia_one (PySem.W.kitx_own (cl.get _) cl.hd ha hn rO hm) I.kIn J e (λz=>nomatch z) h
end
structure a5 (k:Nat) (A:Around):Prop where
 hd:A.handled=none
 dp:A.depth+3*k+5<recursionLimit
 un:A.units+16*k+200<cLine
def a5.mono {j k:Nat}{A:Around}(r:a5 k A) (h:j<=k):a5 j A:=⟨r.hd,by have:=r.dp;omega,by have:=r.un;omega⟩
def a5.deeper {k:Nat}{A:Around}(r:a5 (k+1) A) (env:Env):a5 k (A.deeper env) :=
 ⟨r.hd,by have:=r.dp;show A.depth+1+3*k+5<_;omega,by have:=r.un;show A.units+3+16*k+200<_;omega⟩
def a5.in1 {k:Nat}{A:Around}(r:a5 (k+1) A):a5 k A.in1 :=
 ⟨r.hd,by have:=r.dp;show A.depth+3*k+5<_;omega,by have:=r.un;show A.units+1+16*k+200<_;omega⟩
def Cj {A:Around} {C:Addr} {us:Af} {kw:List (Str×Value)}:(A.under (.builtin "type.__call__" ⟨.ref C::us,kw⟩)).depth=A.depth+1:=by
 first|rfl|simp [Around.under,Code.weight,Code.isCreation,Code.isGuard,Code.isCaller,Code.frames,Code.isFrame,guardIds]
def Ck {A:Around} {C:Addr} {us:Af} {kw:List (Str×Value)}:(A.under (.builtin "type.__call__" ⟨.ref C::us,kw⟩)).units=A.units+1:=by
 first|rfl|simp [Around.under,Code.cUnits,Code.frames,Code.isFrame]
def a5.make {k:Nat} {A:Around} (r:a5 (k+1) A) (C:Addr) (us:Af) (kw:List (Str×Value)):a5 k (A.under (.builtin "type.__call__" ⟨.ref C::us,kw⟩)) :=
 ⟨r.hd,by have:=r.dp;rw [Cj];omega,by have:=r.un;rw [Ck];omega⟩
def a5.depth {k:Nat}{A:Around}(r:a5 k A):A.depth<recursionLimit:=by have:=r.dp;omega
def a5.units {k:Nat}{A:Around}(r:a5 k A):A.units+64<cLine:=by have:=r.un;omega
def rP:TA:=λ_ H Q=>Q [] H
def Cm (ta:TE) (tr:TA):TA:=λU H Q=>ta U H λx H1=>tr U H1 λxs H2=>Q (x::xs) H2
section
variable {X:Cx}{e:Expr}{es:List Expr}{te:TE}{t:TA}{pos:Pos}
def mh:PA X [] rP:=λ_ _ _ _ H Q I h=>Calls.spliced_nil ⟨[],H,I,.nil,h⟩
def mi (ha:PE X e te) (hr:PA X es t) (hs:starEach (e::es) X.env=(false,eval e X.env)::starEach es X.env:=by rfl):PA X (e::es) (Cm te t):=by
 intro pos pins s U H Q I h
 rw [hs]
 show wpAny _ _ (spliced ((false,eval e X.env)::backTo pos (starEach es X.env))) _ _ s
 refine Calls.spliced_cons (aS (ha pins s U H _ I h) λu s1 ⟨x,H1,I1,r1,q1⟩=>?_)
 exact aS (hr pos pins s1 U H1 _ I1 q1) λus s2 ⟨xs,H2,I2,r2,q2⟩=>⟨x::xs,H2,I2,.cons r1 r2,q2⟩
def Cn (t:TA):TE:=λU H Q=>t U H λxs H1=>xs.length<=sizeLine/\∀p,H1 p=none->Q (.ref p) (upd H1 p (.tup xs))
def Co (t:TA):TE:=λU H Q=>t U H λxs H1=>xs.length<=sizeLine/\∀p,H1 p=none->Q (.ref p) (upd H1 p (.lst xs))
def Cp {x1}(h:PA X es t):PE X (.Tuple es x1 pos) (Cn t):=by
 intro pins s U H Q I hq
 refine wpAny_Tuple_spliced (aS (h pos pins s U H _ I hq) λus s1 ⟨xs,H1,I1,r,z,q⟩=>⟨by rw [<-r.length];exact z,?_⟩)
 have hf:H1 s1.heap.objs.size=none:=I1.hok.fresh (zI _)
 refine ⟨.ref s1.heap.objs.size,upd H1 s1.heap.objs.size (.tup xs),I1.laid (t':=s1.toks) (λb u e=>z7 _ e) (zI _) ?_,rfl,q _ hf⟩
 exact ⟨z,us,r,⟨_,yR _ rfl,rfl,_,rfl⟩⟩
def Cq (h:PA X es t):PE X (.List es pos) (Co t):=by
 intro pins s U H Q I hq
 refine wpAny_List_spliced (aS (h pos pins s U H _ I hq) λus s1 ⟨xs,H1,I1,r,z,q⟩=>⟨by rw [<-r.length];exact z,?_⟩)
 have hf:H1 s1.heap.objs.size=none:=I1.hok.fresh (zI _)
 refine ⟨.ref s1.heap.objs.size,upd H1 s1.heap.objs.size (.lst xs),I1.laid (t':=s1.toks) (λb u e=>z7 _ e) (zI _) ?_,rfl,q _ hf⟩
 exact ⟨z,us,0,r,yR _ rfl⟩
end
abbrev Sp:=List V->Hp->VK->XK->Prop
abbrev dv:=List Env->Hp->Shared->XK->Aa
structure dn (P:Program) (w:World) (K:PySem.W.Frag) (mg:Ab) (base:Heap) (A:Around) (outer:List Env) (s:Shared) (H:Hp):Prop where
 frames:A.frames=some outer
 mod:Mod K mg base
 bs:∀b o,base.get? b=some o->s.heap.get? b=some o/\H b=none
 bsz:base.objs.size<=s.heap.objs.size
 funs:s.heap.FunFrames base outer
 frf:∀b∈b_ outer,H b=none
 hok:bA P w H s.heap
 bare:AllBare s.gens
def CE (outer:List Env) (P:Program) (w:World) (H:Hp) (s:Shared) (Q:VK) (u:Value) (s':Shared):Prop :=
 ∃v H',s'.os=s.os/\AllBare s'.gens/\Un (b_ outer) [] H H' s.heap s'.heap/\bA P w H' s'.heap/\RelV v u/\Q v H'
def CR (CX:dv) (outer:List Env) (P:Program) (w:World) (H:Hp) (s:Shared) (Q:VK) (E:XK) (r:Result) (s':Shared):Prop :=
 match r with
 | .ok (.ret u)=>CE outer P w H s Q u s'
 | .ok _=>False
 | .error e=>CX outer H s E e s'
structure a_ (P:Program) (w:World) (K:PySem.W.Frag) (mg:Ab) (base:Heap) (CX:dv) (k:Nat) (f:Addr) (fd:FuncData) (ps:Ad) (sp:Sp):Prop where
 len:∀vs H Q E,sp vs H Q E->vs.length=ps.length
 run:∀(A:Around) (outer:List Env) (s:Shared) (H:Hp) (args:Args) (us:Af) (vs:List V) (Q:VK) (E:XK),a5 k A->dn P w K mg base A outer s H->BindsTo s fd args (ps.zip us)->Vals vs us->sp vs H Q E ->
  codeAny (model P w) A (.call (.ref f) args) (CR CX outer P w H s Q E) s
def a_.mono {P:Program}{w:World}{K:PySem.W.Frag}{mg:Ab}{base:Heap}{CX:dv}{j k:Nat}{f:Addr}{fd:FuncData}{ps:Ad}{sp:Sp}(F:a_ P w K mg base CX j f fd ps sp) (h:j<=k) :
  a_ P w K mg base CX k f fd ps sp:=⟨F.len,λA outer s H args us vs Q E hr=>F.run A outer s H args us vs Q E (hr.mono h)⟩
def a_.imp {P:Program}{w:World}{K:PySem.W.Frag}{mg:Ab}{base:Heap}{CX:dv}{k:Nat}{f:Addr}{fd:FuncData}{ps:Ad}{sp rQ:Sp}(F:a_ P w K mg base CX k f fd ps sp)
  (h:∀vs H Q E,rQ vs H Q E->sp vs H Q E):a_ P w K mg base CX k f fd ps rQ :=
 ⟨λvs H Q E q=>F.len vs H Q E (h _ _ _ _ q),λA outer s H args us vs Q E hr he hb hv hs=>F.run A outer s H args us vs Q E hr he hb hv (h _ _ _ _ hs)⟩
def dn.make {P:Program}{w:World}{K:PySem.W.Frag}{mg:Ab}{base:Heap}{A:Around}{outer:List Env}{s:Shared}{H:Hp}(e:dn P w K mg base A outer s H) (C:Addr) (us:Af) (kw:List (Str×Value)) :
  dn P w K mg base (A.under (.builtin "type.__call__" ⟨.ref C::us,kw⟩)) outer s H:=⟨by first|exact e.frames|(simpa [Around.under,Code.envs,Code.isFrame,pushEnvs] using e.frames),e.mod,e.bs,e.bsz,e.funs,e.frf,e.hok,e.bare⟩
def dn.in1 {P:Program}{w:World}{K:PySem.W.Frag}{mg:Ab}{base:Heap}{A:Around}{outer:List Env}{s:Shared}{H:Hp}(e:dn P w K mg base A outer s H) :
  dn P w K mg base A.in1 outer s H:=⟨e.frames,e.mod,e.bs,e.bsz,e.funs,e.frf,e.hok,e.bare⟩
section
variable {X:Cx}{pins:Ac}{U:St}{H:Hp}{s s':Shared}
def Inv.env0 (I:Inv X pins U H s):dn X.prog X.w X.K X.mg X.base X.A X.stack s H :=
 ⟨I.ok.frames,I.ok.mod,I.bs,yM I.ok.bsz I.sz,I.stack,I.stkFree,I.hok,I.bare⟩
def Inv.after {Q:VK}{u:Value}(I:Inv X pins U H s) (h:CE X.stack X.prog X.w H s Q u s'):EP X pins U Q u s':=by
 obtain ⟨v,H',os,bare,un,hok,r,q⟩:=h
 obtain ⟨hh,g,d,t,Cr⟩:=s'
 obtain rfl:Cr=s.os:=os
 exact ⟨v,H',I.call (h':=hh) (g':=g) (d':=d) (t':=t) (ch:=[]) un hok bare (λb z=>absurd z (by simp)),r,q⟩
end
def Cs (sp:Sp) (dh:List V) (E:XK) (t:TA):TE:=λU H Q=>t U H λvs H1=>sp (vs++dh) H1 Q E
def Ct (C:Addr) (sp:Sp) (dh:List V) (E:XK) (t:TA):TE:=λU H Q=>t U H λvs H1=>∀x dx,H1 x=none->H1 dx=none->dx≠x ->
 sp (.ref x::(vs++dh)) (upd (upd H1 dx (.own x)) x (.ins C dx [])) (λv H2=>v=.non/\Q (.ref x) H2) E
def Binds (K:PySem.W.Frag) (fd:FuncData) (ps:Ad) (ds:Af):Prop :=
 ∀(s:Shared) (us:Af),K.In s.heap->(us++ds).length=ps.length->BindsTo s fd ⟨us,[]⟩ (ps.zip (us++ds))
def Binds.all {K:PySem.W.Frag}{fd:FuncData}{ps:Ad}(h:∀us:Af,us.length=ps.length->bindArgs fd ⟨us,[]⟩=pure (ps.zip us)):Binds K fd ps []:=λs us _ hl=>by
 rw [List.append_nil] at hl ⊢
 exact .of_eq (h us hl)
def Passes (CX:dv) (X:Cx) (E:XK):Prop:=∀(pins:Ac) (U:St) (H:Hp) (s:Shared) (e:Value) (s':Shared),Inv X pins U H s->CX X.stack H s E e s'->X.xe e s'
section
variable {X:Cx}{CX:dv}{k:Nat}{f C:Addr}{fd:FuncData}{ps:Ad}{sp:Sp}{dh:List V}{ds:Af}{E:XK}{x m:Str}{p pos apos:Pos}{e o:Expr}{es:List Expr}{ta:TE}{t:TA}
def rR {pins:Ac}{U:St}{H:Hp}{s:Shared}{Q:VK}{us:Af}{vs:List V}(F:a_ X.prog X.w X.K X.mg X.base CX k f fd ps sp) (hr:a5 k X.A) (hb:Binds X.K fd ps ds) (hd:Vals dh ds) (hx:Passes CX X E)
  (I:Inv X pins U H s) (r:Vals vs us) (h:sp (vs++dh) H Q E):wpAny (model X.prog X.w) X.A (call (.ref f) us) (EP X pins U Q) X.xe s:=by
 have r2:Vals (vs++dh) (us++ds):=r.append hd
 have hl:(us++ds).length=ps.length:=by rw [<-r2.length];exact F.len _ _ _ _ h
 refine wpAny_call (codeAny_mono (F.run X.A X.stack s H ⟨us,[]⟩ (us++ds) (vs++dh) Q E hr I.env0 (hb s us I.kIn hl) r2 h) λr s' hq=>?_)
 cases r with
 | error e=>exact hx pins U H s e s' I hq
 | ok fl =>
  cases fl with
  | ret u=>exact I.after hq
  | next=>exact hq.elim
  | brk=>exact hq.elim
  | cont=>exact hq.elim
def Cu (F:a_ X.prog X.w X.K X.mg X.base CX k f fd ps sp) (hr:a5 k X.A) (hg:Gl X x) (hm:X.mg x=some (.ref f)) (hk:PySem.W.keepIn X.K (.ref f)=true) (hb:Binds X.K fd ps ds) (hd:Vals dh ds) (hx:Passes CX X E)
  (ha:PA X (e::es) t) (dw:(x==("__debug__" : Str))=false:=by decide) (he:starEach (e::es) X.env=(false,eval e X.env)::starEach es X.env:=by rfl) (bu:(backTo pos (starEach es X.env)).any (·.1)=false:=by rfl) :
  PE X (.Call (.Name x p) (e::es) [] pos) (Cs sp dh E t):=by
 intro pins s U H Q I h
 refine wpAny_Call_Name_kw (oh I hg hm ?_ dw)
 refine PySem.W.callWith_K (h₀:=X.base) I.ok.mod.kin hk (aS (ha pos pins s U H _ I h) λus s1 ⟨vs,H1,I1,r,q⟩=>⟨I1.kIn,?_⟩) he bu
 exact rR F hr hb hd hx I1 r q
structure Mk (K:PySem.W.Frag) (C f:Addr):Prop where
 makes:PySem.W.makesIn K C=true
 init:PySem.W.findIn K (.ref C) "__init__" = some (some (.ref f))
 fn:PySem.W.isFn K (.ref f)=true
 kp:PySem.W.keepIn K (.ref C)=true
def Cw {pins:Ac}{U:St}{H:Hp}{s:Shared}{Q:VK}{us:Af}{vs:List V}(M:Mk X.K C f) (F:a_ X.prog X.w X.K X.mg X.base CX k f fd ps sp) (hr:a5 (k+1) X.A) (hb:Binds X.K fd ps ds) (hd:Vals dh ds)
  (hx:Passes CX X E) (I:Inv X pins U H s) (r:Vals vs us)
  (h:∀x dx,H x=none->H dx=none->dx≠x->sp (.ref x::(vs++dh)) (upd (upd H dx (.own x)) x (.ins C dx [])) (λv H2=>v=.non/\Q (.ref x) H2) E) :
  wpAny (model X.prog X.w) X.A (call (.ref C) us) (EP X pins U Q) X.xe s:=by
 have hq:=h (s.heap.objs.size+1) s.heap.objs.size (I.hok.fresh (Nat.le_succ _)) (I.hok.fresh (zI _)) (yt (jq _))
 have I2:=Inv.made (C:=C) I
 have r2:Vals (V.ref (s.heap.objs.size+1)::(vs++dh)) (Value.ref (s.heap.objs.size+1)::(us++ds)):=.cons rfl (r.append hd)
 have hl:(Value.ref (s.heap.objs.size+1)::us++ds).length=ps.length:=by
  have e:=r2.length
  rw [F.len _ _ _ _ hq] at e
  exact e.symm
 refine wpAny_call (Cb (f:=f) I.kIn M.makes M.init (beq_iff_eq.mp M.fn) (codeAny_mono (F.run _ X.stack _ _ ⟨Value.ref (s.heap.objs.size+1)::us,[]⟩ (Value.ref (s.heap.objs.size+1)::(us++ds)) _ _ E (hr.make C us [])
  (I2.env0.make C us []) (hb _ (Value.ref (s.heap.objs.size+1)::us) I2.kIn hl) r2 hq) λr s' hq'=>?_))
 cases r with
 | error e=>exact hx pins U _ _ e s' I2 hq'
 | ok fl =>
  cases fl with
  | ret u =>
   obtain ⟨v,H',I3,rv,ev,q3⟩:=I2.after hq'
   subst ev
   exact ⟨rv,⟨V.ref (s.heap.objs.size+1),H',I3,rfl,q3⟩⟩
  | next=>exact hq'.elim
  | brk=>exact hq'.elim
  | cont=>exact hq'.elim
def Cy (M:Mk X.K C f) (F:a_ X.prog X.w X.K X.mg X.base CX k f fd ps sp) (hr:a5 (k+1) X.A) (hg:Gl X x) (hm:X.mg x=some (.ref C)) (hb:Binds X.K fd ps ds) (hd:Vals dh ds) (hx:Passes CX X E)
  (ha:PA X (e::es) t) (dw:(x==("__debug__" : Str))=false:=by decide) (he:starEach (e::es) X.env=(false,eval e X.env)::starEach es X.env:=by rfl) (bu:(backTo pos (starEach es X.env)).any (·.1)=false:=by rfl) :
  PE X (.Call (.Name x p) (e::es) [] pos) (Ct C sp dh E t):=by
 intro pins s U H Q I h
 refine wpAny_Call_Name_kw (oh I hg hm ?_ dw)
 refine PySem.W.callWith_K (h₀:=X.base) I.ok.mod.kin M.kp (aS (ha pos pins s U H _ I h) λus s1 ⟨vs,H1,I1,r,q⟩=>⟨I1.kIn,?_⟩) he bu
 exact Cw M F hr hb hd hx I1 r q
end
section
variable {X:Cx}{CX:dv}{k:Nat}{f C:Addr}{fd:FuncData}{ps ks:Ad}{sp:Sp}{E:XK}{x m:Str}{p pos apos Km:Pos}{e o:Expr}{es:List Expr}{Ky:List Keyword}{te ta:TE}{t tk:TA}{nm:Option Str}
structure AI (K:PySem.W.Frag) (fd:FuncData) (ps ks:Ad) (g:List Value->List Value->Af) (gV:List V->List V->List V):Prop where
 to:∀(s:Shared) (us ws:Af),K.In s.heap->(g us ws).length=ps.length->BindsTo s fd ⟨us,ks.zip ws⟩ (ps.zip (g us ws))
 rel:∀{vs:List V} {us:Af} {zs:List V} {ws:Af},Vals vs us->Vals zs ws->Vals (gV vs zs) (g us ws)
variable {g:List Value->List Value->Af}{gV:List V->List V->List V}
end
structure aR (N P:Ad) (sc:Scope):Prop where
 kind:sc.kind=.function
 co:sc.isCoroutine=false
 gen:sc.isGenerator=false
 nd:N.Nodup
 pre:N.take P.length=P
 par:∀x∈P,sc.names.lookup x=some .local\/sc.names.lookup x=some .cell
 nofree:∀y∈sc.names,y.2 ≠ .free
def rS {kindOf:Str->Option NameKind}{x:Str}:∀{binds:List (Str×Value)}{m:Ab},(∀v,(x,v)∉binds)->bindL kindOf binds m x=m x
 | [],_,_=>rfl
 | (n,v)::r,m,h=>by
  unfold bindL
  rw [rS λw hw=>h w (y9 _ hw)]
  split
  ·have:x≠n:=by rintro rfl;exact h v yL
   simp [this]
  ·rfl
def rT {kindOf:Str->Option NameKind}{x:Str}:∀{binds:List (Str×Value)}{m:Ab},(∀v,(x,v)∉binds)->bindC kindOf binds m x=m x
 | [],_,_=>rfl
 | (n,v)::r,m,h=>by
  unfold bindC
  rw [rT λw hw=>h w (y9 _ hw)]
  split
  ·rfl
  ·have:x≠n:=by rintro rfl;exact h v yL
   simp [this]
def rU {kindOf:Str->Option NameKind}{x:Str}{v:Value}:∀{P:Ad}{vs:Af}{i:Nat}{m:Ab},P.Nodup->P[i]?=some x->vs[i]?=some v->kindOf x=some .local ->
  bindL kindOf (P.zip vs) m x=some v
 | [],_,_,_,_,h,_,_=>by simp at h
 | _::_,[],_,_,_,_,h,_=>by simp at h
 | p::P,w::vs,0,m,nd,h1,h2,hk=>by
  simp at h1 h2;subst h1;subst h2
  show bindL kindOf ((p,w)::P.zip vs) m p=_
  unfold bindL
  rw [rS λv hv=>(ja.mp nd).1 (List.of_mem_zip hv).1,zw hk]
  simp
 | p::P,w::vs,i+1,m,nd,h1,h2,hk=>by
  show bindL kindOf ((p,w)::P.zip vs) m x=_
  unfold bindL
  exact rU (i:=i) (ja.mp nd).2 (by simpa using h1) (by simpa using h2) hk
def rV {kindOf:Str->Option NameKind}{x:Str}{v:Value}:∀{P:Ad}{vs:Af}{i:Nat}{m:Ab},P.Nodup->P[i]?=some x->vs[i]?=some v->kindOf x≠some .local ->
  bindC kindOf (P.zip vs) m x=some v
 | [],_,_,_,_,h,_,_=>by simp at h
 | _::_,[],_,_,_,_,h,_=>by simp at h
 | p::P,w::vs,0,m,nd,h1,h2,hk=>by
  simp at h1 h2;subst h1;subst h2
  show bindC kindOf ((p,w)::P.zip vs) m p=_
  unfold bindC
  rw [rT λv hv=>(ja.mp nd).1 (List.of_mem_zip hv).1,zC hk]
  simp
 | p::P,w::vs,i+1,m,nd,h1,h2,hk=>by
  show bindC kindOf ((p,w)::P.zip vs) m x=_
  unfold bindC
  exact rV (i:=i) (ja.mp nd).2 (by simpa using h1) (by simpa using h2) hk
def start (N:Ad) (vs:List V):St:=vs.map some++List.replicate (N.length-vs.length) none
def cI (CX:dv) (P:Program) (w:World) (K:PySem.W.Frag) (mg:Ab) (base:Heap) (N:Ad) (qual:Str) (scope:Scope) (f:Addr) (cd:Value) (A:Around) (outer:List Env) (s:Shared) (H:Hp) (E:XK):Cx where
 prog:=P
 w:=w
 K:=K
 mg:=mg
 base:=base
 A:=A.deeper (envOfC qual scope s.heap.objs.size f cd)
 N:=N
 s₀:=s
 H₀:=H
 env:=envOfC qual scope s.heap.objs.size f cd
 outer:=outer
 stack:=envOfC qual scope s.heap.objs.size f cd::outer
 ex:=[]
 calm:=true
 fn:=λ_=>true
 pn:=[]
 xe:=λe s'=>wpAny (model P w) (A.deeper (envOfC qual scope s.heap.objs.size f cd)) (leaving (envOfC qual scope s.heap.objs.size f cd) e) (λ_ oA=>CX outer H s E e oA) (λe' oA=>CX outer H s E e' oA) s'
def rW {sc:Scope}{n:Nat}{x:Str}(h:sc.names.lookup x=some .cell):∃c,(cellsFrom n sc.names []).lookup x=some c:=by
 have q:=PySem.W.cellsFrom_some sc.names n [] (.inl h)
 exact Option.isSome_iff_exists.mp q
def Cz {CX:dv}{P:Program}{w:World}{K:PySem.W.Frag}{mg:Ab}{base:Heap}{N ps:Ad}{qual:Str}{scope:Scope}{f:Addr}{cd:Value}{A:Around}{outer:List Env}{s s1:Shared}{H:Hp}{E:XK}{us:Af}{vs:List V}
  (S:aR N ps scope) (hd:A.handled=none) (e0:dn P w K mg base A outer s H) (hl:vs.length=ps.length) (r:Vals vs us)
  (x:InCallC s s.heap.objs.size (bindL (envOfC qual scope s.heap.objs.size f cd).kindOf (ps.zip us) λ_=>none) (cellsFrom (s.heap.objs.size+1) scope.names []) (bindC (envOfC qual scope s.heap.objs.size f cd).kindOf (ps.zip us) λ_=>none) s1) :
  Inv (cI CX P w K mg base N qual scope f cd A outer s H E) [] (start N vs) H s1:=by
 have bu:ps.length<=N.length:=by have:=congrArg List.length S.pre;rw [List.length_take] at this;omega
 obtain ⟨h1,tk,rfl,hk⟩:=x.done
 have ko:∀b:Addr,b∉(cI CX P w K mg base N qual scope f cd A outer s H E).ex:=λb z=>absurd (show b∈([]:Ae) from z) (by simp)
 refine ⟨⟨e0.mod,S.kind,rfl,rfl,zI _,λy z c h1 h2=>?_,λy hy=>?_,λy c _ h=>?_,λ_=>hd,Around.frames_deeper e0.frames,.inr ⟨rfl,rfl⟩,λb z=>absurd z (ko b),e0.bs,e0.bsz,λb _ _=>ko b,λb z=>absurd z (ko b),e0.funs,e0.frf⟩,
  rfl,e0.bare,Un.kept hk,⟨_,x.toInCall.ns,λi y v h1 h2 h3=>?_⟩,λy c h=>⟨_,x.cell y c h⟩,e0.hok.fresh (zI _),λy c h=>?_,λp hp=>absurd (show p∈([]:Ac) from hp) (by simp),e0.hok.kept hk,?_⟩
 ·exact name_of_addr x.apart (PySem.mem_of_lookup h1) (PySem.mem_of_lookup h2)
 ·have hy:scope.names.lookup y=some .cell\/scope.names.lookup y=some .free:=hy
  rcases hy with hy|hy
  ·exact rW hy
  ·exact absurd rfl (S.nofree _ (PySem.mem_of_lookup hy))
 ·exact Nat.le_of_lt (x.above y c (PySem.mem_of_lookup h))
 ·have hi:i<vs.length:=by
   unfold start at h2
   by_cases hi:i<vs.length
   ·exact hi
   ·rw [jd (by simpa using hi)] at h2
    rw [List.getElem?_replicate] at h2
    split at h2<;>cases h2
  have ha:vs[i]?=some v:=by
   unfold start at h2
   rw [jj (by simpa using hi),jp] at h2
   cases e:vs[i]? with
   | none=>rw [e] at h2;cases h2
   | some a=>rw [e] at h2;cases h2;rfl
  obtain ⟨u,hu,rv⟩:=r.get ha
  have hp:ps[i]?=some y:=by
   rw [<-S.pre,List.getElem?_take_of_lt (by omega)];exact h1
  have rX:ps.Nodup:=by rw [<-S.pre];exact S.nd.sublist (List.take_sublist _ _)
  refine ⟨u,rv,?_⟩
  rcases S.par y (jY hp) with k|k
  ·exact .inl ⟨k,rU rX hp hu k⟩
  ·obtain ⟨c,e⟩:=rW (n:=s.heap.objs.size+1) k
   refine .inr ⟨.inl k,c,e,?_⟩
   have q:=x.cell y c e
   rw [rV rX hp hu (by show scope.names.lookup y≠_;rw [k];decide)] at q
   exact q
 ·exact e0.hok.fresh (Nat.le_of_lt (x.above y c (PySem.mem_of_lookup h)))
 ·unfold start
  show _=N.length
  rw [jW,ji,List.length_replicate]
  omega
def rY {CX:dv}{P:Program}{w:World}{K:PySem.W.Frag}{mg:Ab}{base:Heap}{k:Nat}{f:Addr}{name qual:Str}{params:Arguments}{body:List Stmt}{scope:Scope}{dV kV doc pm aV ct oc:Value}{an od:Option Addr}
  {dH:Array (Option Value)} {N ps:Ad} {sp:Sp} (lk:K.lookup f=some ⟨oc,od,.func (PySem.W.fnOf name qual params body scope dV kV doc pm an aV ct),dH⟩) (du:PySem.W.codeIn K aV qual=true) (S:aR N ps scope)
  (len:∀vs H Q E,sp vs H Q E->vs.length=ps.length)
  (dy:∀(A:Around) (outer:List Env) (s:Shared) (H:Hp) (vs:List V) (Q:VK) (E:XK),a5 k (A.deeper (envOfC qual scope s.heap.objs.size f aV))->sp vs H Q E ->
   ∃t,bM (cI CX P w K mg base N qual scope f aV A outer s H E) body t/\t { nx:=λ_ H'=>Q .non H',rt:=Q } (start N vs) H) :
  a_ P w K mg base CX (k+1) f (PySem.W.fnOf name qual params body scope dV kV doc pm an aV ct) ps sp:=by
 refine ⟨len,λA outer s H args us vs Q E hr e0 hb r fq=>?_⟩
 have hl:=len _ _ _ _ fq
 have KX:K.In s.heap:=e0.mod.kin.keeps λb o e=>(e0.bs b o e).1
 have lim:s.heap.NoLimit:=e0.mod.nolimit.keeps λb o e=>(e0.bs b o e).1
 have oB:∀y∈ps.zip us,scope.names.lookup y.1=some .local\/(scope.names.lookup y.1=some .cell/\((cellsFrom (s.heap.objs.size+1) scope.names []).lookup y.1).isSome=true):=λ⟨n,v⟩ hy=>by
  rcases S.par n (List.of_mem_zip hy).1 with q|q
  ·exact .inl q
  ·exact .inr ⟨q,PySem.W.cellsFrom_some _ _ _ (.inl q)⟩
 refine codeAny_call_function hr.depth (KX _ _ lk) rfl S.co S.gen rfl (PySem.W.codeRec_of KX du) (hb _ _ _ _ ?_)
 refine wpAny_newFunctionEnv_cells S.kind oB λenv he s1 x=>?_
 subst he
 refine ⟨lim.keeps x.toInCall.keep,codeAny_func ?_⟩
 obtain ⟨t,ht,hq⟩:=dy A outer s H vs Q E (hr.deeper _) fq
 have I:Inv (cI CX P w K mg base N qual scope f aV A outer s H E) [] (start N vs) H s1:=Cz S hr.hd e0 hl r x
 refine yS (ht [] s1 (start N vs) H _ I hq) (λfl s' hs=>?_) λe s' hs=>hs
 have fin:∀{ah:St} {H':Hp} {v:V} {u:Value},Inv (cI CX P w K mg base N qual scope f aV A outer s H E) [] ah H' s'->RelV v u->Q v H'->CE outer P w H s Q u s' :=
  λ{ah H' v u} J rv q=>⟨v,H',J.os,J.bare,J.base,J.hok,rv,q⟩
 cases fl with
 | ret u =>
  obtain ⟨v,ah,H',J,rv,q⟩:=hs
  exact fin J rv q
 | next =>
  obtain ⟨ah,H',J,q⟩:=hs
  exact fin (v:=V.non) (u:=Value.none) J rfl q
 | brk =>
  obtain ⟨_,_,_,q⟩:=hs
  exact q.elim
 | cont =>
  obtain ⟨_,_,_,q⟩:=hs
  exact q.elim
section
variable {X:Cx}{x:Str}{p pos:Pos}{e:Expr}{es:List Expr}{t:TA}{id T:String}{r:List V->Hp->VK->Prop}
def rZ (r:List V->Hp->VK->Prop) (t:TA):TE:=λU H Q=>t U H λvs H1=>r vs H1 Q
def CA (hc:bj X (.builtin id) r) (hg:Gl X x) (hm:X.mg x=none) (hv:bootBuiltins x=some (.builtin id)) (ha:PA X (e::es) t) (hn:x ≠ "__name__" := by decide) (dw:(x==("__debug__" : Str))=false:=by decide)
  (he:starEach (e::es) X.env=(false,eval e X.env)::starEach es X.env:=by rfl) (bu:(backTo pos (starEach es X.env)).any (·.1)=false:=by rfl):PE X (.Call (.Name x p) (e::es) [] pos) (rZ r t):=by
 intro pins s U H Q I h
 refine wpAny_Call_Name_kw (kh I hg hm hv ?_ hn dw)
 exact PyProof.Rows.callWith_builtin1 (aS (ha pos pins s U H _ I h) λus s1 ⟨vs,H1,I1,r1,q1⟩=>hc pins s1 U H1 vs us Q I1 r1 q1) he bu
def CB (hc:bj X (.type T) r) (hg:Gl X x) (hm:X.mg x=none) (hv:bootBuiltins x=some (.type T)) (ha:PA X (e::es) t) (hn:x ≠ "__name__" := by decide) (dw:(x==("__debug__" : Str))=false:=by decide)
  (he:starEach (e::es) X.env=(false,eval e X.env)::starEach es X.env:=by rfl) (bu:(backTo pos (starEach es X.env)).any (·.1)=false:=by rfl):PE X (.Call (.Name x p) (e::es) [] pos) (rZ r t):=by
 intro pins s U H Q I h
 refine wpAny_Call_Name_kw (kh I hg hm hv ?_ hn dw)
 exact PyProof.Rows.callWith_type1 (aS (ha pos pins s U H _ I h) λus s1 ⟨vs,H1,I1,r1,q1⟩=>hc pins s1 U H1 vs us Q I1 r1 q1) he bu
end
end L2
namespace HT
open PySem PyProof.Rows
section
open PySem.SeqAt
open PySem.AutoSeq1 (wpAny_loadPart')
open PySem.MeetsSeq PySem.MeetsSeq2 PySem.MeetsSeq3
end
section
variable {prog:Program}{w:World}{A:Around}{E:Aa}{s:Shared}
def cat_tup {t b:Addr}{vs ws:Af}{Q:Aa}(ht:IsTup s.heap t vs.toArray) (hb:IsTup s.heap b ws.toArray) (hv:vs≠[])
  (h1:ws=[]->Q (.ref t) s) (h2:ws≠[]->Q (.ref s.heap.objs.size) { s with heap:=s.heap.push { cls:=.type "tuple", data:=.seq (vs++ws).toArray } })
  (hsz:vs.length+ws.length<=sizeLine):wpAny (model prog w) A (binaryOp .Add (.ref t) (.ref b)) Q E s:=by
 obtain ⟨⟨cls,dd,data,sl⟩,ho,hc,n,hd⟩:=id ht
 obtain ⟨⟨nZ,gI,data2,dX⟩,ho2,eK,n2,hd2⟩:=id hb
 simp only at hc hd eK hd2
 subst hc hd eK hd2
 have e:vs.toArray++ws.toArray=(vs++ws).toArray:=by simp
 by_cases hw:ws=[]
 ·exact concat_meets ⟨_,ho,rfl⟩ ⟨_,ho2,rfl⟩ noFill_tuple_add seq_tuple_add PySem.F.slot_tuple_add PySem.F.entry_tuple_add (PySem.F.args_tuple_add_2 _ _)
   (tuple_addW1 t b vs.toArray ws.toArray n n2 dd gI sl dX (by simpa using hv) (by simp [hw])) ⟨ho,ho2,h1 hw⟩
 ·refine concat_meets ⟨_,ho,rfl⟩ ⟨_,ho2,rfl⟩ noFill_tuple_add seq_tuple_add PySem.F.slot_tuple_add PySem.F.entry_tuple_add (PySem.F.args_tuple_add_2 _ _)
   (tuple_addW2 t b vs.toArray ws.toArray n n2 dd gI sl dX (by simpa using hv) (by simpa using hw) (by rw [yr,yr];exact hsz)) ⟨ho,ho2,?_⟩
  rw [e]
  exact h2 hw
def sIx (n d:Nat):Option Int->Nat
 | none=>d
 | some v=>if v<0 then (v+(n:Int)).toNat else min v.toNat n
def CD (n d:Nat) (hd:d<=n) (o:Option Int):sIx n d o<=n:=by
 cases o with
 | none=>exact hd
 | some v =>
  show (if v<0 then (v+(n:Int)).toNat else min v.toNat n)<=n
  by_cases hv:v<0
  ·rw [zw hv];omega
  ·rw [zC hv];exact Nat.min_le_right _ _
def r8 (v:Int) (n d:Nat):(if v<0 then max (v+(n:Int)) 0 else min v (n:Int))=((sIx n d (some v):Nat):Int):=by
 show (if v<0 then max (v+(n:Int)) 0 else min v (n:Int))=(((if v<0 then (v+(n:Int)).toNat else min v.toNat n):Nat):Int)
 by_cases hv:v<0
 ·simp only [zw hv];omega
 ·simp only [zC hv];omega
def CF (lo hi:Option Int) (n:Nat):Builtin.Slice.sliceAdjust lo hi 1 (n:Int)=(((sIx n 0 lo:Nat):Int),((sIx n n hi:Nat):Int)):=by
 have h1:¬((1:Int)<0):=by omega
 unfold Builtin.Slice.sliceAdjust
 simp only [h1,if_false]
 refine Prod.ext ?_ ?_
 ·cases lo with
  | none=>rfl
  | some v=>exact r8 v n 0
 ·cases hi with
  | none=>rfl
  | some v=>exact r8 v n n
def CG (i j:Nat):Builtin.Slice.slicePlaces (i:Int) (j:Int) 1=j-i:=by
 unfold Builtin.Slice.slicePlaces
 have h1:(1:Int)>0:=by omega
 simp only [h1,jX,Int.ediv_one]
 split<;>omega
def r9 {v:Value}{o:Option Int}{Q:Option Int->Shared->Prop}(p:IsPart v o) (h:Q o s):wpAny (model prog w) A (Builtin.Slice.slicePartIndex v) Q E s:=by
 cases p with
 | none=>exact slicePart_none h
 | int i t=>exact slicePart_int h
def sd {sl:Addr}{vl vu:Value}{lo hi:Option Int}{n:Nat}{Q:Int×Int×Nat->Shared->Prop}(hs:s.heap.IsSliceOf sl vl vu .none) (pl:IsPart vl lo) (pu:IsPart vu hi)
  (h:Q (((sIx n 0 lo:Nat):Int),1,sIx n n hi-sIx n 0 lo) s):wpAny (model prog w) A (Builtin.Slice.sliceApplied (.ref sl) (pure (n:Int))) Q E s:=by
 obtain ⟨os,gJ,mj,kq⟩:=id hs
 unfold Builtin.Slice.sliceApplied Builtin.Slice.sliceFields
 refine zq (zq (jU gJ kq (x:=vl) rfl (zq (jU gJ kq (x:=vu) rfl (zq (jU gJ kq (x:=.none) rfl (zE ?_)))))))
 refine zq (slicePart_none ?_)
 show wpAny _ _ (if ((1:Int)==0)=true then _ else _) _ _ s
 rw [zC (by decide)]
 refine zq (r9 pl (zq (r9 pu (zq (zE ?_)))))
 show wpAny _ _ (match Builtin.Slice.sliceAdjust lo hi 1 (n:Int) with|(lo,hi)=>pure (lo,(1:Int),Builtin.Slice.slicePlaces lo hi 1)) _ _ s
 rw [CF lo hi n]
 show wpAny _ _ (pure (((sIx n 0 lo:Nat):Int),(1:Int),Builtin.Slice.slicePlaces ((sIx n 0 lo:Nat):Int) ((sIx n n hi:Nat):Int) 1)) _ _ s
 rw [CG]
 exact zE h
def CH (xs:Array Value) (i k:Nat):((List.range k).filterMap λ(m:Nat)=>xs[((i:Int)+(m:Int)*1).toNat]?).toArray=((xs.toList.drop i).take k).toArray:=by
 have e:(λ(m:Nat)=>xs[((i:Int)+(m:Int)*1).toNat]?)=λm=>xs[i+m]?:=by
  funext m
  have:((i:Int)+(m:Int)*1).toNat=i+m:=by omega
  rw [this]
 rw [e]
 have:=pick_run xs i k
 rw [List.filterMap_map] at this
 have e2:((λx=>xs[x]?)∘λx=>i+x)=λm=>xs[i+m]?:=rfl
 rw [e2] at this
 rw [this]
def getItem_tuple_cut {t sl:Addr}{items:Array Value}{vl vu:Value}{lo hi:Option Int}{Q:Aa}(ht:IsTup s.heap t items) (hs:s.heap.IsSliceOf sl vl vu .none) (pl:IsPart vl lo) (pu:IsPart vu hi)
  (hw:¬(sIx items.size 0 lo=0/\sIx items.size items.size hi=items.size))
  (h:Q (.ref s.heap.objs.size) { s with heap:=s.heap.push { cls:=.type "tuple", data:=.seq ((items.toList.drop (sIx items.size 0 lo)).take (sIx items.size items.size hi-sIx items.size 0 lo)).toArray } })
  (hsz:items.size<=sizeLine):wpAny (model prog w) A (getItem (.ref t) (.ref sl)) Q E s:=by
 have fI:sizeOk (.seq ((items.toList.drop (sIx items.size 0 lo)).take (sIx items.size items.size hi-sIx items.size 0 lo)).toArray):=by
  show ((items.toList.drop (sIx items.size 0 lo)).take (sIx items.size items.size hi-sIx items.size 0 lo)).toArray.size<=sizeLine
  rw [yr,List.length_take,List.length_drop,Array.length_toList]
  omega
 have hj:sIx items.size items.size hi<=items.size:=CD _ _ (zI _) hi
 obtain ⟨os,gJ,mj,kq⟩:=id hs
 have oE:s.TypeIs (.ref sl) "slice" := ⟨os,gJ,mj⟩
 unfold getItem
 try with_reducible refine jo ?_
 first|refine zq (zE ?_)|skip
 refine zq (wpAny_sequenceKey ht.typeIs (by decide) ?_)
 refine zq (wpAny_callSpecial?_slot (name:=Str.ofString "__getitem__") ht.typeIs PyProof.Rows.slot_tuple_getitem
  (j7 PyProof.Rows.slot_tuple_getitem ht.typeIs entry_tuple_getitem ?_ (args_tuple_getitem _ _)))
 show wpAny _ _ (Builtin.Tuple.tupleItemsOf (.ref t) >>= _) _ _ s
 refine zq (tupleItemsOf_ ht ?_)
 refine zq (wpAny_typeOf oE ?_)
 rw [zw (by decide)]
 refine zq (sd hs pl pu ?_)
 have CI:¬((((sIx items.size 0 lo:Nat):Int)==0&&(1:Int)==1&&(sIx items.size items.size hi-sIx items.size 0 lo)==items.size)=true):=by
  intro q
  rw [j0,j0] at q
  have q1:((sIx items.size 0 lo:Nat):Int)=0:=eq_of_beq q.1.1
  have q2:sIx items.size items.size hi-sIx items.size 0 lo=items.size:=eq_of_beq q.2
  exact hw ⟨by omega,by omega⟩
 show wpAny _ _ (if (((sIx items.size 0 lo:Nat):Int)==0&&(1:Int)==1&&(sIx items.size items.size hi-sIx items.size 0 lo)==items.size)=true then _ else _) _ _ s
 rw [zC CI,CH]
 first
  | exact zq (m:=Builtin.Tuple.tupleExact _) (wt (zE ⟨_,rfl,zE h⟩) fI)
  | exact zq (m:=Builtin.Tuple.tupleExact _) (wt (zq (zE (zE ⟨_,rfl,zE h⟩))) fI)
  | exact zq (zq (m:=Builtin.Tuple.tupleExact _) (wt (zE (zE ⟨_,rfl,zE h⟩)) fI))
  | exact zq (zq (m:=Builtin.Tuple.tupleExact _) (wt (zE ⟨_,rfl,zE h⟩) fI))
end
end HT
namespace L2
open PySem PySem.Spec PyProof.Rows
abbrev TO:=St->Hp->(Option Int->Hp->Prop)->Prop
def PO (X:Cx) (e:Option Expr) (t:TO):Prop :=
 ∀(pins:Ac) (s:Shared) (U:St) (H:Hp) (Q:Option Int->Hp->Prop),Inv X pins U H s->t U H Q ->
  wpAny (model X.prog X.w) X.A (evalPart e X.env) (λu s'=>∃o H',Inv X pins U H' s'/\IsPart u o/\Q o H') X.xe s
def CJ:TO:=λ_ H Q=>Q none H
def CK (t:TE):TO:=λU H Q=>t U H λx H1=>∃i,x=.int i/\Q (some i) H1
section
variable {X:Cx}{e:Expr}{te:TE}{lo hi:Option Expr}{tl th:TO}{pos p2:Pos}
def CL:PO X none CJ:=by
 intro pins s U H Q I h
 rw [evalPart_none]
 exact zE ⟨none,H,I,.none,h⟩
def CM (h:PE X e te):PO X (some e) (CK te):=by
 intro pins s U H Q I hw
 rw [evalPart_some]
 refine aS (h pins s U H _ I hw) λu s1 ⟨x,H1,I1,r1,q1⟩=>?_
 obtain ⟨i,rfl,q⟩:=q1
 obtain ⟨t,rfl⟩:=r1
 exact ⟨some i,H1,I1,.int i t,q⟩
def fJ (X:Cx) (r:V->Option Int->Option Int->Hp->VK->Prop):Prop :=
 ∀(pins:Ac) (s:Shared) (U:St) (H:Hp) (x:V) (v vl vu:Value) (lo hi:Option Int) (sl:Addr) (Q:VK),Inv X pins U H s->RelV x v->s.heap.IsSliceOf sl vl vu .none->IsPart vl lo->IsPart vu hi->r x lo hi H Q ->
  ∃T id,typeLookup (.type T) "__getitem__" = pure (some (.builtin id))/\s.TypeIs v T/\wpAny (model X.prog X.w) X.A (getItem v (.ref sl)) (EP X pins U Q) X.xe s
def fJ.or {r r':V->Option Int->Option Int->Hp->VK->Prop}(h:fJ X r) (h':fJ X r'):fJ X (λx lo hi H Q=>r x lo hi H Q\/r' x lo hi H Q):=by
 intro pins s U H x v vl vu lo hi sl Q I rx hs pl pu q
 rcases q with q|q
 ·exact h pins s U H x v vl vu lo hi sl Q I rx hs pl pu q
 ·exact h' pins s U H x v vl vu lo hi sl Q I rx hs pl pu q
def CN (r:V->Option Int->Option Int->Hp->VK->Prop) (te:TE) (tl th:TO):TE:=λU H Q=>te U H λx H1=>tl U H1 λl H2=>th U H2 λu H3=>r x l u H3 Q
def CO {r:V->Option Int->Option Int->Hp->VK->Prop}(hr:fJ X r) (he:PE X e te) (hl:PO X lo tl) (hu:PO X hi th):PE X (.Subscript e (.Slice lo hi none p2) pos) (CN r te tl th):=by
 intro pins s U H Q I h
 refine Subscript_ (aS (he pins s U H _ I h) λv s1 ⟨x,H1,I1,r1,q1⟩=>?_)
 refine wpAny_Slice (aS (hl pins s1 U H1 _ I1 q1) λvl s2 ⟨l,H2,I2,pl,q2⟩=>aS (hu pins s2 U H2 _ I2 q2) λvu s3 ⟨u,H3,I3,pu,q3⟩=>?_)
 rw [evalPart_none]
 refine zE ?_
 have I4:Inv X pins U H3 { s3 with heap:=s3.heap.push { cls:=.type "slice", data:=.fields #[vl,vu,.none] } }:=I3.kept (t':=s3.toks) λb ob q=>z7 _ q
 obtain ⟨T,id,hT,ht,hg⟩:=hr pins { s3 with heap:=s3.heap.push { cls:=.type "slice", data:=.fields #[vl,vu,.none] } } U H3 x v vl vu l u s3.heap.objs.size Q I4 r1 (Heap.IsSliceOf.new ..) pl pu q3
 show wpAny (model X.prog X.w) X.A (subscriptTail e (.Slice lo hi none p2) v (.ref s3.heap.objs.size)) (EP X pins U Q) X.xe { s3 with heap:=s3.heap.push { cls:=.type "slice", data:=.fields #[vl,vu,.none] } }
 exact tail_any (ops:=[.ref s3.heap.objs.size,v]) ht hT hg (by with_unfolding_all rfl)
def dZ (xs:List V) (lo hi:Option Int):List V:=(xs.drop (HT.sIx xs.length 0 lo)).take (HT.sIx xs.length xs.length hi-HT.sIx xs.length 0 lo)
def se (xs:List V) (lo hi:Option Int):(dZ xs lo hi).length<=xs.length:=by
 unfold dZ
 rw [List.length_take,List.length_drop]
 omega
def CP (K:PySem.W.Frag):V->Option Int->Option Int->Hp->VK->Prop:=λx lo hi H Q=>∃a xs,x=.ref a/\bt K H a xs /\
 ¬(HT.sIx xs.length 0 lo=0/\HT.sIx xs.length xs.length hi=xs.length)/\∀p,H p=none->Q (.ref p) (upd H p (.tup (dZ xs lo hi)))
def CQ:fJ X (CP X.K):=by
 intro pins s U H x v vl vu lo hi sl Q I rx hs pl pu h
 obtain ⟨a,xs,rfl,hx,hw,q⟩:=h
 cases rx
 obtain ⟨its,r,ht,hz⟩:=I.tuple hx
 have hlen:its.toArray.size=xs.length:=by rw [yr];exact r.length.symm
 refine ⟨"tuple", _,PyProof.Rows.slot_tuple_getitem.lookup,ht.typeIs,?_⟩
 refine HT.getItem_tuple_cut ht hs pl pu (by rw [hlen];exact hw) ?_ (by rw [hlen];exact hz)
 rw [hlen]
 refine ⟨.ref s.heap.objs.size,_,I.laid (t':=s.toks) (o:=.tup (dZ xs lo hi)) (λb ob q=>z7 _ q) (zI _) ?_,rfl,q _ (I.hok.fresh (zI _))⟩
 exact ⟨yM (se xs lo hi) hz,_,(r.drop (HT.sIx xs.length 0 lo)).take (HT.sIx xs.length xs.length hi-HT.sIx xs.length 0 lo),IsTup.new _ _⟩
def CS (K:PySem.W.Frag):R2:=λx y H Q=>∃a b xs ys,x=.ref a/\y=.ref b/\bt K H a xs/\bt K H b ys/\xs≠[]/\xs.length+ys.length<=sizeLine /\
 (ys=[]->Q (.ref a) H)/\(ys≠[]->∀p,H p=none->Q (.ref p) (upd H p (.tup (xs++ys))))
def Vals.nil_iff {xs:List V}{us:Af}(r:Vals xs us):us=[]↔xs=[]:=by
 cases r with
 | nil=>simp
 | cons _ _=>simp
def CU:bf X (binaryOp .Add) (CS X.K):=by
 intro pins s U H x y v u Q I rx ry h
 obtain ⟨a,b,xs,ys,rfl,rfl,ha,hb,hx,hz,q1,q2⟩:=h
 cases rx
 cases ry
 obtain ⟨its,r1,p1,_⟩:=I.tuple ha
 obtain ⟨aQ,r2,p2,_⟩:=I.tuple hb
 refine HT.cat_tup p1 p2 (λz=>hx (r1.nil_iff.mp z)) (λz=>⟨.ref a,H,I,rfl,q1 (r2.nil_iff.mp z)⟩) (λz=>?_) (by rw [<-r1.length,<-r2.length];exact hz)
 refine ⟨.ref s.heap.objs.size,_,I.laid (t':=s.toks) (o:=.tup (xs++ys)) (λb ob q=>z7 _ q) (zI _) ?_,rfl,q2 (λw=>z (r2.nil_iff.mpr w)) _ (I.hok.fresh (zI _))⟩
 exact ⟨by rw [jW];exact hz,_,r1.append r2,IsTup.new _ _⟩
end
def gg (n:Nat) (i:Int):Option Nat:=if 0<=i then (if i<n then some i.toNat else none) else if -(n:Int)<=i then some (i+n).toNat else none
def cb {α:Type}(xs:List α) (i:Int):Option α:=(gg xs.length i).bind λj=>xs[j]?
def CV {n:Nat}{i:Int}{j:Nat}(h:gg n i=some j):seqIndex? i n=some j/\j<n /\ -(n:Int)<=i/\i<n:=by
 unfold gg at h
 by_cases h0:0<=i
 ·rw [zw h0] at h
  by_cases h1:i<n
  ·rw [zw h1] at h
   have e:i.toNat=j:=Option.some.inj h
   exact ⟨by rw [seqIndex_of h0 h1,e],by omega,by omega,h1⟩
  ·rw [zC h1] at h;cases h
 ·rw [zC h0] at h
  by_cases h1 : -(n:Int)<=i
  ·rw [zw h1] at h
   have e:(i+n).toNat=j:=Option.some.inj h
   exact ⟨by rw [seqIndex_neg (by omega) h1,e],by omega,h1,by omega⟩
  ·rw [zC h1] at h;cases h
def a9 {α:Type}{xs:List α}{i:Int}{v:α}(h:cb xs i=some v):∃j,seqIndex? i xs.length=some j/\xs[j]?=some v/\j<xs.length /\ -(xs.length:Int)<=i/\i<xs.length:=by
 unfold cb at h
 cases e:gg xs.length i with
 | none=>rw [e] at h;cases h
 | some j =>
  rw [e] at h
  obtain ⟨h1,h2,h3,h4⟩:=CV e
  exact ⟨j,h1,h,h2,h3,h4⟩
def dI (b:Expr):Prop:=∀o i,subscripted b false o i=operate [o,i] (getItem o i)
def dY (X:Cx) (r:R2):Prop :=
 ∀(value slice:Expr) (pins:Ac) (s:Shared) (U:St) (H:Hp) (x y:V) (v u:Value) (Q:VK),Inv X pins U H s->RelV x v->RelV y u->r x y H Q ->
  subscripted slice false v u=operate [v,u] (getItem v u)->wpAny (model X.prog X.w) X.A (subscriptTail value slice v u) (EP X pins U Q) X.xe s
def sh (X:Cx) (id:String) (r:V->List V->Hp->VK->Prop):Prop :=
 ∀(pins:Ac) (s:Shared) (U:St) (H:Hp) (x:V) (xs:List V) (v:Value) (us:Af) (Q:VK),Inv X pins U H s->RelV x v->Vals xs us->r x xs H Q ->
  wpAny (model X.prog X.w) X.A (call (.builtin id) (v::us)) (EP X pins U Q) X.xe s
section
variable {X:Cx}{a b:Expr}{ta tb:TE}{pos:Pos}
def dY.or {r r':R2}(h:dY X r) (h':dY X r'):dY X (λx y H Q=>r x y H Q\/r' x y H Q):=by
 intro value slice pins s U H x y v u Q I rx ry q hs
 rcases q with q|q
 ·exact h value slice pins s U H x y v u Q I rx ry q hs
 ·exact h' value slice pins s U H x y v u Q I rx ry q hs
def si {r:R2}(hr:dY X r) (ha:PE X a ta) (hb:PE X b tb) (hs:dI b):PE X (.Subscript a b pos) (km r ta tb):=by
 intro pins s U H Q I h
 exact Subscript_ (kn ha hb I h λv u s2 x y H2 I2 rx ry q=>hr a b pins s2 U H2 x y v u Q I2 rx ry q (hs _ _))
def sj (K:PySem.W.Frag):R2:=λx y H Q=>∃p xs i v,x=.ref p/\y=.int i/\a3 K H p xs/\cb xs i=some v/\Q v H
def sk (K:PySem.W.Frag):R2:=λx y H Q=>∃p xs i v,x=.ref p/\y=.int i/\bt K H p xs/\cb xs i=some v/\Q v H
def sr:R2:=λx y H Q=>∃z i c,x=.str z/\y=.int i/\z.length<=sizeLine/\cb z.cps.toList i=some c/\Q (.str ⟨#[c]⟩) H
def CW:dY X (sj X.K):=by
 intro value slice pins s U H x y v u Q I rx ry h hs
 obtain ⟨p,xs,i,z,rfl,rfl,hq,he,q⟩:=h
 cases rx
 obtain ⟨t,rfl⟩:=ry
 obtain ⟨its,r,pl,hz⟩:=I.list hq
 obtain ⟨j,h1,h2,h3,h4,h5⟩:=a9 he
 obtain ⟨w,ew,cY⟩:=r.get h2
 have hl:=r.length
 have hn:=ma
 have fin:EP X pins U Q w s:=⟨z,H,I,cY,q⟩
 by_cases h0:0<=i
 ·have hj:i.toNat=j:=by
   rw [seqIndex_of h0 h5] at h1
   exact Option.some.inj h1
  exact item_listR pl.isList h0 (by omega) (by rw [hj];simpa using ew) fin hs
 ·have hj:(i+(its.toArray.size:Int)).toNat=j:=by
   rw [seqIndex_neg (by omega) h4] at h1
   rw [yr,<-hl]
   exact Option.some.inj h1
  exact subscriptTail_builtinR (x:=w) pl.isList.typeIs slot_list_getitem.lookup
   (wpAny_getItem_list_neg (Q:=λr s'=>r=w/\EP X pins U Q r s') pl.isList (by omega) (by rw [yr]<;>omega) (by omega) (by rw [hj];simpa using ew) ⟨rfl,fin⟩) hs
def CY:dY X (sk X.K):=by
 intro value slice pins s U H x y v u Q I rx ry h hs
 obtain ⟨p,xs,i,z,rfl,rfl,hq,he,q⟩:=h
 cases rx
 obtain ⟨t,rfl⟩:=ry
 obtain ⟨its,r,pl,hz⟩:=I.tuple hq
 obtain ⟨j,h1,h2,h3,h4,h5⟩:=a9 he
 obtain ⟨w,ew,cY⟩:=r.get h2
 have hl:=r.length
 have hn:=ma
 have fin:EP X pins U Q w s:=⟨z,H,I,cY,q⟩
 exact subscriptTail_builtinR (x:=w) pl.typeIs slot_tuple_getitem.lookup
  (getItem_tuple (j:=j) (Q:=λr s'=>r=w/\EP X pins U Q r s') pl (by omega) (by omega) (by rw [yr,<-hl];exact h1) (by simpa using ew) ⟨rfl,fin⟩) hs
def fK:dY X sr:=by
 intro value slice pins s U H x y v u Q I rx ry h hs
 obtain ⟨z,i,c,rfl,rfl,hz,he,q⟩:=h
 obtain ⟨t,rfl⟩:=rx
 obtain ⟨t',rfl⟩:=ry
 obtain ⟨j,h1,h2,h3,h4,h5⟩:=a9 he
 have hl:z.cps.toList.length=z.length:=by simp [Str.length]
 rw [hl] at h1 h4 h5
 have hn:=ma
 exact tail_any (typeIs_str s z t) slot_str_getitem.lookup (getItem_str (c:=c) (by
  have e1:decide (i < -(2 ^ 63:Int))=false:=yA (by omega)
  have e2:decide (i>=2 ^ 63)=false:=yA (by omega)
  rw [e1,e2,Bool.or_false]) (by rw [h1];simpa using h2) ⟨.str ⟨#[c]⟩,H,I.tok _,⟨_,rfl⟩,q⟩) hs
def CZ (K:PySem.W.Frag):R2:=λx y H Q=>sj K x y H Q\/sk K x y H Q\/sr x y H Q
def C0:dY X (CZ X.K):=CW.or (CY.or fK)
def C1 (lo hi:Option Int) (n:Nat):(sliceBounds lo hi none n).1=((HT.sIx n 0 lo:Nat):Int)/\(sliceBounds lo hi none n).2.1=((HT.sIx n n hi:Nat):Int)/\(sliceBounds lo hi none n).2.2=1:=by
 refine ⟨?_,?_,rfl⟩
 ·cases lo with
  | none=>simp [sliceBounds,HT.sIx]
  | some i =>
   simp only [sliceBounds,HT.sIx,Option.getD_none,show (1:Int)>0 by decide,jX]
   by_cases h:i<0
   ·simp only [h,jX]<;>omega
   ·simp only [h,if_false]<;>omega
 ·cases hi with
  | none=>simp [sliceBounds,HT.sIx]
  | some i =>
   simp only [sliceBounds,HT.sIx,Option.getD_none,show (1:Int)>0 by decide,jX]
   by_cases h:i<0
   ·simp only [h,jX]<;>omega
   ·simp only [h,if_false]<;>omega
def C2 (its:Af) (lo hi:Option Int):slicePick its.toArray lo hi none=((its.drop (HT.sIx its.length 0 lo)).take (HT.sIx its.length its.length hi-HT.sIx its.length 0 lo)).toArray:=by
 obtain ⟨h1,h2,h3⟩:=C1 lo hi its.toArray.size
 unfold slicePick
 rw [h1,h2,h3]
 simp only [sliceRange_one,pick_run,yr]<;>rfl
def C3 (K:PySem.W.Frag):V->Option Int->Option Int->Hp->VK->Prop:=λx lo hi H Q=>∃a xs,x=.ref a/\a3 K H a xs/\∀p,H p=none->Q (.ref p) (upd H p (.lst (dZ xs lo hi)))
def C4:fJ X (C3 X.K):=by
 intro pins s U H x v vl vu lo hi sl Q I rx hs pl pu h
 obtain ⟨a,xs,rfl,hx,q⟩:=h
 cases rx
 obtain ⟨its,r,ht,hz⟩:=I.list hx
 have hlen:=r.length
 refine ⟨"list", _,slot_list_getitem.lookup,ht.isList.typeIs,?_⟩
 refine wpAny_getItem_list_slice ht.isList hs pl pu .none (by simp) ?_ (by rw [yr]<;>omega)
 rw [C2,<-hlen]
 refine ⟨.ref s.heap.objs.size,_,I.laid (t':=s.toks) (o:=.lst (dZ xs lo hi)) (λb ob q=>z7 _ q) (zI _) ?_,rfl,q _ (I.hok.fresh (zI _))⟩
 exact ⟨yM (se xs lo hi) hz,_,0,(r.drop (HT.sIx xs.length 0 lo)).take (HT.sIx xs.length xs.length hi-HT.sIx xs.length 0 lo),yR _ rfl⟩
def bj.or {f:Value}{r r':List V->Hp->VK->Prop}(h:bj X f r) (h':bj X f r'):bj X f (λxs H Q=>r xs H Q\/r' xs H Q):=by
 intro pins s U H xs us Q I rs q
 rcases q with q|q
 ·exact h pins s U H xs us Q I rs q
 ·exact h' pins s U H xs us Q I rs q
def C5:bj X (.type "list") (λxs H Q=>∃p ys,xs=[.ref p]/\(a3 X.K H p ys\/bt X.K H p ys)/\∀l,H l=none->Q (.ref l) (upd H l (.lst ys))):=by
 intro pins s U H xs us Q I r h
 obtain ⟨p,ys,rfl,hq,q⟩:=h
 obtain ⟨u,rfl,rx⟩:=vals1 r
 cases rx
 have fin:∀(its:Af),Vals ys its->ys.length<=sizeLine->∀(h':Heap) (c':Nat),(∀b o',s.heap.get? b=some o'->h'.get? b=some o') ->
   h'.get? s.heap.objs.size=some { cls:=.type "list", dict:=none,data:=.seq its.toArray c',slots:=#[] }->EP X pins U Q (.ref s.heap.objs.size) { s with heap:=h' }:=λits r' hz h' c' kp e =>
  ⟨.ref s.heap.objs.size,_,I.laid (t':=s.toks) kp (zI _) (show aX X.prog X.w _ h' _ (.lst ys) from ⟨hz,its,c',r',e⟩),rfl,q _ (I.hok.fresh (zI _))⟩
 rcases hq with hq|hq
 ·obtain ⟨its,r',pl,hz⟩:=I.list hq
  have hlen:=r'.length
  obtain ⟨o,ho,hc,n,hd⟩:=pl.isList
  exact call_list_seq p (.inl rfl) ho hc hd (λh' c' kp e=>fin its r' hz h' c' kp e) (by simp only [yr]<;>omega)
 ·obtain ⟨its,r',pl,hz⟩:=I.tuple hq
  have hlen:=r'.length
  obtain ⟨o,ho,hc,n,hd⟩:=pl
  exact call_list_seq p (.inr rfl) ho hc hd (λh' c' kp e=>fin its r' hz h' c' kp e) (by simp only [yr]<;>omega)
def C6:bj X (.type "tuple") (λxs H Q=>∃p ys,xs=[.ref p]/\((a3 X.K H p ys/\∀l,H l=none->Q (.ref l) (upd H l (.tup ys)))\/(bt X.K H p ys/\Q (.ref p) H))):=by
 intro pins s U H xs us Q I r h
 obtain ⟨p,ys,rfl,h⟩:=h
 obtain ⟨u,rfl,rx⟩:=vals1 r
 cases rx
 rcases h with ⟨hq,q⟩|⟨hq,q⟩
 ·obtain ⟨its,r',pl,hz⟩:=I.list hq
  have hlen:=r'.length
  refine call_tuple_list pl.isList (λh' kp=>?_) (by simp only [yr]<;>omega)
  have I1:Inv X pins U H { s with heap:=h' }:=I.kept (t':=s.toks) kp
  have I2:Inv X pins U (upd H h'.objs.size (.tup ys)) { s with heap:=h'.push { cls:=.type "tuple", data:=.seq its.toArray } } :=
   I1.laid (t':=s.toks) (λb o e=>z7 _ e) (zI _) (show aX X.prog X.w _ _ _ (.tup ys) from ⟨hz,its,r',IsTup.new _ _⟩)
  exact ⟨.ref h'.objs.size,_,I2,rfl,q _ (I1.hok.fresh (zI _))⟩
 ·obtain ⟨its,r',pl,hz⟩:=I.tuple hq
  exact call_tuple_same pl ⟨.ref p,H,I,rfl,q⟩
def oF (K:PySem.W.Frag) (T:String) (x:V) (H:Hp):Prop:=match x with
 | .str _=>T = "str"
 | .int _=>T = "int"
 | .ref p=>(T = "list" /\ ∃xs,a3 K H p xs)\/(T = "tuple" /\ ∃o,K.lookup p=some o/\o.cls=.type "tuple" /\ o.dict=none) \/
   (T = "dict" /\ ((∃kvs,H p=some (.dK kvs))\/∃kvs,H p=some (.dT kvs)))\/(T = "set" /\ ∃S n,H p=some (.set S n))
 | _=>False
def sy {pins:Ac}{U:St}{H:Hp}{s:Shared}{T:String}{x:V}{v:Value}(I:Inv X pins U H s) (r:RelV x v) (ty:oF X.K T x H) :
  s.TypeIs v T/\∀a,v=.ref a->∃ob,s.heap.get? a=some ob/\ob.dict=none:=by
 cases x with
 | str z =>
  obtain ⟨t,rfl⟩:=r
  cases (show T = "str" from ty)
  exact ⟨typeIs_str s z t,λ_ e=>nomatch e⟩
 | int i =>
  obtain ⟨t,rfl⟩:=r
  cases (show T = "int" from ty)
  exact ⟨typeIs_int s i t,λ_ e=>nomatch e⟩
 | ref p =>
  cases r
  rcases ty with ⟨rfl,xs,hq⟩|⟨rfl,o,hk,hc,hd⟩|⟨rfl,hk⟩|⟨rfl,S,n,hk⟩
  ·obtain ⟨its,_,pl,_⟩:=I.list hq
   refine ⟨pl.isList.typeIs,λa e=>?_⟩
   cases e
   obtain ⟨o,n,e,c,hd,_⟩:=pl
   exact ⟨o,e,hd⟩
  ·refine ⟨⟨o,I.kIn p o hk,hc⟩,λa e=>?_⟩
   cases e
   exact ⟨o,I.kIn _ o hk,hd⟩
  ·have z:∃o,s.heap.get? p=some o/\o.ExactDict:=by
    rcases hk with ⟨kvs,hk⟩|⟨kvs,hk⟩
    ·obtain ⟨_,_,_,_,o,_,_,e,ex,_⟩:=I.hok p _ hk
     exact ⟨o,e,ex⟩
    ·obtain ⟨_,_,_,_,o,_,_,e,ex,_⟩:=I.hok p _ hk
     exact ⟨o,e,ex⟩
   obtain ⟨o,e,ex⟩:=z
   refine ⟨⟨o,e,ex.1⟩,λa e2=>?_⟩
   cases e2
   exact ⟨o,e,ex.2.1⟩
  ·obtain ⟨o,_,_,_,e,ex,_⟩:=I.hok p _ hk
   refine ⟨⟨o,e,ex.1⟩,λa e2=>?_⟩
   cases e2
   exact ⟨o,e,ex.2.1⟩
 | _=>exact ty.elim
def C7 (K:PySem.W.Frag) (T:String) (r:V->List V->Hp->VK->Prop) (to:TE):TE:=λU H Q=>to U H λx H1=>oF K T x H1/\r x [] H1 Q
def C8 (K:PySem.W.Frag) (T:String) (r:V->List V->Hp->VK->Prop) (to:TE) (t:TA):TE:=λU H Q=>to U H λx H1=>oF K T x H1/\t U H1 λxs H2=>r x xs H2 Q
variable {o e:Expr}{es:List Expr}{to:TE}{t:TA}{name:Str}{apos aW:Pos}{T id:String}{r:V->List V->Hp->VK->Prop}
def C9 (pa:PlainAttrs T) (slot:Slot T name id) (gh:typeOf (.builtin id)=pure (.type "method_descriptor")) (hm:sh X id r) (ho:PE X o to)
  (cj:attributeBase o name X.env (eval o X.env)=eval o X.env:=by rfl) (ck:(apos.endLine==aW.line)=true:=by rfl):PE X (.Call (.Attribute o name apos) [] [] aW) (C7 X.K T r to):=by
 intro pins s U H Q I h
 refine wpAny_Call_method0_late cj ck (aS (ho pins s U H _ I h) λv s1 ⟨x,H1,I1,r1,ty,q1⟩=>?_)
 obtain ⟨h1,h2⟩:=sy I1 r1 ty
 exact ⟨T,id,pa,slot,gh,h1,h2,Calls.callWith_builtin rfl (PySem.evalArgs_none (hm pins s1 U H1 x [] v [] Q I1 r1 .nil q1))⟩
def oG (pa:PlainAttrs T) (slot:Slot T name id) (gh:typeOf (.builtin id)=pure (.type "method_descriptor")) (hm:sh X id r) (ho:PE X o to) (ha:PA X (e::es) t)
  (cj:attributeBase o name X.env (eval o X.env)=eval o X.env:=by rfl)
  (eM:((backTo aW (starEach (e::es) X.env)).all (λx=>!x.1)&&(backToKw aW (keywordEach [] X.env)).all (λx=>x.1.isSome)
   && decide ((e::es).length+([]:List Keyword).length+(if ([]:List Keyword).isEmpty then 0 else 1)<30))=true:=by rfl)
  (ck:(apos.endLine==aW.line)=true:=by rfl) (hs:starEach (e::es) X.env=(false,eval e X.env)::starEach es X.env:=by rfl) (ml:(backTo aW (starEach es X.env)).any (·.1)=false:=by rfl) :
  PE X (.Call (.Attribute o name apos) (e::es) [] aW) (C8 X.K T r to t):=by
 intro pins s U H Q I h
 refine wpAny_Call_method_late cj eM ck rfl (aS (ho pins s U H _ I h) λv s1 ⟨x,H1,I1,r1,ty,q1⟩=>?_)
 obtain ⟨h1,h2⟩:=sy I1 r1 ty
 refine ⟨T,id,pa,slot,gh,h1,h2,?_⟩
 have hA:=ha aW pins s1 U H1 _ I1 q1
 rw [hs] at hA ⊢
 refine Calls.callWith_builtin (by show (false||(backTo aW (starEach es X.env)).any (·.1))=false;rw [ml]<;>rfl) (Calls.evalArgs_plain ?_)
 exact aS hA λus s2 ⟨vs,H2,I2,r2,q2⟩=>hm pins s2 U H2 x vs v us Q I2 r1 r2 q2
end
def mm (X:Cx) (id:String) (r:V->List V->Hp->VK->Prop):Prop :=
 ∀(pins:Ac) (s:Shared) (U:St) (H:Hp) (x:V) (xs:List V) (v:Value) (us:Af) (Q:VK),Inv X pins U H s->RelV x v->Vals xs us->r x xs H Q ->
  wpAny (model X.prog X.w) X.A (call (.builtin id) (v::us)) (EP X pins U Q) X.xe s
def Vals.one:∀{x:V}{us:Af},Vals [x] us->∃u,us=[u]/\RelV x u
 | _,_,.cons r .nil=>⟨_,rfl,r⟩
def Vals.zero:∀{us:Af},Vals [] us->us=[]
 | _,.nil=>rfl
def Vals.dropLast {xs:List V}{us:Af}(h:Vals xs us):Vals xs.dropLast us.dropLast:=by
 induction h with
 | nil=>exact .nil
 | cons r t ih =>
  cases t with
  | nil=>exact .nil
  | cons q t'=>exact .cons r ih
def Vals.reverse {xs:List V}{us:Af}(h:Vals xs us):Vals xs.reverse us.reverse:=by
 induction h with
 | nil=>exact .nil
 | cons r t ih=>rw [List.reverse_cons,List.reverse_cons];exact Vals.append ih (.cons r .nil)
def C_ {α:Type}(l:List α):l.eraseIdx (l.length-1)=l.dropLast:=by
 induction l with
 | nil=>rfl
 | cons a r ih =>
  cases r with
  | nil=>rfl
  | cons b r =>
   have e:(a::b::r).length-1=((b::r).length-1)+1:=by
    have h1:(a::b::r).length=r.length+2:=rfl
    have h2:(b::r).length=r.length+1:=rfl
    omega
   rw [e,List.eraseIdx_cons_succ,ih]
   all_goals rfl
section
variable {X:Cx}{pins:Ac}{U:St}{H:Hp}{s:Shared}{l b:Addr}{xs ys zs:List V}
def Inv.lset {its its':Af}{n:Nat}{f:Array Value->Array Value}{t':Nat}(I:Inv X pins U H s) (hH:H l=some (.lst xs))
  (e:s.heap.get? l=some { cls:=.type "list", data:=.seq its.toArray n }) (hf:f its.toArray=its'.toArray) (hv:Vals ys its') (hz:ys.length<=sizeLine) :
  Inv X pins U (upd H l (.lst ys)) { s with heap:=s.heap.update l (Obj.mapSeq f),toks:=t' }:=by
 have q:=PySem.IsL.update e f
 rw [hf] at q
 refine I.write (x:=l) (e:=l) (by rw [hH];exact trivial) (.inl rfl) (λb' u hb hu=>(jV s.heap (Obj.mapSeq f) (y3 hb)).trans hu) ⟨_,q⟩ ?_
 exact ⟨hz,its',_,hv,q⟩
def Inv.lnew {its:Af}{t':Nat}(I:Inv X pins U H s) (hv:Vals ys its) (hz:ys.length<=sizeLine) :
  Inv X pins U (upd H s.heap.objs.size (.lst ys)) { s with heap:=s.heap.push { cls:=.type "list", data:=.seq its.toArray },toks:=t' } :=
 I.laid (λ_ _ q=>z7 _ q) (zI _) ⟨hz,its,0,hv,yR _ rfl⟩
def Inv.fresh (I:Inv X pins U H s):H s.heap.objs.size=none:=I.hok.fresh (zI _)
def Inv.lstM (I:Inv X pins U H s) (hH:H l=some (.lst xs)):xs.length<=sizeLine/\∃(its:Af) (n:Nat),Vals xs its/\xs.length=its.length/\s.heap.get? l=some { cls:=.type "list", data:=.seq its.toArray n }:=by
 obtain ⟨z,its,n,r,e⟩:=I.hok l _ hH
 exact ⟨z,its,n,r,r.length,e⟩
def fB {n:Nat}(h:n<=sizeLine):Builtin.List.listTooLong n=false:=by
 unfold Builtin.List.listTooLong
 exact yA (by omega)
end
section
variable {X:Cx}
def Dc:V->List V->Hp->VK->Prop:=λx vs H Q=>∃l xs y,x=.ref l/\vs=[y]/\H l=some (.lst xs)/\xs.length<sizeLine/\Q .non (upd H l (.lst (xs++[y])))
def zjl:mm X "list.append" Dc:=by
 intro pins s U H x vs v us Q I rx rv h
 obtain ⟨l,xs,y,rfl,rfl,hH,hz,q⟩:=h
 cases rx
 obtain ⟨u,rfl,ru⟩:=rv.one
 obtain ⟨z,its,n,r,hl,e⟩:=I.lstM hH
 refine call_meets F.slot_list_append ⟨_,e,rfl⟩ F.entry_list_append (F.args_list_append_2 _ _) (PySem.list_append l its.toArray n u (by rw [yr];omega)) ⟨e,?_⟩
 refine ⟨.non,_,I.lset (its':=its++[u]) hH e (by simp) (r.append (.cons ru .nil)) ?_,rfl,q⟩
 rw [jW,List.length_singleton]
 omega
def sA:V->List V->Hp->VK->Prop:=λx vs H Q=>∃l b xs zs,x=.ref l/\vs=[.ref b]/\H l=some (.lst xs)/\H b=some (.lst zs)/\xs.length+zs.length<=sizeLine/\Q .non (upd H l (.lst (xs++zs)))
def zd3:mm X "list.extend" sA:=by
 intro pins s U H x vs v us Q I rx rv h
 obtain ⟨l,b,xs,zs,rfl,rfl,hH,hB,hz,q⟩:=h
 cases rx
 obtain ⟨u,rfl,ru⟩:=rv.one
 cases ru
 obtain ⟨z,its,n,r,hl,e⟩:=I.lstM hH
 obtain ⟨z2,aQ,n2,r2,hl2,e2⟩:=I.lstM hB
 have hsz:its.toArray.size+aQ.toArray.size<=sizeLine:=by rw [yr,yr];omega
 have eO:¬(!its.toArray.isEmpty&&Builtin.List.listTooLong (its.toArray.size+aQ.toArray.size))=true:=by
  rw [fB hsz,Bool.and_false]
  exact Bool.false_ne_true
 refine call_meets F.slot_list_extend ⟨_,e,rfl⟩ F.entry_list_extend (F.args_list_extend_2 _ _)
  (AutoSeq1.list_extend_list_list_0 l its.toArray n b aQ.toArray n2 eO (by rw [yr];omega) (by omega)) ⟨e,e2,?_⟩
 refine ⟨.non,_,I.lset (its':=its++aQ) hH e (by simp) (r.append r2) ?_,rfl,q⟩
 rw [jW]
 omega
def Dd:V->List V->Hp->VK->Prop:=λx vs H Q=>∃l xs y,x=.ref l/\vs=[]/\H l=some (.lst xs)/\xs[xs.length-1]?=some y/\Q y (upd H l (.lst xs.dropLast))
def De:mm X "list.pop" Dd:=by
 intro pins s U H x vs v us Q I rx rv h
 obtain ⟨l,xs,y,rfl,rfl,hH,hy,q⟩:=h
 cases rx
 have Df:=rv.zero
 subst Df
 obtain ⟨z,its,n,r,hl,e⟩:=I.lstM hH
 obtain ⟨u,hu,ru⟩:=r.get hy
 have Dg:its.toArray[its.toArray.size-1]?=some u:=by
  show its.toArray[its.length-1]?=some u
  rw [<-Array.getElem?_toList,<-hl]
  exact hu
 refine call_meets F.slot_list_pop ⟨_,e,rfl⟩ F.entry_list_pop (F.args_list_pop_1 _) (MeetsSeq.list_pop_last l its.toArray n u Dg (by rw [yr];omega)) ⟨e,?_⟩
 refine ⟨y,_,I.lset (its':=its.dropLast) hH e ?_ r.dropLast ?_,ru,q⟩
 ·show its.toArray.eraseIdxIfInBounds (its.toArray.size-1)=its.dropLast.toArray
  rw [yr,List.eraseIdxIfInBounds_toArray,C_]
 ·rw [List.length_dropLast]
  omega
def Dh:R2:=λx y H Q=>∃l b xs zs,x=.ref l/\y=.ref b/\H l=some (.lst xs)/\H b=some (.lst zs)/\xs.length+zs.length<=sizeLine/\∀p,H p=none->Q (.ref p) (upd H p (.lst (xs++zs)))
def Di:bf X (binaryOp .Add) Dh:=by
 intro pins s U H x y v u Q I rx ry h
 obtain ⟨l,b,xs,zs,rfl,rfl,hH,hB,hz,q⟩:=h
 cases rx
 cases ry
 obtain ⟨z,its,n,r,hl,e⟩:=I.lstM hH
 obtain ⟨z2,aQ,n2,r2,hl2,e2⟩:=I.lstM hB
 refine PySem.P.add_list e e2 ?_ (by rw [yr,yr];omega)
 have ea:its.toArray++aQ.toArray=(its++aQ).toArray:=by simp
 rw [ea]
 exact ⟨.ref _,_,I.lnew (t':=s.toks) (r.append r2) (by rw [jW];omega),rfl,q _ I.fresh⟩
end
section
variable {prog:Program}{w:World}{A:Around}{E:Aa}{s:Shared}
end
section
variable {X:Cx}
end
end L2
namespace Att
open PySem PySem.W PySem.Calls PyProof.Rows
def Dj {P:Params}{h:Heap}:∀(ns:List Int) (vs:Af),WellAll P h vs (ns.map WData.int)->IntsAre vs ns:=by
 intro ns
 induction ns with
 | nil =>
  intro vs w
  rw [List.map_nil] at w
  cases w
  exact .nil
 | cons n ns ih =>
  intro vs w
  rw [yC] at w
  cases w with
  | cons a b =>
   cases a
   exact .cons _ _ (ih _ b)
def Dk {l:OpenLaw}{n:Nat}(hn:l.most=some n) {P:Params}{h:Heap}{args:List WData}{vals:Af}
  (ig:l.row.toRowW.claim.pre args=true) (hwl:WellAll P h vals args) :
  ∃a vs ns,vals=[Value.ref a]/\args=[WData.list (ns.map WData.int)]/\h.get? a=some { cls:=.type "list", data:=.seq vs.toArray }/\IntsAre vs ns/\ns.length<=n:=by
 have Dl:WShape.hasAll [] args [.list .int]=true:=(pre_splitW ig).1
 have hc:l.pre.holds [] { args:=args }=true:=(pre_splitW ig).2
 obtain ⟨d,r,rfl,h1,h2⟩:=hasAllW_cons Dl
 obtain rfl:=hasAllW_nil h2
 obtain ⟨xs,rfl,h3⟩:=hasW_list h1
 obtain ⟨ns,rfl⟩:=items_int h3
 have hlen:ns.length<=n:=by
  unfold OpenLaw.pre at hc
  have h4:(WTm.not (.lt (.lit (.int (n:Int))) (.len (.arg 0)))).holds [] { args:=[.list (ns.map .int)] }=true:=by
   have h4:=(holds_andW hc).1
   rw [hn] at h4
   exact h4
  have h5:=condW_of h4 (w_not (w_lt w_lit (w_len_list (w_arg rfl))))
  rw [ji] at h5
  refine Nat.le_of_not_lt λq=>?_
  have q':(n:Int)<((ns.length:Nat):Int):=by omega
  first
   | (rw [je q'] at h5;exact absurd h5 (by decide))
   | (simp at h5;omega)
 cases hwl with
 | cons w1 w2 =>
  cases w2
  cases w1 with
  | list ho dJ=>exact ⟨_,_,ns,rfl,rfl,ho,Dj ns _ dJ,hlen⟩
def Dm (l:OpenLaw) (args:List WData):l.row.toRowW.claim.post args (.bool true) args=true :=
 postW_of (r:=l.row.toRowW) (X:=(true==true))
  (show WShape.has [] (.bool true) .bool=true by first|rfl|decide|simp [WShape.has,WShape.arms,WShape.armsAll])
  (show (WTm.eq .res (.lit (.bool true))).value [] { args:=args,res:=some (.bool true),after:=args }=some (.bool (true==true)) from w_eq_bool (w_res rfl) w_lit) rfl
def attach_call {l:OpenLaw}{n:Nat}{q:Program}{loose:Ad}{XP:(Ab)->Heap->Prop}{YP:World->Heap->Prop}{d:DefRec}
  (hn:l.most=some n) (kr:d.params.defaults=[])
  (call:∀(w:World) (s₀ aj:Shared) (mg mb:Ab) (fa:Addr) (o:Obj) (pm cd doc:Value) (a:Addr) (vs:Af) (ns:List Int),
   Ground q loose [] XP w s₀ mg mb aj.heap->YP w aj.heap ->
   aj.heap.get? fa=some o->o.data=.func (docDef d.name d.params d.body d.scope pm cd doc)->aj.heap.CodeRec cd d.name->mg d.name=some (.ref fa) ->
   aj.heap.get? a=some { cls:=.type "list", data:=.seq vs.toArray }->IntsAre vs ns->ns.length<=n->aj.gens=#[] ->
   codeAny (model l.prog w) callerA (.call (.ref fa) ⟨[.ref a],[]⟩) (λr s'=>r=.ok (.ret (.bool true))/\OldK aj.heap s'.heap/\s'.os=aj.os/\AllBare s'.gens) aj) :
  WalkO q loose XP YP l.row.toRowW d [] (λf vs=>PySem.call f vs):=by
 intro w s₀ aj mg mb G Y fa o pm cd doc dV kV ho hd du hD hmg hg args vals as ig hlay hrd hwl hlo
 obtain rfl:dV=.none:=Dflts.none hD kr
 obtain rfl:kV=.none:=Dflts.noKw hD
 obtain ⟨a,vs,ns,rfl,rfl,ku,hints,hlen⟩:=Dk hn ig hwl
 refine enter_call (codeAny_mono (call w s₀ aj mg mb fa o pm cd doc a vs ns G Y ho (fd_plain hd) du hmg ku hints hlen hg) λr s' hq=>?_)
 obtain ⟨rfl,h2,h3,h4⟩:=hq
 exact ⟨.inl ⟨.bool true,.bool true,[],rfl,λ_=>rfl,.bool true,Dm l _,λ_=>⟨List.Pairwise.nil,λ_ hm=>(nomatch hm)⟩⟩,h2,h3,h4⟩
section
variable {prog:Program}{w:World}{A:Around}{E:Aa}{s:Shared}{K:Frag}
end
end Att
namespace L2
open PySem PySem.Spec PyProof.Rows
def sC:∀{vs:Af}{ns:List Int},IntsAre vs ns->Vals (ns.map V.int) vs
 | _,_,.nil=>.nil
 | _,_,.cons n t h=>.cons ⟨t,rfl⟩ (sC h)
def Only (H:Hp):Prop:=∀b,H b=none\/∃o xs,H b=some (.frz o (.lst xs))
def Dp {P:Program}{w:World}{K:PySem.W.Frag}{mg mb:Ab}{CX:dv}{k:Nat}{fa a:Addr}{fd:FuncData}{x:Str}{sp:Sp}{aj:Shared}{vs:Af}{ns:List Int}
  (KX:K.In aj.heap) (sD:aj.heap.Ns mainGlobals mg) (hb:aj.heap.Ns builtinsNs mb) (ky:∀x:Str,x ≠ "__name__" -> mb x=bootBuiltins x) (sE:aj.heap.NoLimit) (hg:aj.gens=#[])
  (ha:aj.heap.get? a=some { cls:=.type "list", data:=.seq vs.toArray }) (hi:IntsAre vs ns) (hl:ns.length<=sizeLine) (hr:a5 k callerA)
  (F:∀base:Heap,K.In base->base.Ns mainGlobals mg->a_ P w K mg base CX k fa fd [x] sp) (oH:∀(s:Shared) (u:Value),BindsTo s fd ⟨[u],[]⟩ [(x,u)])
  (fq:∀H:Hp,Only H->a3 K H a (ns.map V.int)->sp [.ref a] H (λv _=>v=.bl true) λ_ _ _=>False)
  (oI:∀H e s',CX [] H aj (λ_ _ _=>False) e s'->False) :
  codeAny (model P w) callerA (.call (.ref fa) ⟨[.ref a],[]⟩) (λr s'=>r=.ok (.ret (.bool true))/\OldK aj.heap s'.heap/\s'.os=aj.os/\AllBare s'.gens) aj:=by
 have rv:=sC hi
 have sF:=hi.length
 have core:∀H:Hp,Only H->a3 K H a (ns.map V.int)->bA P w H aj.heap->(∀b,H b≠none->b=a)->(H a≠none->K.lookup a=none) ->
   codeAny (model P w) callerA (.call (.ref fa) ⟨[.ref a],[]⟩) (λr s'=>r=.ok (.ret (.bool true))/\OldK aj.heap s'.heap/\s'.os=aj.os/\AllBare s'.gens) aj:=by
  intro H hO hS hok hA hK
  have gi:∀{b:Addr} {o:Obj},aj.heap.get? b=some o->H b=none->(dF aj.heap H).get? b=some o:=λe n=>A0 e n
  have ko:∀{b:Addr} {o:Obj} {es:Array DictEntry} {ep:Nat},aj.heap.get? b=some o->o.data=.dict es ep->H b=none:=λ{b o es ep} e d=>by
   cases q:H b with
   | none=>rfl
   | some u =>
    have e':b=a:=hA b (by rw [q];simp)
    subst e'
    rw [ha] at e;cases e
    have d':Data.seq vs.toArray _=Data.dict es ep:=d
    cases d'
  have mn:∀{b:Addr} {m:Ab},aj.heap.Ns b m->(dF aj.heap H).Ns b m:=λ{b m} ⟨o,es,ep,e,d,r⟩=>⟨o,es,ep,gi e (ko e d),d,r⟩
  have sG:K.In (dF aj.heap H):=λb o e=>gi (KX b o e) (by
   cases q:H b with
   | none=>rfl
   | some u =>
    have e':b=a:=hA b (by rw [q];simp)
    subst e'
    rw [hK (by rw [q];simp)] at e;cases e)
  have hM:Mod K mg (dF aj.heap H):=⟨sG,mn sD,⟨mb,mn hb,ky⟩,let ⟨mc,h1,h2⟩:=sE;⟨mc,mn h1,h2⟩⟩
  have e0:dn P w K mg (dF aj.heap H) callerA [] aj H:=⟨rfl,hM,λb o e=>A1 e,Nat.le_of_eq (AZ _ _),trivial,λb hb=>absurd (show b∈([]:Ae) from hb) (by simp),hok,.of_eq hg⟩
  refine codeAny_mono ((F _ sG (mn sD)).run callerA [] aj H ⟨[.ref a],[]⟩ [.ref a] [.ref a] _ _ hr e0 (oH aj (.ref a)) (.cons rfl .nil) (fq H hO hS)) λr s' h=>?_
  cases r with
  | error e=>exact (oI H e s' h).elim
  | ok fl =>
   cases fl with
   | next=>exact h.elim
   | brk=>exact h.elim
   | cont=>exact h.elim
   | ret u =>
    obtain ⟨v,H',os,bare,un,sH,r',q⟩:=h
    have q':v=.bl true:=q
    subst q'
    obtain rfl:u=Value.bool true:=r'
    refine ⟨rfl,OldK.of_keep λb o e=>?_,os,bare⟩
    cases q:H b with
    | none=>exact un.keep b o e q (by intro z;exact absurd (show b∈([]:Ae) from z) (by simp)) (by simp)
    | some u =>
     rcases hO b with z|⟨ob,xs,z⟩
     ·rw [q] at z;cases z
     ·have z2:=un.frzs b ob _ z
      obtain ⟨e1,_⟩:=hok b _ z
      obtain ⟨e2,_⟩:=sH b _ z2
      rw [e] at e1;cases e1
      exact e2
 cases hk:K.lookup a with
 | some o =>
  have e:=KX a o hk
  rw [ha] at e
  cases e
  refine core (λ_=>none) (λ_=>.inl rfl) (.inr ⟨_,vs.toArray,_,hk,rfl,rfl,rfl,by rw [yr,sF];exact hl,by simpa using rv⟩) (λb u z=>by have z':(none:Option HO)=some u:=z;cases z') (λb z=>absurd rfl z) λz=>absurd rfl z
 | none =>
  refine core (λb=>if b=a then some (.frz { cls:=.type "list", data:=.seq vs.toArray } (.lst (ns.map V.int))) else none) (λb=>?_) (.inl (.inr ⟨{ cls:=.type "list", data:=.seq vs.toArray },zw rfl⟩)) (λb u z=>?_) (λb z=>?_) λ_=>hk
  ·by_cases hb:b=a
   ·exact .inr ⟨_,_,zw hb⟩
   ·exact .inl (zC hb)
  ·by_cases hb:b=a
   ·have z':=(zw hb).symm.trans z
    cases z'
    subst hb
    exact ⟨ha,by rw [ji];exact hl,vs,_,rv,ha⟩
   ·have z':=(zC hb).symm.trans z
    cases z'
  ·by_cases hb:b=a
   ·exact hb
   ·exact absurd (zC hb) z
abbrev KOf {K:PySem.W.Frag}{h:Heap}(_:K.In h):PySem.W.Frag:=K
def zju {l:PySem.W.OpenLaw}{n k:Nat}{q:Program}{loose:Ad}{XP:(Ab)->Heap->Prop}{YP:World->Heap->Prop}{d:DefRec}{K:Params->PySem.W.Frag}{CX:World->dv}{sp:World->Sp}{x:Str}
  (hn:l.most=some n) (dg:n<=sizeLine) (kr:d.params.defaults=[]) (hr:a5 k callerA)
  (hY:∀(w:World) (h:Heap),YP w h->(K w.params).In h)
  (F:∀(w:World) (mg:Ab) (fa:Addr) (h:Heap),(K w.params).In h->h.Ns mainGlobals mg->mg d.name=some (.ref fa) ->
   ∃fd:FuncData,(∀(s:Shared) (u:Value),BindsTo s fd ⟨[u],[]⟩ [(x,u)]) /\
    ∀base:Heap,(K w.params).In base->base.Ns mainGlobals mg->a_ l.prog w (K w.params) mg base (CX w) k fa fd [x] (sp w))
  (fq:∀(w:World) (H:Hp) (a:Addr) (ns:List Int),ns.length<=n->Only H->a3 (K w.params) H a (ns.map V.int)->sp w [.ref a] H (λv _=>v=.bl true) λ_ _ _=>False)
  (oI:∀(w:World) (H:Hp) (s:Shared) (e:Value) (s':Shared),CX w [] H s (λ_ _ _=>False) e s'->False) :
  PySem.W.WalkO q loose XP YP l.row.toRowW d [] (λf vs=>PySem.call f vs):=by
 refine Att.attach_call hn kr λw s₀ aj mg mb fa o pm cd doc a vs ns G Y ho hd du hmg ku hints hlen hg=>?_
 have KX:=hY w _ Y
 obtain ⟨fd,hb,hF⟩:=F w mg fa _ KX G.T.g hmg
 exact Dp KX G.T.g G.T.b G.T.builtins G.T.nolimit hg ku hints (yM hlen dg) hr hF hb (λH hO hS=>fq w H a ns hlen hO hS) λH e s'=>oI w H aj e s'
def inClass (s:Stmt) (j:Nat):Stmt:=match s with
 | .ClassDef _ _ _ body _ _ _ _ _ _ _=>body.getD j (.Pass ⟨0,0,0,0⟩)
 | _=>.Pass ⟨0,0,0,0⟩
def jM (s:Stmt):Arguments:=match s with
 | .FunctionDef _ a _ _ _ _ _ _ _ _=>a
 | _=>{ posonlyargs:=[],args:=[],vararg:=none,kwonlyargs:=[],kw_defaults:=[],kwarg:=none,defaults:=[] }
def yT (s:Stmt):List Stmt:=match s with
 | .FunctionDef _ _ b _ _ _ _ _ _ _=>b
 | _=>[]
def zL (s:Stmt):Scope:=match s with
 | .FunctionDef _ _ _ _ _ _ sc _ _ _=>sc
 | _=>{ kind:=.function,names:=[],isGenerator:=false,isCoroutine:=false }
abbrev sI:dv:=λ_ _ _ _ _ _=>False
structure cW (K:PySem.W.Frag) (x qual:Str) (st:Stmt) (f:Addr) (fd:FuncData):Prop where
 ex:∃(oc:Value) (od:Option Addr) (kV doc pm:Value) (an:Option Addr) (aV ct:Value) (dH:Array (Option Value)),
  fd=PySem.W.fnOf x qual (jM st) (yT st) (zL st) .none kV doc pm an aV ct/\K.lookup f=some ⟨oc,od,.func fd,dH⟩/\PySem.W.codeIn K aV qual=true
 kp:PySem.W.keepIn K (.ref f)=true
section
variable {P:Program}{w:World}{K:PySem.W.Frag}{mg:Ab}{base:Heap}
def cW.ok {x qual:Str}{st:Stmt}{f:Addr}{fd:FuncData}{N ps:Ad}{k:Nat}{sp:Sp}(F:cW K x qual st f fd) (S:aR N ps (zL st)) (len:∀vs H Q E,sp vs H Q E->vs.length=ps.length)
  (dy:∀(aV:Value) (A:Around) (outer:List Env) (s:Shared) (H:Hp) (vs:List V) (Q:VK) (E:XK),a5 k (A.deeper (envOfC qual (zL st) s.heap.objs.size f aV))->sp vs H Q E ->
   ∃t,bM (cI sI P w K mg base N qual (zL st) f aV A outer s H E).nox (yT st) t/\t { nx:=λ_ H'=>Q .non H',rt:=Q } (start N vs) H):a_ P w K mg base sI (k+1) f fd ps sp:=by
 obtain ⟨oc,od,kV,doc,pm,an,aV,ct,dH,rfl,lk,du⟩:=F.ex
 refine rY lk du S len λA outer s H vs Q E hr fq=>?_
 obtain ⟨t,h,q⟩:=dy aV A outer s H vs Q E hr fq
 exact ⟨t,h.nox,q⟩
def cW.binds {x qual:Str}{st:Stmt}{f:Addr}{fd:FuncData}{ps:Ad}(F:cW K x qual st f fd)
  (h:∀(kV doc pm:Value) (an:Option Addr) (aV ct:Value) (us:Af),us.length=ps.length->bindArgs (PySem.W.fnOf x qual (jM st) (yT st) (zL st) .none kV doc pm an aV ct) ⟨us,[]⟩=pure (ps.zip us)):Binds K fd ps []:=by
 obtain ⟨oc,od,kV,doc,pm,an,aV,ct,dH,rfl,lk,du⟩:=F.ex
 exact .all (h kV doc pm an aV ct)
def iJ {x qual:Str}{st:Stmt}{f:Addr}{oc:Value}{od an:Option Addr}{dH:Array (Option Value)}{kV doc pm aV ct:Value}(l:K.lookup f=some ⟨oc,od,.func (PySem.W.fnOf x qual (jM st) (yT st) (zL st) .none kV doc pm an aV ct),dH⟩)
  (c:PySem.W.codeIn K aV qual=true) (k:PySem.W.keepIn K (.ref f)=true):cW K x qual st f (PySem.W.fnOf x qual (jM st) (yT st) (zL st) .none kV doc pm an aV ct):=⟨⟨oc,od,kV,doc,pm,an,aV,ct,dH,rfl,l,c⟩,k⟩
end
section
variable {X:Cx}
def pv (i:Nat) {x:Str} {pos:Pos} (hN:X.N[i]?=some x:=by rfl) (hv:lU X.env.scope x:=by first|exact Or.inl rfl|exact Or.inr (Or.inl rfl)|exact Or.inr (Or.inr rfl)) (hd:(x==("__debug__" : Str))=false:=by decide)
  (du:(x==("__classdict__" : Str))=false:=by decide):PE X (.Name x pos) (lY i):=rn hN hv hd du
end
def dq (H H':Hp):Prop:=∀b o,H b=some o->H' b=some o
def dq.refl (H:Hp):dq H H:=λ_ _ h=>h
def dq.trans {H H1 H2:Hp}(a:dq H H1) (b:dq H1 H2):dq H H2:=λc o h=>b c o (a c o h)
def dq.free {H H':Hp}(e:dq H H') {l:Addr}(h:H' l=Option.none):H l=Option.none:=by
 cases q:H l with
 | none=>rfl
 | some o =>
  rw [e l o q] at h
  cases h
def dq.seq {K:PySem.W.Frag}{H H':Hp}{a:Addr}{xs:List V}(e:dq H H') (h:a3 K H a xs):a3 K H' a xs:=by
 rcases h with (h|⟨o,h⟩)|h
 ·exact .inl (.inl (e _ _ h))
 ·exact .inl (.inr ⟨o,e _ _ h⟩)
 ·exact .inr h
end L2
set_option maxHeartbeats 4000000
namespace L2
open PySem PySem.Spec PyProof.Rows
def oJ {l z D b:Nat}(h1:l<z) (h2:z=D) (h3:D<=b) (h4:b=l):False:=by omega
def jN {b D C:Nat}(h1:b<D) (h2:C=D+1) (h3:b=C):False:=by omega
def oK {b e d:Nat}(h1:b<e) (h2:e<=d) (h3:d<=b):False:=by omega
def oM {b D p:Nat}(h1:b<D) (h2:p=D) (h3:p=b):False:=by omega
def oN (env:Env):∀(l:List (Str×NameKind)) (acc:List (Str×Addr)),(∀p∈l,p.2=.free->∃c,env.cells.lookup p.1=some c) ->
  ∃cl,(forIn l acc (λ(x:Str×NameKind) (cs:List (Str×Addr))=>if (x.snd==NameKind.free)=true then do
            let a <-cellOf env x.fst
            pure (ForInStep.yield ((x.fst,a)::cs))
      else pure (ForInStep.yield cs)):Sem (List (Str×Addr)))=pure cl /\
   (∀y c,(y,c)∈cl->(y,c)∈acc\/(env.cells.lookup y=some c/\(y,NameKind.free)∈l))/\(∀p∈acc,p∈cl)/\(∀y,(y,NameKind.free)∈l->∃c,(y,c)∈cl)
 | [],acc,_=>⟨acc,rfl,λ_ _ h=>.inl h,λ_ h=>h,λ_ h=>nomatch h⟩
 | (n,k)::r,acc,dJ=>by
  by_cases hk:k=.free
  ·subst hk
   obtain ⟨c,hc⟩:=dJ (n,.free) yL rfl
   obtain ⟨cl,e,h1,h2,h3⟩:=oN env r ((n,c)::acc) λp hp=>dJ p (y9 _ hp)
   refine ⟨cl,?_,λy d hy=>?_,λp hp=>h2 p (y9 _ hp),λy hy=>?_⟩
   ·rw [List.forIn_cons]
    simp only [beq_self_eq_true,jX]
    have:cellOf env n=pure c:=by unfold cellOf;rw [hc]
    rw [this]
    exact e
   ·rcases h1 y d hy with q|q
    ·rcases yv.mp q with q|q
     ·cases q
      exact .inr ⟨hc,yL⟩
     ·exact .inl q
    ·exact .inr ⟨q.1,y9 _ q.2⟩
   ·rcases yv.mp hy with q|q
    ·cases q
     exact ⟨c,h2 _ yL⟩
    ·exact h3 y q
  ·obtain ⟨cl,e,h1,h2,h3⟩:=oN env r acc λp hp=>dJ p (y9 _ hp)
   refine ⟨cl,?_,λy d hy=>?_,h2,λy hy=>?_⟩
   ·rw [List.forIn_cons]
    have:(k==NameKind.free)=false:=by simpa using hk
    simp only [this,Bool.false_eq_true,if_false]
    exact e
   ·rcases h1 y d hy with q|q
    ·exact .inl q
    ·exact .inr ⟨q.1,y9 _ q.2⟩
   ·rcases yv.mp hy with q|q
    ·cases q
     exact absurd rfl hk
    ·exact h3 y q
def sJ {β:Type}{y:Str}:∀{l:List (Str×β)}{c:β},(y,c)∈l->∃d,l.lookup y=some d
 | (n,b)::r,c,h=>by
  rw [jf]
  cases e:y==n with
  | true=>exact ⟨b,rfl⟩
  | false =>
   rcases yv.mp h with q|q
   ·cases q
    simp at e
   ·exact sJ q
def oO (env:Env) (scope:Scope) (dJ:∀p∈scope.names,p.2=.free->∃c,env.cells.lookup p.1=some c) :
  ∃cl,closureFor scope env=pure cl/\(∀y c,cl.lookup y=some c->env.cells.lookup y=some c)/\(∀y,(y,NameKind.free)∈scope.names->∃c,cl.lookup y=some c):=by
 obtain ⟨cl,e,h1,_,h3⟩:=oN env scope.names [] dJ
 refine ⟨cl,?_,λy c hy=>?_,λy hy=>?_⟩
 ·simp only [closureFor]
  rw [e]
  rfl
 ·rcases h1 y c (PySem.mem_of_lookup hy) with z|z
  ·cases z
  ·exact z.1
 ·obtain ⟨c,hc⟩:=h3 y hy
  exact sJ hc
structure cf (sc scope:Scope) (x:Str):Prop where
 kind:scope.kind=.function
 ncell:∀y∈scope.names,y.2 ≠ .cell
 names:∀y∈scope.names,y.2=.local->scope.names.lookup y.1=some .local/\(y.1=x\/y.1 = ".0")
 hx:scope.names.lookup x=some .local
 free:∀y∈scope.names,y.2=.free->sc.names.lookup y.1=some .cell
def gj (X:Cx) (M:Ad) (scope:Scope) (cl:List (Str×Addr)) (x:Str) (C:Addr) (aa:Shared) (ag:Hp) (fp:Ae) (E:Aa):Cx :=
 { X with N:=x::M,s₀:=aa,H₀:=ag,env:=compEnvC scope cl C X.env,outer:=X.stack,ex:=fp,fn:=λ_=>false,pn:=[],xe:=E }
def Hid (scope:Scope) (M N:Ad):Prop:=M.length=N.length/\∀p∈M.zip N,p.1=p.2\/p.1∉scope.names.map Prod.fst
def Hid.refl {scope:Scope}{N:Ad}:Hid scope N N:=⟨rfl,λp hp=>.inl (by
 obtain ⟨i,hi,e⟩:=jZ hp
 rw [List.getElem_zip] at e
 rw [<-e])⟩
def Hid.get {scope:Scope}{M N:Ad}(h:Hid scope M N) {i:Nat}{y:Str}(e:M[i]?=some y):N[i]?=some y\/y∉scope.names.map Prod.fst:=by
 obtain ⟨hi,ei⟩:=yf.mp e
 have hj:i<N.length:=h.1▸hi
 have hm:(M[i],N[i])∈M.zip N:=jY (i:=i) (by rw [List.getElem?_zip_eq_some];exact ⟨zK hi,zK hj⟩)
 rcases h.2 _ hm with q|q
 ·exact .inl (by rw [zK hj,<-ei];exact congrArg some q.symm)
 ·exact .inr (by rw [<-ei];exact q)
def oP (X:Cx) (scope:Scope) (cl:List (Str×Addr)) (x:Str) (C:Addr) (aa:Shared) (ag:Hp) (fp:Ae) (E:Aa):Cx :=
 { X with N:=x::X.N,s₀:=aa,H₀:=ag,env:=compEnvC scope cl C X.env,outer:=X.stack,ex:=fp,fn:=λ_=>false,pn:=[],xe:=E }
section
variable {X:Cx}{scope:Scope}{cl:List (Str×Addr)}{x:Str}
def wa {env:Env}{y:Str}{k:NameKind}(h:(relabel scope env).names.lookup y=some k):∃k0,(y,k0)∈scope.names/\((k0=.free/\env.kindOf y=some .cell/\k=.cell)\/(k=k0/\¬(k0=.free/\env.scope.kind=.function/\env.kindOf y=some .cell))):=by
 have hm:=PySem.mem_of_lookup h
 obtain ⟨⟨n,k0⟩,hn,e⟩:=jw.mp hm
 by_cases hc:(k0==NameKind.free&&env.scope.kind == .function&&env.kindOf n==some .cell)=true
 ·have e':(n,NameKind.cell)=(y,k):=by rw [<-e];simp only [hc,jX]
  cases e'
  simp only [j0,beq_iff_eq] at hc
  exact ⟨_,hn,.inl ⟨hc.1.1,hc.2,rfl⟩⟩
 ·have e':(n,k0)=(y,k):=by rw [<-e];simp only [hc,if_false];rfl
  cases e'
  refine ⟨_,hn,.inr ⟨rfl,λ⟨a,b,c⟩=>hc ?_⟩⟩
  simp [a,b,c]
def sL (S:cf X.env.scope scope x) {y:Str} (h:(relabel scope X.env).names.lookup y=some .local):y=x\/y = ".0" := by
 obtain ⟨k0,hm,⟨_,_,e⟩|⟨e,_⟩⟩:=wa h
 ·cases e
 ·subst e
  exact (S.names _ hm rfl).2
def oQ (S:cf X.env.scope scope x) (hk:X.env.scope.kind=.function) {y:Str}(h:(relabel scope X.env).names.lookup y=some .cell\/(relabel scope X.env).names.lookup y=some .free):(y,NameKind.free)∈scope.names:=by
 rcases h with h|h
 ·obtain ⟨k0,hm,⟨e,_,_⟩|⟨e,_⟩⟩:=wa h
  ·subst e;exact hm
  ·subst e;exact absurd rfl (S.ncell _ hm)
 ·obtain ⟨k0,hm,⟨_,_,e⟩|⟨e,n⟩⟩:=wa h
  ·cases e
  ·subst e
   exact hm
end
def Dq {P:Program}{wd:World}{B:Around}{Z:Result->Shared->Prop}{u0:Shared}{el tg iter:Expr}{sc:Scope}{ps:Pos}{iv ac:Value}{ev:Env}(J0:Nat->Shared->Prop)
  (turn:∀k u,J0 k u->wpAny (model P wd) B (pyNext iv) (λr u1=>match r with|none=>Z (.ok .next) u1|some v=>wpAny (model P wd) B (letOwnedTupleGo tg iv v) (λ_ u2 =>
   wpAny (model P wd) B (assign tg ev v) (λ_ u3=>wpAny (model P wd) B (eval el ev) (λy u4=>wpAny (model P wd) B (call (.builtin "list.append") [ac,y]) (λ_ u5=>∃m,m<k/\J0 m u5)
    (notedBy (model P wd) B ev λe u=>Z (.error e) u) u4) (notedBy (model P wd) B ev λe u=>Z (.error e) u) u3) (notedBy (model P wd) B ev λe u=>Z (.error e) u) u2) (notedBy (model P wd) B ev λe u=>Z (.error e) u) u1)
   (notedBy (model P wd) B ev λe u=>Z (.error e) u) u)
  (k0:Nat) (fM:J0 k0 u0):codeAny (model P wd) B (.compLoop (.ListComp el [⟨tg,iter,[],0⟩] sc ps) 0 iv ac ev) Z u0:=by
 refine codeAny_loop rfl J0 (λk u hJ=>wpAny_noted (E:=λe u=>Z (.error e) u) (env:=ev) (m:=compTurn (.ListComp el [⟨tg,iter,[],0⟩] sc ps) 0 iv ac ev) ?_) k0 fM
 rw [compTurn_list1]
 have one:=turn k u hJ
 refine zq (wpAny_standAt (zq (yS one (λr u1 q1=>?_) λ_ _ z=>z)))
 cases r with
 | none=>exact zE q1
 | some v =>
  refine zq (yS q1 (λ_ u2 q2=>zq (yS q2 (λ_ u3 q3=>?_) λ_ _ z=>z)) λ_ _ z=>z)
  exact zq (zq (yS q3 (λy u4 q4=>zq (yS q4 (λ_ u5 q5=>zE (zE ⟨rfl,q5⟩)) λ_ _ z=>z)) λ_ _ z=>z))
def gK (J:It) (te:TE) (U:St) (Q:VK) (H1:Hp):Prop:=∃W:Nat->Nat->List V->Hp->Prop,(∃m,W 0 m [] H1)/\∀i m ys H,W i m ys H ->
 (J.stop i H/\ys.length<=sizeLine/\∀l,H l=none->Q (.ref l) (upd H l (.lst ys))) \/
 (J.go i H/\ys.length<=sizeLine/\∀z H',J.yld i H z H'->te (some z::U) H' λy H2=>∃m',m'<m/\W (i+1) m' (ys++[y]) H2)
def oR (wi:TI) (te:TE):TE:=λU H Q=>wi U H λJ H1=>gK J te U Q H1
end L2
namespace L2
open PySem PySem.Spec PyProof.Rows PySem.W
structure cx (sc scope:Scope) (xs:Ad):Prop where
 kind:scope.kind=.function
 ncell:∀y∈scope.names,y.2 ≠ .cell
 names:∀y∈scope.names,y.2=.local->scope.names.lookup y.1=some .local/\(y.1∈xs\/y.1 = ".0")
 free:∀y∈scope.names,y.2=.free->sc.names.lookup y.1=some .cell
def gL (X:Cx) (scope:Scope) (cl:List (Str×Addr)) (xs:Ad) (C:Addr) (aa:Shared) (ag:Hp) (fp:Ae) (E:Aa):Cx :=
 { X with N:=xs++X.N,s₀:=aa,H₀:=ag,env:=compEnvC scope cl C X.env,outer:=X.stack,ex:=fp,fn:=λ_=>false,pn:=[],xe:=E }
def bR (X:Cx) (M:Ad) (scope:Scope) (cl:List (Str×Addr)) (xs:Ad) (C:Addr) (aa:Shared) (ag:Hp) (fp:Ae) (E:Aa):Cx :=
 { X with N:=xs++M,s₀:=aa,H₀:=ag,env:=compEnvC scope cl C X.env,outer:=X.stack,ex:=fp,fn:=λ_=>false,pn:=[],xe:=E }
section
variable {X:Cx}{scope:Scope}{xs:Ad}
def mq (S:cx X.env.scope scope xs) {y:Str} (h:(relabel scope X.env).names.lookup y=some .local):y∈xs\/y = ".0" := by
 obtain ⟨k0,hm,⟨_,_,e⟩|⟨e,_⟩⟩:=wa h
 ·cases e
 ·subst e
  exact (S.names _ hm rfl).2
def iK (S:cx X.env.scope scope xs) (hk:X.env.scope.kind=.function) {y:Str}(h:(relabel scope X.env).names.lookup y=some .cell\/(relabel scope X.env).names.lookup y=some .free):(y,NameKind.free)∈scope.names:=by
 rcases h with h|h
 ·obtain ⟨k0,hm,⟨e,_,_⟩|⟨e,_⟩⟩:=wa h
  ·subst e;exact hm
  ·subst e;exact absurd rfl (S.ncell _ hm)
 ·obtain ⟨k0,hm,⟨_,_,e⟩|⟨e,n⟩⟩:=wa h
  ·cases e
  ·subst e
   exact hm
end
def d7 (X:Cx) (ifs:List Expr) (t:TT):Prop:=∀(pins:Ac) (s:Shared) (U:St) (H:Hp) (Q:Bool->Hp->Prop),Inv X pins U H s->t U H Q ->
 wpAny (model X.prog X.w) X.A (forIn ifs true λc r=>if r=true then do let ok <-isTrue c X.env (eval c X.env);pure (ForInStep.yield ok) else pure (ForInStep.yield r)) (TP X pins U Q) X.xe s
def mv:TT:=λ_ H Q=>Q true H
def Dr {X:Cx}:d7 X [] mv:=λpins s U H Q I h=>wpAny_tests_nil ⟨H,I,h⟩
def sN {X:Cx}{c:Expr}{t:TT}(h:PT X c t):d7 X [c] t:=λpins s U H Q I q=>wpAny_tests_one (h pins s U H Q I q)
def d7.nox {X:Cx}{ifs:List Expr}{t:TT}(h:d7 X.nox ifs t):d7 X ifs t:=λpins s U H Q I hw =>
 yS (h pins s U H Q (I.wish _) hw) (λb s' ⟨H',I',q⟩=>⟨H',I'.unwish,q⟩) λ_ _ z=>z.elim
def sO {P:Program}{wd:World}{B:Around}{Z:Result->Shared->Prop}{u0:Shared}{el tg iter:Expr}{ifs:List Expr}{sc:Scope}{ps:Pos}{iv ac:Value}{ev:Env}(J0:Nat->Shared->Prop)
  (turn:∀k u,J0 k u->wpAny (model P wd) B (pyNext iv) (λr u1=>match r with|none=>Z (.ok .next) u1|some v=>wpAny (model P wd) B (letOwnedTupleGo tg iv v) (λ_ u2 =>
   wpAny (model P wd) B (assign tg ev v) (λ_ u3=>wpAny (model P wd) B (forIn ifs true λc r=>if r=true then do let ok <-isTrue c ev (eval c ev);pure (ForInStep.yield ok) else pure (ForInStep.yield r)) (λok u4 =>
    if ok=true then wpAny (model P wd) B (eval el ev) (λy u5=>wpAny (model P wd) B (call (.builtin "list.append") [ac,y]) (λ_ u6=>∃m,m<k/\J0 m u6)
    (notedBy (model P wd) B ev λe u=>Z (.error e) u) u5) (notedBy (model P wd) B ev λe u=>Z (.error e) u) u4 else ∃m,m<k/\J0 m u4) (notedBy (model P wd) B ev λe u=>Z (.error e) u) u3) (notedBy (model P wd) B ev λe u=>Z (.error e) u) u2) (notedBy (model P wd) B ev λe u=>Z (.error e) u) u1)
   (notedBy (model P wd) B ev λe u=>Z (.error e) u) u)
  (k0:Nat) (fM:J0 k0 u0):codeAny (model P wd) B (.compLoop (.ListComp el [⟨tg,iter,ifs,0⟩] sc ps) 0 iv ac ev) Z u0:=by
 refine codeAny_loop rfl J0 (λk u hJ=>wpAny_noted (E:=λe u=>Z (.error e) u) (env:=ev) (m:=compTurn (.ListComp el [⟨tg,iter,ifs,0⟩] sc ps) 0 iv ac ev) ?_) k0 fM
 rw [compTurn_list]
 have one:=turn k u hJ
 refine zq (wpAny_standAt (zq (yS one (λr u1 q1=>?_) λ_ _ z=>z)))
 cases r with
 | none=>exact zE q1
 | some v =>
  refine zq (yS q1 (λ_ u2 q2=>zq (yS q2 (λ_ u3 q3=>zq (yS q3 (λok u4 q4=>?_) λ_ _ z=>z)) λ_ _ z=>z)) λ_ _ z=>z)
  cases ok with
  | true=>exact zq (zq (yS q4 (λy u4 q4=>zq (yS q4 (λ_ u5 q5=>zE (zE ⟨rfl,q5⟩)) λ_ _ z=>z)) λ_ _ z=>z))
  | false=>exact zq (zE (zE ⟨rfl,q4⟩))
def eA (J:It) (gt:TG) (tt:TT) (te:TE) (n:Nat) (U:St) (Q:VK) (H1:Hp):Prop:=∃W:Nat->Nat->List V->Hp->Prop,(∃m,W 0 m [] H1)/\∀i m ys H,W i m ys H ->
 (J.stop i H/\ys.length<=sizeLine/\∀l,H l=none->Q (.ref l) (upd H l (.lst ys))) \/
 (J.go i H/\ys.length<=sizeLine/\∀z H',J.yld i H z H'->gt z (List.replicate n none++U) H' λav H1=>∃own:St,av=own++U/\own.length=n/\tt av H1 λb H2 =>
  if b=true then te av H2 λy H3=>∃m',m'<m/\W (i+1) m' (ys++[y]) H3 else ∃m',m'<m/\W (i+1) m' ys H2)
def sP (wi:TI) (gt:TG) (tt:TT) (te:TE) (n:Nat):TE:=λU H Q=>wi U H λJ H1=>eA J gt tt te n U Q H1
def sQ {X:Cx} {elt iter tg:Expr} {ifs:List Expr} {xs:Ad} {pos:Pos} {scope:Scope} {wi:TI} {gt:TG} {tt:TT} {te:TE} {M:Ad} (hc:X.calm=true) (S:cx X.env.scope scope xs) (eN:Hid scope M X.N) (bH:((".0" : Str)::(xs++M)).Nodup)
  (hi:PI X tg iter wi) (kB:∀cl C aa ag fp E,PG (bR X M scope cl xs C aa ag fp E) tg gt) (fN:∀cl C aa ag fp,d7 (bR X M scope cl xs C aa ag fp (λ_ _=>False)) ifs tt) (he:∀cl C aa ag fp,PE (bR X M scope cl xs C aa ag fp (λ_ _=>False)) elt te)
  (hs:∀v,foldedSetIterable iter X.env v=pure v:=by intro _;rfl):PE X (.ListComp elt [⟨tg,iter,ifs,0⟩] scope pos) (sP wi gt tt te xs.length):=by
 intro pins s U H Q I h
 have hN:(xs++M).Nodup:=(ja.mp bH).2
 have kC:(".0" : Str)∉M:=λz=>(ja.mp bH).1 (yb _ z)
 obtain ⟨cl,eP,bq,d0⟩:=oO X.env scope λp hp hf=>I.ok.has p.1 (.inl (S.free p hp hf))
 have eR:X.env.scope.kind=.function:=I.ok.kind
 rw [eval_ListComp]
 refine wpAny_comprehension_free (use:=none) rfl hs eP S.kind (λy hy hl=>(S.names y hy hl).1) ?_
 refine aS (hi pins s U H _ I h) λv s1 h1=>aS h1 λki aa h2=>?_
 obtain ⟨it,fp,tn,J,H2,e,I2,T,aA,f2,W,⟨m0,w0⟩,turn⟩:=h2
 subst e
 refine wt (wpAny_newFunctionEnv S.ncell (by intro y hy;simp at hy) (λau ay aw=>?_) S.kind)
 dsimp only at ay aw ⊢
 generalize hH2:aa.heap.push { cls:=.type "list", dict:=none,data:=.seq ([]:Af).toArray }=G2 at ay aw ⊢
 have hC:G2.objs.size=aa.heap.objs.size+1:=by rw [<-hH2,Heap.size_push]
 have di:aa.heap.objs.size≠G2.objs.size:=by rw [hC];exact yt (jq _)
 have n4:aa.heap.objs.size<=G2.objs.size:=by rw [hC];exact Nat.le_succ _
 have old:∀b o,aa.heap.get? b=some o->au.get? b=some o:=λb o e=>by
  have hb:b≠G2.objs.size:=by rw [hC];exact yt (Nat.lt_succ_of_lt (zY e))
  exact aw.extBut b o hb (z7 _ (hH2▸z7 _ e))
 have cy:au.get? aa.heap.objs.size=some { cls:=.type "list", data:=.seq (#[]:Array Value) 0 }:=aw.extBut _ _ di (z7 _ (hH2▸yR _ rfl))
 generalize hD:aa.heap.objs.size=D at *
 generalize hCC:G2.objs.size=C at *
 have bY:∀{b:Nat} {o:Obj},aa.heap.get? b=some o->b<D:=λe=>by rw [<-hD];exact zY e
 have nofr:∀b,D<=b->b∉b_ X.stack:=λb hb z=>by
  rcases yv.mp (I2.stkSub b z) with q|q
  ·exact oJ I2.lt hD hb q
  ·exact I2.nofs (by rw [hD];exact hb) q
 let E':Aa:=notedBy (model X.prog X.w) X.A (compEnvC scope cl C X.env) λe s'=>compPost (model X.prog X.w) X.A X.xe none (EP X pins U Q) (.ref D) C (.error e) s'
 let Y:Cx:=bR X M scope cl xs C aa H2 fp E'
 have bI:∀b∈fp,b0 X pins H2 b:=f2
 have eS:Y.Ok:=by
  refine ⟨I2.ok.mod,S.kind,I2.ok.glob,I2.ok.blt,(by show aa.heap.objs.size<=C;omega),λy z c h1 h2=>?_,λy hy=>?_,λy c hf=>?_,I2.ok.hd,I2.ok.frames,.inl rfl,λb hb=>?_,I2.bs,yM I2.ok.bsz I2.sz,λb o hb hx=>?_,λb hb hx=>?_,I2.stack,I2.stkFree⟩
  ·exact I2.ok.inj y z c (bq y c h1) (bq z c h2)
  ·exact d0 y (iK S eR hy)
  ·cases hf
  ·refine ⟨λz=>?_,λy c hy=>(bI b hb).2.2.2.2.1 y c (bq y c hy)⟩
   obtain ⟨o,ho,_⟩:=T.obj 0 _ aA b hb
   exact jN (bY ho) hC z
  ·rcases (bI b hx).2.2.2.1 with z|z
   ·exact I2.ok.noex b o hb z
   ·exact oK (zY hb) I2.ok.bsz z
  ·rcases yv.mp (I2.stkSub b hx) with q|q
   ·exact (bI b hb).2.1 q
   ·exact (bI b hb).2.2.1 q
 have cE:∀{s':Shared} {H':Hp} {o:Obj},s'.heap.get? D=some o->H' D=none->(∀v,o.data ≠ .cell v)->∀p∈[(D,o)],s'.heap.get? p.1=some p.2/\H' p.1=none/\p.1≠Y.env.locals/\p.1∉Y.fs/\∀v,p.2.data ≠ .cell v:=λ{s' H' o} e1 e2 e3 p hp=>by
  have ep:p=(D,o):=by simpa using hp
  subst ep
  exact ⟨e1,e2,di,nofr D (zI _),e3⟩
 have I0:Inv Y [(D,{ cls:=.type "list", data:=.seq (#[]:Array Value) 0 })] (List.replicate xs.length none++U) H2 { aa with heap:=au,toks:=aa.toks+([]:List (Str×Value)).length }:=by
  have fresh:∀b,D<=b->H2 b=none:=λb hb=>I2.hok.fresh (by rw [hD];exact hb)
  refine ⟨eS,rfl,I2.bare,Un.kept old,⟨_,ay,λi y v e1 e2 e3=>?_⟩,λy c hy=>?_,fresh C (by omega),λy c hy=>I2.freeC y c (bq y c hy),λp hp=>cE cy (fresh D (zI _)) (λv z=>by cases z) p hp,I2.hok.kept old,?_⟩
  ·by_cases a6:i<xs.length
   ·rw [jj (by simpa using a6),List.getElem?_replicate] at e2
    simp [a6] at e2
   ·obtain ⟨j,rfl⟩:∃j,i=xs.length+j:=⟨i-xs.length,by omega⟩
    have gk:M[j]?=some y:=by
     have:(xs++M)[xs.length+j]?=some y:=e1
     rw [jd (by omega)] at this
     simpa using this
    have kD:X.N[j]?=some y:=by
     rcases eN.get gk with q|q
     ·exact q
     ·refine absurd ?_ q
      rcases e3 with e3|e3|e3<;>(obtain ⟨k0,hm,_⟩:=wa e3;exact jw.mpr ⟨_,hm,rfl⟩)
    have kE:U[j]?=some (some v):=by
     rw [jd (by simp)] at e2
     simpa using e2
    have eU:¬(y∈xs\/y = ".0"):=λz=>by
     have hm:=jY gk
     rcases z with z|z
     ·exact (List.nodup_append.mp hN).2.2 y z y hm rfl
     ·rw [z] at hm
      exact kC hm
    have cZ:(y,NameKind.free)∈scope.names:=by
     rcases e3 with e3|e3|e3
     ·exact absurd (mq S e3) eU
     ·exact iK S eR (.inl e3)
     ·exact iK S eR (.inr e3)
    have gm:X.env.scope.names.lookup y=some .cell:=S.free _ cZ rfl
    obtain ⟨m,hn,hl⟩:=I2.loc
    obtain ⟨u,r,l⟩:=hl j y v kD kE (.inr (.inl gm))
    refine ⟨u,r,?_⟩
    rcases l with ⟨hk,_⟩|⟨_,c,gf,cX⟩
    ·have:X.env.kindOf y=some .cell:=gm
     rw [this] at hk;cases hk
    ·obtain ⟨c',cC⟩:=d0 y cZ
     have:=bq y c' cC
     rw [gf] at this
     cases this
     refine .inr ⟨?_,c,cC,?_⟩
     ·rcases e3 with e3|e3|e3
      ·exact absurd (mq S e3) eU
      ·exact .inl e3
      ·exact .inr e3
     ·obtain ⟨o,ho,hd⟩:=cX
      exact ⟨o,old c o ho,hd⟩
  ·obtain ⟨v,o,ho,hd⟩:=I2.cell y c (bq y c hy)
   exact ⟨v,o,old c o ho,hd⟩
  ·show (List.replicate xs.length none++U).length=(xs++M).length
   simp [I2.len,eN.1]
 have eV:∀{pl:Ac} {H':Hp},(∀p∈pl,p.1=D)->(∀b∈fp,H' b=none)->∀b∈fp,b0 Y pl H' b:=λ{pl H'} bu hn b hb=>by
  obtain ⟨o,ho,_⟩:=T.obj 0 _ aA b hb
  refine ⟨hn b hb,λz=>?_,?_,.inl hb,(eS.exf b hb).2,λp hp z=>?_⟩
  ·exact jN (bY ho) hC z
  ·exact eS.exfs b hb
  ·have hp':p∈pl:=by simpa [Y,bR] using hp
   exact oM (bY ho) (bu p hp') z
 have loop:codeAny (model X.prog X.w) X.A (.compLoop (.ListComp elt [⟨tg,iter,ifs,0⟩] scope pos) 0 (.ref it) (.ref D) (compEnvC scope cl C X.env))
   (compPost (model X.prog X.w) X.A X.xe none (EP X pins U Q) (.ref D) C) { aa with heap:=au,toks:=aa.toks+([]:List (Str×Value)).length }:=by
  refine sO (λn s'=>∃i ys H' its k,Inv Y [(D,{ cls:=.type "list", data:=.seq (its:Af).toArray k })] (List.replicate xs.length none++U) H' s'/\Vals ys its/\tn i s'.heap/\(∀b∈fp,H' b=none)/\W i n ys H') ?_ m0
   ⟨0,[],H2,[],0,I0,.nil,T.keep 0 _ _ aA (λb hb o e=>old b o e),λb hb=>(bI b hb).1,w0⟩
  rintro n s3 ⟨i,ys,H3,its,k,I3,rv,a4,eG,w3⟩
  have c3:∀{o:Obj},∀p∈[(D,o)],p.1=D:=λ{o} p hp=>by
   have ep:p=(D,o):=by simpa using hp
   rw [ep]
  obtain ⟨gD,nD,_,_,_⟩:=I3.pin (D,_) (yb _ yL)
  rcases turn i n ys H3 w3 with ⟨stop,hz,q⟩|⟨go,hz,step⟩
  ·refine aS (T.done Y rfl rfl rfl hc i _ s3 _ H3 E' I3 (eV c3 eG) a4 stop) λr s4 ⟨hr,I4⟩=>?_
   subst hr
   obtain ⟨kF,eW,_,_,_⟩:=I4.pin (D,_) (yb _ yL)
   obtain ⟨m4,kG,_⟩:=id I4.loc
   refine ⟨m4,kG,λh' bD=>?_⟩
   refine ⟨.ref D,upd H3 D (.lst ys),?_,rfl,q D eW⟩
   have dW:∀{b:Addr} {u:HO},H3 b=some u->b≠C:=λe z=>by
    have:H3 C=none:=I4.free
    rw [z,this] at e;cases e
   refine I2.call' (s':={ s4 with heap:=h' }) (ch:=fp) (H':=upd H3 D (.lst ys)) I4.os ?_ ?_ I4.bare λb hb=>⟨(bI b hb).2.2.2.1,(bI b hb).2.1,(bI b hb).2.2.2.2.1,(bI b hb).2.2.2.2.2⟩
   ·have B:=I4.base
    have eX:∀{b:Nat} {o:Obj},aa.heap.get? b=some o->b≠C:=λe z=>jN (bY e) hC z
    have eY:∀{b:Addr} {u:HO},H3 b=some u->b≠D:=λe z=>by rw [z,eW] at e;cases e
    refine ⟨λb o e nn hb hx=>(bD.2 b (eX e)).trans (B.keep b o e nn hb hx),λb o e nn hb hx=>?_,λb o e nn hx=>?_,λb o e hx=>?_,λb xs e=>?_,λb o u e=>?_,λb ps e=>?_⟩
    ·obtain ⟨sl,z⟩:=B.slot b o e nn hb hx
     exact ⟨sl,(bD.2 b (eX e)).trans z⟩
    ·have kH:b≠D:=yt (bY e)
     rw [zF kH]
     exact B.free b o e nn hx
    ·obtain ⟨o',z⟩:=B.there b o e hx
     exact ⟨o',(bD.2 b (eX e)).trans z⟩
    ·have z:=B.tups b xs e
     rw [zF (eY z)];exact z
    ·have z:=B.frzs b o u e
     rw [zF (eY z)];exact z
    ·obtain ⟨more,z⟩:=B.tbls b ps e
     exact ⟨more,by rw [zF (eY z)];exact z⟩
   ·intro a o e
    by_cases ha:a=D
    ·subst ha
     rw [yx] at e
     cases e
     exact ⟨hz,its,k,rv,(bD.2 _ di).trans kF⟩
    ·rw [zF ha] at e
     have cz:∀b u,H3 b=some u->(upd H3 D (.lst ys)) b=some u:=λb u z=>by
      have hb:b≠D:=λw=>by rw [w,eW] at z;cases z
      rw [zF hb];exact z
     refine (I4.hok a o e).stay (λb u hb z=>(bD.2 b ?_).trans z) (λb z=>cz b _ z) λb xs z=>cz b _ z
     rcases hb with hb|hb
     ·rw [hb];exact dW e
     ·exact dW hb
  ·refine aS (T.item Y rfl rfl rfl hc i _ s3 _ H3 E' I3 (eV c3 eG) a4 go) λr s4 ⟨u,hr,h4⟩=>?_
   subst hr
   refine aS h4 λ_ s5 ⟨z,H5,I5,r5,y5,cM,gG⟩=>?_
   have gH:=I5.pinned (eV c3 gG) (T.obj _ _ cM)
   have eZ:PG Y tg gt:=kB cl C aa H2 fp E'
   have kI:PE Y elt te:=PE.nox (X:=Y) (he cl C aa H2 fp)
   have oS:d7 Y ifs tt:=d7.nox (X:=Y) (fN cl C aa H2 fp)
   refine aS (eZ _ s5 (List.replicate xs.length none++U) H5 z u _ gH r5 (step z _ y5)) λ_ s6 ⟨aE,H6,I6,own,e1,e2,q6⟩=>?_
   subst e1
   have wk:∀(j:Nat) v,(List.replicate xs.length none++U)[j]?=some (some v)->(own++U)[j]?=some (some v):=λj v e=>by
    by_cases a6:j<xs.length
    ·rw [jj (by simpa using a6),List.getElem?_replicate] at e
     simp [a6] at e
    ·rw [jd (by simp;omega)] at e
     rw [jd (by omega),e2]
     simpa using e
   have wl:(List.replicate xs.length none++U).length=(own++U).length:=by simp [e2]
   refine aS (oS _ s6 _ _ _ I6 q6) λb s7 ⟨H7,I7,q7⟩=>?_
   cases b with
   | true =>
    refine aS (kI _ s7 _ _ _ I7 q7) λuy s7 ⟨y,H7,I7,ry,m',hm,w7⟩=>?_
    obtain ⟨fO,d8,_,_,_⟩:=I7.pin (D,_) (yb _ (jI _ yL))
    refine wpAny_list_append_plain ⟨k,fO⟩ (λh' bu bD=>?_) (by rw [yr,<-rv.length];exact hz)
    obtain ⟨k',gn⟩:=bu
    have I8:Inv Y [] (own++U) H7 { s7 with heap:=h' }:=(I7.pins_of (pins':=[]) (λp hp=>nomatch hp)).turned (it:=D) (t':=s7.toks) (λb o hb e=>(bD.2 b hb).trans e) d8 di
     (.inr (by show aa.heap.objs.size<=D;omega)) (λa c hy gM=>by
      obtain ⟨v',o',ho',_⟩:=I2.cell a c (bq a c hy)
      exact yt (bY ho') gM) (λp hp=>by simp [Y,bR] at hp)
    have I9:Inv Y [] (List.replicate xs.length none++U) H7 { s7 with heap:=h' }:=I8.weak wl wk
    have bJ:∀b∈fp,∃o,s5.heap.get? b=some o/\s7.heap.get? b=some o/\H7 b=none:=λb hb=>by
     obtain ⟨o,e,_⟩:=T.obj _ _ cM b hb
     have q:=I7.pin (b,o) (yb _ (yb _ (wO hb e)))
     exact ⟨o,e,q.1,q.2.1⟩
    have kJ:∀b∈fp,b≠D:=λb hb=>by
     obtain ⟨o,ho,_⟩:=T.obj 0 _ aA b hb
     exact yt (bY ho)
    have eT:its.toArray.push uy=(its++[uy]).toArray:=by simp
    rw [eT] at gn
    refine ⟨m',hm,i+1,ys++[y],H7,its++[uy],k',I9.pins_of (cE gn d8 λv e=>by cases e),rv.append (.cons ry .nil),T.keep (i+1) _ _ cM λb hb o e=>?_,λb hb=>?_,w7⟩
    ·obtain ⟨o',e1,e2,_⟩:=bJ b hb
     rw [e] at e1
     cases e1
     exact (bD.2 b (kJ b hb)).trans e2
    ·obtain ⟨_,_,_,q⟩:=bJ b hb
     exact q
   | false =>
    obtain ⟨m',hm,w7⟩:=q7
    obtain ⟨fO,d8,_,_,_⟩:=I7.pin (D,_) (yb _ (jI _ yL))
    have I9:Inv Y [] (List.replicate xs.length none++U) H7 s7:=(I7.pins_of (pins':=[]) (λp hp=>nomatch hp)).weak wl wk
    have bJ:∀b∈fp,∃o,s5.heap.get? b=some o/\s7.heap.get? b=some o/\H7 b=none:=λb hb=>by
     obtain ⟨o,e,_⟩:=T.obj _ _ cM b hb
     have q:=I7.pin (b,o) (yb _ (yb _ (wO hb e)))
     exact ⟨o,e,q.1,q.2.1⟩
    refine ⟨m',hm,i+1,ys,H7,its,k,I9.pins_of (cE fO d8 λv e=>by cases e),rv,T.keep (i+1) _ _ cM λb hb o e=>?_,λb hb=>?_,w7⟩
    ·obtain ⟨o',e1,e2,_⟩:=bJ b hb
     rw [e] at e1
     cases e1
     exact e2
    ·obtain ⟨_,_,_,q⟩:=bJ b hb
     exact q
 exact codeAny_compStart_list loop (T.self X.A 0 _ _ _ (T.keep 0 _ _ aA (λb hb o e=>old b o e)) loop)
def sR {X:Cx} {elt iter:Expr} {x:Str} {px pos:Pos} {scope:Scope} {wi:TI} {te:TE} {M:Ad} (hc:X.calm=true) (S:cf X.env.scope scope x) (eN:Hid scope M X.N) (bH:((".0" : Str)::x::M).Nodup)
  (hi:PI X (.Name x px) iter wi) (he:∀cl C aa ag fp,PE (gj X M scope cl x C aa ag fp (λ_ _=>False)) elt te)
  (hs:∀v,foldedSetIterable iter X.env v=pure v:=by intro _;rfl):PE X (.ListComp elt [⟨.Name x px,iter,[],0⟩] scope pos) (oR wi te):=by
 have hN:([x]++M).Nodup:=(ja.mp bH).2
 have S':cx X.env.scope scope [x]:=⟨S.kind,S.ncell,λy hy h=>⟨(S.names y hy h).1,(S.names y hy h).2.imp (λe=>by rw [e];exact List.mem_singleton_self _) id⟩,S.free⟩
 have eZ:∀cl C aa ag fp E,PG (bR X M scope cl [x] C aa ag fp E) (.Name x px) (j8 0):=λcl C aa ag fp E=>wN (X:=bR X M scope cl [x] C aa ag fp E) (i:=0) hN rfl (.inl (wv S.hx)) (.inr (wv S.hx))
 have e:∀U Q,(λJ H1=>gK J te U Q H1)=λJ H1=>eA J (j8 0) mv te 1 U Q H1:=λU Q=>by
  funext J H1
  exact propext (exists_congr λW=>and_congr Iff.rfl (forall_congr' λi=>forall_congr' λm=>forall_congr' λys=>forall_congr' λH=>imp_congr Iff.rfl (or_congr Iff.rfl (and_congr Iff.rfl (and_congr Iff.rfl (forall_congr' λz=>forall_congr' λH'=>imp_congr Iff.rfl
   ⟨λh=>⟨[some z],rfl,rfl,h⟩,λ⟨_,_,_,h⟩=>h⟩))))))
 intro pins s U H Q I h
 refine sQ (te:=te) (tt:=mv) hc S' eN bH hi eZ (λcl C aa ag fp=>Dr) (λcl C aa ag fp=>he cl C aa ag fp) hs pins s U H Q I ?_
 show wi U H λJ H1=>eA J (j8 0) mv te 1 U Q H1
 rw [<-e]
 exact h
end L2
namespace L2
open PySem PySem.Spec PyProof.Rows
def Ds {X:Cx} {elt iter:Expr} {x:Str} {px pos:Pos} {scope:Scope} {wi:TI} {te:TE} {N:Ad} (hc:X.calm=true) (S:cf X.env.scope scope x) (eN:X.N=N) (bH:((".0" : Str)::x::N).Nodup)
  (hi:PI X (.Name x px) iter wi) (he:∀cl C aa ag fp,PE (oP X scope cl x C aa ag fp (λ_ _=>False)) elt te)
  (hs:∀v,foldedSetIterable iter X.env v=pure v:=by intro _;rfl):PE X (.ListComp elt [⟨.Name x px,iter,[],0⟩] scope pos) (oR wi te) :=
 sR hc S Hid.refl (eN▸bH) hi he hs
def oU (z:Str):It:=⟨λi _=>i<z.cps.size,λi H v H'=>H'=H/\∃c,z.cps[i]?=some c/\v=.str ⟨#[c]⟩,λi _=>z.cps.size<=i⟩
def sS {P:Program} {w:World} {K:PySem.W.Frag} {tg:Expr} (z:Str) (t:Tok) (it:Addr) (ty:String) (gh:ty = "str_ascii_iterator" \/ ty = "str_iterator"):Turn P w K tg (oU z) [it] it (λi h=>h.IsStrIter it ty z t i) where
 mem:=by simp
 obj:=λi h st b hb=>by
  have e:b=it:=by simpa using hb
  subst e
  obtain ⟨o,e,c,d⟩:=st
  exact ⟨o,e,λv z=>by rw [d] at z;cases z⟩
 keep:=λi h h' st k=>by
  obtain ⟨o,e,r⟩:=st
  exact ⟨o,k it (by simp) o e,r⟩
 item:=by
  intro X hP hw hK hc i pins s U H E I hf st hg
  subst hP hw hK
  obtain ⟨f0,f1,f2,f3,f4,f5⟩:=hf it (by simp)
  have W:Walks X.prog X.w X.A it [it] [it] z.cps.size (SignAt z) (λi h=>h.IsStrIter it ty z t i):=by
   rcases gh with e|e
   ·rw [e];exact Walks.strAscii (I.ok.hd hc) it z t
   ·rw [e];exact Walks.strWide (I.ok.hd hc) it z t
  refine W.item i s _ _ hg st λv h' tk hv aU kk=>?_
  obtain ⟨c,u,Dt,rfl⟩:=hv
  have I1:Inv X pins U H { s with heap:=h',toks:=tk }:=I.turned (λb o hb e=>kk b o (by simpa using hb) e) f0 f1 f3 f4 f5
  obtain ⟨o,e,cc,d⟩:=id aU
  exact ⟨_,rfl,kj (s:={ s with heap:=h',toks:=tk }) e cc d (by rcases gh with e|e<;>rw [e]<;>decide) ⟨.str ⟨#[c]⟩,H,I1,⟨u,rfl⟩,⟨rfl,c,Dt,rfl⟩,aU,λb hb=>(hf b hb).1⟩⟩
 done:=by
  intro X hP hw hK hc i pins s U H E I hf st hg
  subst hP hw hK
  obtain ⟨f0,f1,f2,f3,f4,f5⟩:=hf it (by simp)
  have hn:z.cps[i]?=none:=by
   have Du:z.cps.size<=i:=hg
   simpa using Du
  rcases gh with e|e
  ·rw [e] at st
   exact wpAny_pyNext_ascii_end (I.ok.hd hc) st hn λh' eb=>⟨rfl,I.turned (t':=s.toks) (λb o hb e=>eb b o hb e) f0 f1 f3 f4 f5⟩
  ·rw [e] at st
   exact wpAny_pyNext_wide_end (I.ok.hd hc) st hn λh' eb=>⟨rfl,I.turned (t':=s.toks) (λb o hb e=>eb b o hb e) f0 f1 f3 f4 f5⟩
 self:=λA i s Q E st h=>by
  rcases gh with e|e
  ·rw [e] at st;exact wpAny_pyIter_striter_ascii st h
  ·rw [e] at st;exact wpAny_pyIter_striter_wide st h
section
variable {X:Cx}
def Dv:fJ X (λx lo hi H Q=>∃z,x=.str z/\z.length<=sizeLine/\Q (.str (Txt.slice z lo hi)) H):=by
 intro pins s U H x v vl vu lo hi sl Q I rx hs pl pu h
 obtain ⟨z,rfl,hz,q⟩:=h
 obtain ⟨t,rfl⟩:=rx
 refine ⟨"str", _,F.slot_str_getitem.lookup,typeIs_str _ _ _,?_⟩
 have fin:∀t' k,EP X pins U Q (.str (Txt.slice z lo hi) t') { s with toks:=k }:=λt' k=>⟨.str _,H,I.tok _,⟨_,rfl⟩,q⟩
 cases pl with
 | none =>
  cases pu with
  | none=>exact wpAny_getItem_str_slice (l:=none) (u:=none) (st:=none) hs rfl (post_val_or_str ⟨yM (Txt.slice_le z _ _) hz,fin⟩)
  | int j uj=>exact wpAny_getItem_str_slice (l:=none) (u:=some (j,uj)) (st:=none) hs rfl (post_val_or_str ⟨yM (Txt.slice_le z _ _) hz,fin⟩)
 | int i ui =>
  cases pu with
  | none=>exact wpAny_getItem_str_slice (l:=some (i,ui)) (u:=none) (st:=none) hs rfl (post_val_or_str ⟨yM (Txt.slice_le z _ _) hz,fin⟩)
  | int j uj=>exact wpAny_getItem_str_slice (l:=some (i,ui)) (u:=some (j,uj)) (st:=none) hs rfl (post_val_or_str ⟨yM (Txt.slice_le z _ _) hz,fin⟩)
def sT:∀{bs:List Bool}{us:Af},Vals (bs.map V.bl) us->us=bs.map Value.bool
 | [],us,r=>by rw [List.map_nil] at r;cases r;rfl
 | b::bs,us,r=>by
  rw [yC] at r
  cases r with
  | cons r1 r2 =>
   have e:_=Value.bool b:=r1
   rw [yC,<-sT r2,e]
def cN:∀{ys:Ad}{us:Af},Vals (ys.map V.str) us->StrsAre us ys
 | [],us,r=>by rw [List.map_nil] at r;cases r;exact .nil
 | y::ys,us,r=>by
  rw [yC] at r
  cases r with
  | cons r1 r2 =>
   obtain ⟨t,e⟩:=r1
   subst e
   exact .cons y t (cN r2)
def Dw:bf X (compareOp .In) (λx y H Q=>∃(c:Nat) (z:Str),x=.str ⟨#[c]⟩/\y=.str z/\Q (.bl (decide (c∈z.cps.toList))) H):=by
 intro pins s U H x y v u Q I rx ry h
 obtain ⟨c,z,rfl,rfl,q⟩:=h
 refine BW pins s U H _ _ v u Q I rx ry ⟨_,_,rfl,rfl,?_⟩
 rw [StrLaws.found_one]
 exact q
end
section
variable {κ:Type} [DecidableEq κ]
def cm (kvs:List (κ×V)) (k:κ):Option V:=(kvs.find? λkv=>decide (kv.1=k)).map (·.2)
def putK (kvs:List (κ×V)) (k:κ) (v:V):List (κ×V) :=
 if (kvs.any λkv=>decide (kv.1=k))=true then kvs.map (λkv=>if kv.1=k then (kv.1,v) else kv) else kvs++[(k,v)]
def mw {p:κ×V}{r:List (κ×V)}{k:κ}(e:p.1=k):cm (p::r) k=some p.2:=by simp [cm,List.find?_cons,e]
def mx {p:κ×V}{r:List (κ×V)}{k:κ}(e:¬p.1=k):cm (p::r) k=cm r k:=by simp [cm,List.find?_cons,e]
def sU (k:κ):∀kvs:List (κ×V),(kvs.any λkv=>decide (kv.1=k))=(cm kvs k).isSome
 | []=>rfl
 | p::r=>by
  rw [List.any_cons]
  by_cases e:p.1=k
  ·simp only [mw e,je e,Bool.true_or,Option.isSome_some]
  ·rw [mx e,yA e,Bool.false_or];exact sU k r
def oV (kvs:List (κ×V)) (k:κ) (v:V):(putK kvs k v).length<=kvs.length+1:=by
 unfold putK
 split
 ·rw [ji];omega
 ·rw [jW,jx,List.length_nil];omega
def bO.isSome_eq {o:Option V}{u:Option Value}(r:bO o u):o.isSome=u.isSome:=by
 cases o with
 | none=>cases u with
  | none=>rfl
  | some _=>exact (show False from r).elim
 | some _=>cases u with
  | none=>exact (show False from r).elim
  | some _=>rfl
def KV.val {kvs:List (κ×V)}{vs:List (κ×Value)}(r:KV kvs vs) (k:κ):bO (cm kvs k) (valueAt vs k):=by
 unfold KV at r
 induction r with
 | nil=>exact True.intro
 | @cons p q ps qs h t ih =>
  obtain ⟨h1,h2⟩:=h
  by_cases e:p.1=k
  ·have e':q.1=k:=h1.symm.trans e
   have b:valueAt (q::qs) k=some q.2:=by simp [valueAt,List.find?_cons,e']
   rw [mw e,b];exact h2
  ·have e':¬q.1=k:=λz=>e (h1.trans z)
   have b:valueAt (q::qs) k=valueAt qs k:=by simp [valueAt,List.find?_cons,e']
   rw [mx e,b];exact ih
def KV.any {kvs:List (κ×V)}{vs:List (κ×Value)}(r:KV kvs vs) (k:κ):(kvs.any λkv=>decide (kv.1=k))=vs.any λkv=>decide (kv.1=k):=by
 unfold KV at r
 induction r with
 | nil=>rfl
 | cons h t ih=>rw [List.any_cons,List.any_cons,ih,h.1]
def KV.repl {kvs:List (κ×V)}{vs:List (κ×Value)}(r:KV kvs vs) (k:κ) {y:V}{u:Value}(ry:RelV y u) :
  KV (kvs.map λkv=>if kv.1=k then (kv.1,y) else kv) (vs.map λkv=>if kv.1=k then (kv.1,u) else kv):=by
 unfold KV at r ⊢
 induction r with
 | nil=>exact .nil
 | @cons p q ps qs h t ih =>
  rw [yC,yC]
  refine .cons ?_ ih
  obtain ⟨h1,h2⟩:=h
  by_cases e:p.1=k
  ·rw [zw e,zw (h1.symm.trans e)];exact ⟨h1,ry⟩
  ·rw [zC e,zC (λz=>e (h1.trans z))];exact ⟨h1,h2⟩
def KV.put {kvs:List (κ×V)}{vs:List (κ×Value)}(r:KV kvs vs) (k:κ) {y:V}{u:Value}(ry:RelV y u):KV (putK kvs k y) (stored vs k u):=by
 unfold putK stored
 rw [r.any k]
 by_cases e:(vs.any λkv=>decide (kv.1=k))=true
 ·rw [zw e,zw e];exact r.repl k ry
 ·rw [zC e,zC e];exact Paired.snoc r ⟨rfl,ry⟩
def KV.keys {kvs:List (κ×V)}{vs:List (κ×Value)}(r:KV kvs vs):kvs.map (·.1)=vs.map (·.1):=by
 unfold KV at r
 induction r with
 | nil=>rfl
 | cons h t ih=>rw [yC,yC,ih,h.1]
def KV.length {kvs:List (κ×V)}{vs:List (κ×Value)}(r:KV kvs vs):kvs.length=vs.length:=Paired.length r
end
def kK {P:Program}{w:World}{k:Key}{u:Value}(r:RelV (kV k) u):(a0 P w).is k u=true:=by
 cases k with
 | inl i=>obtain ⟨t,e⟩:=(show ∃t,u=Value.int i t from r);subst e;exact AV P w i t
 | inr x=>obtain ⟨t,e⟩:=(show ∃t,u=Value.str x t from r);subst e;exact AW P w x t
def sV {P:Program}{w:World}:∀{ks:List Key}{us:Af},Vals (ks.map kV) us->ItemsAre (a0 P w) ks us
 | [],_,r=>by rw [List.map_nil] at r;cases r;exact .nil
 | k::ks,_,r=>by
  rw [yC] at r
  cases r with
  | cons h t=>exact .cons (kK h) (sV t)
abbrev KT (H:Hp):List (List Key×V)->List (List Key×Addr×Value)->Prop:=Paired λp q=>p.1=q.1/\H q.2.1=some (.tup (p.1.map kV))/\RelV p.2 q.2.2
def KT.val {H:Hp}{kvs:List (List Key×V)}{xs:List (List Key×Addr×Value)}(r:KT H kvs xs) (k:List Key):bO (cm kvs k) ((atKey xs k).map (·.2)):=by
 induction r with
 | nil=>exact True.intro
 | @cons p q ps qs h t ih =>
  obtain ⟨h1,_,h2⟩:=h
  by_cases e:p.1=k
  ·have e':q.1=k:=h1.symm.trans e
   have b:atKey (q::qs) k=some q.2:=by simp [atKey,List.find?_cons,e']
   rw [mw e,b];exact h2
  ·have e':¬q.1=k:=λz=>e (h1.trans z)
   have b:atKey (q::qs) k=atKey qs k:=by simp [atKey,List.find?_cons,e']
   rw [mx e,b];exact ih
def KT.repl {H:Hp}{kvs:List (List Key×V)}{xs:List (List Key×Addr×Value)}(r:KT H kvs xs) (k:List Key) {y:V}{u:Value}(ry:RelV y u) :
  KT H (kvs.map λkv=>if kv.1=k then (kv.1,y) else kv) (xs.map (putAt k u)):=by
 induction r with
 | nil=>exact .nil
 | @cons p q ps qs h t ih =>
  rw [yC,yC]
  refine .cons ?_ ih
  obtain ⟨h1,h2,h3⟩:=h
  unfold putAt
  by_cases e:p.1=k
  ·rw [zw e,zw (h1.symm.trans e)];exact ⟨h1,h2,ry⟩
  ·rw [zC e,zC (λz=>e (h1.trans z))];exact ⟨h1,h2,h3⟩
def KT.put {H:Hp}{kvs:List (List Key×V)}{xs:List (List Key×Addr×Value)}(r:KT H kvs xs) (k:List Key) {b:Addr}{y:V}{u:Value}(hb:H b=some (.tup (k.map kV))) (ry:RelV y u) :
  KT H (putK kvs k y) (storedH xs k b u):=by
 have e:(kvs.any λkv=>decide (kv.1=k))=(atKey xs k).isSome:=by
  rw [sU,(r.val k).isSome_eq,Option.isSome_map]
 unfold putK storedH
 rw [e]
 by_cases q:(atKey xs k).isSome=true
 ·rw [zw q,zw q];exact r.repl k ry
 ·rw [zC q,zC q];exact Paired.snoc r ⟨rfl,hb,ry⟩
def KT.keeps {H H':Hp}{kvs:List (List Key×V)}{xs:List (List Key×Addr×Value)}(r:KT H kvs xs) (ht:∀b ys,H b=some (.tup ys)->H' b=some (.tup ys)):KT H' kvs xs :=
 Paired.mapP r λ_ _ z=>⟨z.1,ht _ _ z.2.1,z.2.2⟩
section
variable {P:Program}{w:World}{H:Hp}{h:Heap}{a:Addr}
def sW {u:HO}(ok:bA P w H h) (e:Rd H a u):aX P w H h a u:=e.ok ok
def jg {kvs:List (Key×V)}(ok:bA P w H h) (e:Rd H a (.dK kvs)):kvs.length<=sizeLine/\(a==sysModules)=false/\∃vs,KV kvs vs/\h.DictOf (a0 P w) a vs :=
 show aX P w H h a (.dK kvs) from sW ok e
def sX {kvs:List (Key×V)}(ok:bA P w H h) (e:H a=some (.dK kvs)):kvs.length<=sizeLine/\(a==sysModules)=false/\∃vs,KV kvs vs/\h.DictOf (a0 P w) a vs:=jg ok (.inl e)
def my {ks:List Key}(ok:bA P w H h) (e:H a=some (.tup (ks.map kV))):(tupleKind (a0 P w)).is h ks a:=by
 obtain ⟨_,its,r,o,h1,h2,n,h3⟩:=(show aX P w H h a (.tup (ks.map kV)) from ok a _ e)
 exact ⟨o,its.toArray,n,h1,h2,h3,by simpa using sV r⟩
def mz {kvs:List (List Key×V)}(ok:bA P w H h) (e:Rd H a (.dT kvs)):kvs.length<=sizeLine/\(a==sysModules)=false /\
  ∃xs,KT H kvs xs/\h.DictOfH (tupleKind (a0 P w)) a xs:=by
 obtain ⟨z,y,xs,r,o,es,ep,h1,h2,h3,h4,h5⟩:=(show aX P w H h a (.dT kvs) from sW ok e)
 refine ⟨z,y,xs,r,o,es,ep,h1,h2,h3,h4,λx hx=>?_,h5⟩
 have all:∀{l:List (List Key×V)} {m:List (List Key×Addr×Value)},KT H l m->∀x∈m,(tupleKind (a0 P w)).is h x.1 x.2.1:=by
  intro l m q
  induction q with
  | nil=>intro x hx;exact nomatch hx
  | @cons p q ps qs hq t ih =>
   intro x hx
   rcases yv.mp hx with e|hx
   ·subst e
    exact my ok (by rw [<-hq.1];exact hq.2.1)
   ·exact ih x hx
 exact all r x hx
def Dx {kvs:List (List Key×V)}(ok:bA P w H h) (e:H a=some (.dT kvs)):kvs.length<=sizeLine/\(a==sysModules)=false /\
  ∃xs,KT H kvs xs/\h.DictOfH (tupleKind (a0 P w)) a xs:=mz ok (.inl e)
end
def c4 (H:Hp) (a:Addr) (y:V) (r:Option V):Prop :=
 (∃kvs k,Rd H a (.dK kvs)/\y=kV k/\r=cm kvs k)\/∃kvs k b,Rd H a (.dT kvs)/\y=.ref b/\H b=some (.tup (k.map kV))/\r=cm kvs k
def e6 (H:Hp) (a:Addr) (y v:V) (H':Hp):Prop :=
 (∃kvs k,H a=some (.dK kvs)/\y=kV k/\kvs.length<sizeLine/\H'=upd H a (.dK (putK kvs k v))) \/
 ∃kvs k b,H a=some (.dT kvs)/\y=.ref b/\H b=some (.tup (k.map kV))/\kvs.length<sizeLine/\H'=upd H a (.dT (putK kvs k v))
def c4.k {H:Hp}{a:Addr}{kvs:List (Key×V)}{k:Key}(e:H a=some (.dK kvs)):c4 H a (kV k) (cm kvs k):=.inl ⟨kvs,k,.inl e,rfl,rfl⟩
def c4.t {H:Hp}{a b:Addr}{kvs:List (List Key×V)}{k:List Key}(e:H a=some (.dT kvs)) (eb:H b=some (.tup (k.map kV))):c4 H a (.ref b) (cm kvs k):=.inr ⟨kvs,k,b,.inl e,rfl,eb,rfl⟩
def e6.k {H:Hp}{a:Addr}{kvs:List (Key×V)}{k:Key}{v:V}(e:H a=some (.dK kvs)) (hl:kvs.length<sizeLine):e6 H a (kV k) v (upd H a (.dK (putK kvs k v))):=.inl ⟨kvs,k,e,rfl,hl,rfl⟩
def e6.t {H:Hp}{a b:Addr}{kvs:List (List Key×V)}{k:List Key}{v:V}(e:H a=some (.dT kvs)) (eb:H b=some (.tup (k.map kV))) (hl:kvs.length<sizeLine) :
  e6 H a (.ref b) v (upd H a (.dT (putK kvs k v))):=.inr ⟨kvs,k,b,e,rfl,eb,hl,rfl⟩
section
variable {X:Cx}{pins:Ac}{U:St}{H:Hp}{s:Shared}{a:Addr}{y v:V}{u r:Value}{o:Option V}{A:Around}{E:Aa}
def Inv.big (I:Inv X pins U H s):sysModules<s.heap.objs.size:=by
 have h:mainGlobals<s.heap.objs.size:=(I.mod.glob.keeps I.bk).lt
 exact Nat.lt_trans (by decide) h
def Dy {Q:Aa}(hu:A.units+1<cLine) (I:Inv X pins U H s) (g:c4 H a y (some v)) (ry:RelV y u) (h:∀w' s',Inv X pins U H s'->RelV v w'->Q w' s') :
  wpAny (model X.prog X.w) A (getItem (.ref a) u) Q E s:=by
 rcases g with ⟨kvs,k,e,ey,l⟩|⟨kvs,k,b,e,ey,eb,l⟩
 ·subst ey
  obtain ⟨z,hd,vs,rel,dd⟩:=jg I.hok e
  obtain ⟨w',hw,cY⟩:=bO.some_of (v:=v) (o:=valueAt vs k) (by rw [l];exact rel.val k)
  exact wpAny_getItem_of (kK ry) dd.mapOf hw (h w' _ (I.tok _) cY)
 ·subst ey
  cases (show u=Value.ref b from ry)
  obtain ⟨z,hd,xs,rel,dd⟩:=mz I.hok e
  obtain ⟨w',hw,cY⟩:=bO.some_of (v:=v) (o:=(atKey xs k).map (·.2)) (by rw [l];exact rel.val k)
  obtain ⟨p,hp,fQ⟩:=Option.map_eq_some_iff.mp hw
  refine wpAny_getItem_heap (tupleKind_room_in1 hu) (my I.hok eb) dd hp ?_
  rw [fQ]
  exact h w' _ (I.tok _) cY
def Dz {Q:Aa}(hu:A.units+1<cLine) (I:Inv X pins U H s) (g:c4 H a y o) (ry:RelV y u) (h:∀s',Inv X pins U H s'->Q (.bool o.isSome) s') :
  wpAny (model X.prog X.w) A (compareOp .In u (.ref a)) Q E s:=by
 rcases g with ⟨kvs,k,e,ey,l⟩|⟨kvs,k,b,e,ey,eb,l⟩
 ·subst ey
  obtain ⟨z,hd,vs,rel,dd⟩:=jg I.hok e
  refine wpAny_in_of (kK ry) hd dd.mapOf ?_
  rw [<-(rel.val k).isSome_eq,<-l]
  exact h _ (I.tok _)
 ·subst ey
  cases (show u=Value.ref b from ry)
  obtain ⟨z,hd,xs,rel,dd⟩:=mz I.hok e
  refine wpAny_in_heap (tupleKind_room_in1 hu) (my I.hok eb) hd dd ?_
  have q:=(rel.val k).isSome_eq
  rw [Option.isSome_map] at q
  rw [<-q,<-l]
  exact h _ (I.tok _)
def oW {h':Heap}{t':Nat}{ob:HO}(I:Inv X pins U H s) (mu:iG (H a)) (hs:Heap.SameBut a s.heap h') (he:∃q,h'.get? a=some q) (new:aX X.prog X.w (upd H a ob) h' a ob) :
  Inv X pins U (upd H a ob) { s with heap:=h',toks:=t' } :=
 I.write (x:=a) (e:=a) mu (.inl rfl) (λb q hb z=>(hs.2 b hb).trans z) he new
def sY {P:Program}{w:World}{H':Hp}{h':Heap}{kvs:List (Key×V)}{vs:List (Key×Value)}(z:kvs.length<=sizeLine) (hd:(a==sysModules)=false) (rel:KV kvs vs) (dd:h'.DictOf (a0 P w) a vs) :
  aX P w H' h' a (.dK kvs):=⟨z,hd,vs,rel,dd⟩
def DA {H':Hp}{Q:Unit->Shared->Prop}(hu:A.units+1<cLine) (I:Inv X pins U H s) (g:e6 H a y v H') (ry:RelV y u) (rv:RelV v r) (h:∀s',Inv X pins U H' s'->Q () s') :
  wpAny (model X.prog X.w) A (setItem (.ref a) u r) Q E s:=by
 rcases g with ⟨kvs,k,e,ey,l,eH⟩|⟨kvs,k,b,e,ey,eb,l,eH⟩
 ·subst ey eH
  obtain ⟨z,hd,vs,rel,dd⟩:=sX I.hok e
  have hz:vs.length<=sizeLine:=by rw [<-rel.length];exact z
  have hl:(putK kvs k v).length<=sizeLine:=by have:=oV kvs k v;omega
  refine wpAny_setItem_pairs (hsz:=hz) (kK ry) dd λh' gp hs=>h _ ?_
  have he:∃q,h'.get? a=some q:=let ⟨q,_,_,hq,_⟩:=gp;⟨q,hq⟩
  exact oW I (by rw [e];exact True.intro) hs he (sY hl hd (rel.put k rv) gp)
 ·subst ey eH
  cases (show u=Value.ref b from ry)
  obtain ⟨z,hd,xs,rel,dd⟩:=Dx I.hok e
  have hz:xs.length<=sizeLine:=by rw [<-Paired.length rel];exact z
  have hl:(putK kvs k v).length<=sizeLine:=by have:=oV kvs k v;omega
  refine wpAny_setItem_heap (hsz:=hz) (tupleKind_room_in1 hu) (my I.hok eb) dd λh' gp hs=>h _ ?_
  obtain ⟨q,es,ep,hq,h2,h3,h4,_,h5⟩:=gp
  refine oW I (by rw [e];exact True.intro) hs ⟨q,hq⟩ ⟨hl,hd,_,(rel.put k eb rv).keeps λc ys ec=>?_,q,es,ep,hq,h2,h3,h4,h5⟩
  rw [zF (AX ec e (λz=>nomatch z))]
  exact ec
end
section
variable {X:Cx}{pins:Ac}{U:St}{H:Hp}{s:Shared}{a:Addr}{kvs:List (Key×V)}{k:Key}{u:Value}{A:Around}{E:Aa}
def DB {Q:Aa} (I:Inv X pins U H s) (e:Rd H a (.dK kvs)) (h:∀t s',Inv X pins U H s'->Q (.int kvs.length t) s'):wpAny (model X.prog X.w) A (call (.builtin "len") [.ref a]) Q E s:=by
 obtain ⟨z,hd,vs,rel,dd⟩:=jg I.hok e
 refine call_len_dict hd dd (by rw [<-rel.length];rw [sizeLine_eq] at z;omega) ?_
 rw [<-rel.length]
 exact h _ _ (I.tok _)
end
def DC {X:Cx} {pins:Ac} {U:St} {H:Hp} {s:Shared} {a:Addr} {y:V} {o:Option V} (I:Inv X pins U H s) (g:c4 H a y o):s.TypeIs (.ref a) "dict" := by
 rcases g with ⟨kvs,k,e,_,_⟩|⟨kvs,k,b,e,_,_,_⟩
 ·obtain ⟨_,_,vs,_,dd⟩:=jg I.hok e
  exact dd.typeIs
 ·obtain ⟨_,_,xs,_,dd⟩:=mz I.hok e
  exact dd.typeIs
def DD (td ty tv:TE):TS:=λD U H=>tv U H λv H1=>td U H1 λx H2=>ty U H2 λy H3=>∃a H4,x=.ref a/\e6 H3 a y v H4/\D.nx U H4
section
variable {X:Cx}{o i e value:Expr}{pos pos' rN:Pos}{td ty tv:TE}
def DE (hu:X.A.units+1<cLine) (ho:PE X o td) (hi:PE X i ty) (hv:PE X value tv) (hs:swapsWith value (some (.Subscript o i pos')) pos.line X.env=pure false) :
  PS X (.Assign [.Subscript o i pos'] value pos) (DD td ty tv):=by
 intro pins s U H D I h
 refine wpAny_Assign_Subscript (aS (hv pins s U H _ I h) λr s1 ⟨v,H1,I1,rv,q1⟩=>aS (ho pins s1 U H1 _ I1 q1) λu s2 ⟨x,H2,I2,rx,q2⟩=>aS (hi pins s2 U H2 _ I2 q2) λiv s3 ⟨y,H3,I3,ry,a,H4,ex,g,q3⟩=>?_) hs
 subst ex
 obtain rfl:u=Value.ref a:=rx
 exact DA hu I3 g ry rv λs4 I4=>⟨U,H4,I4,q3⟩
end
def sZ {P:Program} {w:World} {H:Hp} (h:Heap) (hb:sysModules<h.objs.size):aX P w H (h.push { cls:=.type "dict", data:=.dict #[] }) h.objs.size (.dK []) :=
 ⟨yX _,beq_eq_false_iff_ne.mpr (y3 (yt hb)),[],.nil,Heap.DictOf.new h⟩
def DF:TE:=λ_ H Q=>∀p,H p=none->Q (.ref p) (upd H p (.dK []))
section
variable {X:Cx}{pos:Pos}
def DG:PE X (.Dict [] [] pos) DF:=λpins s U H Q I h =>
 wpAny_Dict_empty ⟨.ref s.heap.objs.size,_,I.laid (a:=s.heap.objs.size) (o:=.dK []) (t':=s.toks) (λ_ _ q=>z7 _ q) (zI _) (sZ s.heap I.big),rfl,h _ (I.hok.fresh (zI _))⟩
end
def mD:List (TE×TE)->St->Hp->(List (V×V)->Hp->Prop)->Prop
 | [],_,H,Q=>Q [] H
 | (tk,tv)::r,U,H,Q=>tk U H λx H1=>tv U H1 λy H2=>mD r U H2 λps H3=>Q ((x,y)::ps) H3
abbrev VV:List (V×V)->List (Value×Value)->Prop:=Paired λp q=>RelV p.1 q.1/\RelV p.2 q.2
def kL (X:Cx) (pos:Pos) (keys:List (Option Expr)) (values:List Expr) (trs:List (TE×TE)):Prop :=
 ∀(pins:Ac) (s:Shared) (U:St) (H:Hp) (Q:List (V×V)->Hp->Prop),Inv X pins U H s->mD trs U H Q ->
  wpAny (model X.prog X.w) X.A (evalPairs (pairTrees keys values X.env pos)) (λvs s'=>∃ps H',Inv X pins U H' s'/\VV ps vs/\Q ps H') X.xe s
def DH {X:Cx}{pos:Pos}:kL X pos [] [] []:=λpins s U H Q I h=>pairTrees_nil_walk ⟨[],H,I,.nil,h⟩
def DI {X:Cx}{pos:Pos}{k v:Expr}{ks:List (Option Expr)}{vs:List Expr}{tk tv:TE}{trs:List (TE×TE)}(hk:PE X k tk) (hv:PE X v tv) (hr:kL X pos ks vs trs) :
  kL X pos (some k::ks) (v::vs) ((tk,tv)::trs):=λpins s U H Q I h =>
 pairTrees_cons_walk (aS (hk pins s U H _ I h) λu s1 ⟨x,H1,I1,rx,q1⟩=>aS (hv pins s1 U H1 _ I1 q1) λw2 s2 ⟨y,H2,I2,ry,q2⟩ =>
  aS (hr pins s2 U H2 _ I2 q2) λws s3 ⟨ps,H3,I3,rel,q3⟩=>⟨(x,y)::ps,H3,I3,.cons ⟨rx,ry⟩ rel,q3⟩)
def df (kvs more:List (Key×V)):List (Key×V):=more.foldl (λacc kv=>putK acc kv.1 kv.2) kvs
def KV.merge:∀{more:List (Key×V)}{rs:List (Key×Value)}{kvs:List (Key×V)}{vs:List (Key×Value)},KV more rs->KV kvs vs->KV (df kvs more) (merged vs rs):=by
 intro more rs kvs vs r
 unfold KV at r
 induction r generalizing kvs vs with
 | nil=>intro q;exact q
 | @cons p q ps qs h t ih =>
  intro r0
  have e:KV (putK kvs p.1 p.2) (stored vs q.1 q.2):=by
   have:=r0.put p.1 h.2
   rw [<-h.1];exact this
  exact ih e
def s9:∀(more kvs:List (Key×V)),(df kvs more).length<=kvs.length+more.length
 | [],kvs=>by show kvs.length<=kvs.length+0;omega
 | p::r,kvs=>by
  have h1:=s9 r (putK kvs p.1 p.2)
  have h2:=oV kvs p.1 p.2
  show (df (putK kvs p.1 p.2) r).length<=_
  rw [jx];omega
def tf {P:Program}{w:World}:∀{kvs:List (Key×V)}{ws:List (Value×Value)},VV (kvs.map λkv=>(kV kv.1,kv.2)) ws->∃rs,Carries (a0 P w) ws rs/\KV kvs rs
 | [],_,r=>by rw [List.map_nil] at r;cases r;exact ⟨[],True.intro,.nil⟩
 | p::kvs,_,r=>by
  rw [yC] at r
  cases r with
  | @cons a b as bs h t =>
   obtain ⟨rs,c,q⟩:=tf (P:=P) (w:=w) t
   obtain ⟨b1,b2⟩:=b
   exact ⟨(p.1,b2)::rs,⟨kK h.1,rfl,c⟩,.cons ⟨rfl,h.2⟩ q⟩
def DJ (trs:List (TE×TE)):TE:=λU H Q=>∀p,H p=none->mD trs U (upd H p (.dK [])) λps H2=>H2 p=some (.dK [])/\∃kvs:List (Key×V),ps=kvs.map (λkv=>(kV kv.1,kv.2))/\kvs.length<=15/\Q (.ref p) (upd H2 p (.dK (df [] kvs)))
def DK {X:Cx}{pos:Pos}{keys:List (Option Expr)}{values:List Expr}{trs:List (TE×TE)}(h:kL X pos keys values trs) (dJ:keys.all (·.isSome)=true) (hl:keys.length=values.length) (h0:keys≠[])
  (oX:keys.length<=15):PE X (.Dict keys values pos) (DJ trs):=by
 intro pins s U H Q I q
 have hn:=I.hok.fresh (zI s.heap.objs.size)
 have I1:=I.laid (a:=s.heap.objs.size) (o:=.dK []) (h':=s.heap.push { cls:=.type "dict", data:=.dict #[] }) (t':=s.toks) (λ_ _ q=>z7 _ q) (zI _) (sZ s.heap I.big)
 refine wpAny_Dict_walk (knd:=a0 X.prog X.w) dJ hl h0 oX (aS (h pins _ U _ _ I1 (q _ hn)) λws s2 ⟨ps,H2,I2,rel,e,kvs,ep,lk,q2⟩=>?_)
 subst ep
 obtain ⟨rs,c,rk⟩:=tf (P:=X.prog) (w:=X.w) rel
 obtain ⟨z,hd,DL,r0,dd⟩:=sX I2.hok e
 cases r0
 refine ⟨rs,c,dd,λh' gp hs=>⟨.ref s.heap.objs.size,_,?_,rfl,q2⟩⟩
 have hz:(df [] kvs).length<=sizeLine:=by
  have h1:=s9 kvs []
  rw [List.length_nil] at h1
  rw [sizeLine_eq];omega
 have he:∃q,h'.get? s.heap.objs.size=some q:=let ⟨q,_,_,hq,_⟩:=gp;⟨q,hq⟩
 exact oW I2 (by rw [e];exact True.intro) hs he (sY hz hd (rk.merge .nil) gp)
structure M1 (X:Cx) (o:Expr) (m:Str) (apos:Pos) (e:Expr) (aW:Pos):Prop where
 base:attributeBase o m X.env (eval o X.env)=eval o X.env
 few:((backTo aW (starEach [e] X.env)).all (λx=>!x.1)&&(backToKw aW (keywordEach [] X.env)).all (λx=>x.1.isSome)
  && decide (([e]:List Expr).length+([]:List Keyword).length+(if ([]:List Keyword).isEmpty then 0 else 1)<30))=true
 line:(apos.endLine==aW.line)=true
 trees:backTo aW (starEach [e] X.env)=[(false,eval e X.env)]
structure M2 (X:Cx) (o:Expr) (m:Str) (apos:Pos) (e f:Expr) (aW:Pos):Prop where
 base:attributeBase o m X.env (eval o X.env)=eval o X.env
 few:((backTo aW (starEach [e,f] X.env)).all (λx=>!x.1)&&(backToKw aW (keywordEach [] X.env)).all (λx=>x.1.isSome)
  && decide (([e,f]:List Expr).length+([]:List Keyword).length+(if ([]:List Keyword).isEmpty then 0 else 1)<30))=true
 line:(apos.endLine==aW.line)=true
 trees:backTo aW (starEach [e,f] X.env)=[(false,eval e X.env),(false,eval f X.env)]
section
variable {X:Cx}{pins:Ac}{U:St}{H:Hp}{s:Shared}{a:Addr}{y d:V}{u r:Value}{o:Option V}{A:Around}{E:Aa}
end
section
variable {X:Cx}{o e f:Expr}{apos aW:Pos}{td ty tx:TE}
end
section
variable {X:Cx}{pins:Ac}{U:St}{H:Hp}{s:Shared}{a:Addr}{kvs:List (Key×V)}{A:Around}{E:Aa}
end
section
variable {X:Cx}{pins:Ac}{U:St}{H:Hp}{s:Shared}{a:Addr}{y:V}{u:Value}{A:Around}{E:Aa}
end
def XO (h:Heap) (a:Addr) (C:Value) (d:Option Addr) (head:Value):Prop :=
 ∃oe vs,h.get? a=some oe/\oe.cls=C/\oe.dict=d/\oe.data=.fields vs/\vs.size=6/\vs[1]?=some head
def TB (h:Heap) (T:Addr) (fl:Value):Prop:=∃oT ts,h.get? T=some oT/\oT.data=.fields ts/\ts[3]?=some fl
def DM (o:Obj) (f):(o.mapFields f).dict=o.dict:=by
 obtain ⟨c,d,dt,sl⟩:=o
 cases dt<;>rfl
def XO.keeps {h h':Heap}{a:Addr}{C:Value}{d:Option Addr}{head:Value}(x:XO h a C d head) (k:∀o,h.get? a=some o->h'.get? a=some o):XO h' a C d head:=by
 obtain ⟨oe,vs,e,r⟩:=x
 exact ⟨oe,vs,k _ e,r⟩
def TB.keeps {h h':Heap}{T:Addr}{fl:Value}(x:TB h T fl) (k:∀o,h.get? T=some o->h'.get? T=some o):TB h' T fl:=by
 obtain ⟨oT,ts,e,r⟩:=x
 exact ⟨oT,ts,k _ e,r⟩
def XO.set1 {h:Heap}{a:Addr}{C:Value}{d:Option Addr}{head:Value}(x:XO h a C d head) (u:Value):XO (h.update a (Obj.mapFields (·.setIfInBounds 1 u))) a C d u:=by
 obtain ⟨oe,vs,e,hc,iL,hd,hz,h1⟩:=x
 have eD:=Obj.data_mapFields hd (·.setIfInBounds 1 u)
 refine ⟨_,_,Heap.get?_update_self _ e (Obj.isFreed_of_fields eD),(Obj.cls_mapFields _ _).trans hc,(DM _ _).trans iL,eD,?_,?_⟩
 ·rw [Array.size_setIfInBounds];exact hz
 ·have:1<vs.size:=by omega
  simp [this]
def TB.set3 {h:Heap}{T:Addr}{fl:Value}(x:TB h T fl) (u:Value):TB (h.update T (Obj.mapFields (·.setIfInBounds 3 u))) T u:=by
 obtain ⟨oT,ts,e,hd,h3⟩:=x
 have eD:=Obj.data_mapFields hd (·.setIfInBounds 3 u)
 refine ⟨_,_,Heap.get?_update_self _ e (Obj.isFreed_of_fields eD),eD,?_⟩
 have:3<ts.size:=(Array.getElem?_eq_some_iff.mp h3).1
 simp [this]
section
variable {M:Model}{A:Around}{E:Aa}{s:Shared}{base:Heap}{env:Env}{outer:List Env}{L a:Addr}{C:Value}{d:Option Addr}{head:Value}{Q:Unit->Shared->Prop}
def tj {b2:Bool}(cZ:A.frames=some (env::outer)) (hl:s.heap.FunFrames base (env::outer)) (hf:env.frame=some L) (x:XO s.heap a C d head)
  (h:∀h' T,s.heap.objs.size<=T->XO h' a C d (.ref T)->TB h' T (rawInt L)->(∀b o,b≠a->b∉b_ (env::outer)->s.heap.get? b=some o->h'.get? b=some o) ->
   (∀b o,b≠a->b∈b_ (env::outer)->s.heap.get? b=some o->∃sl,h'.get? b=some { o with slots:=sl })->Q () { s with heap:=h' }) :
  wpAny M A (do let fr <-frameOf env;let pl <-entryPlaceOf L b2;let tb <-EntryCells.newEntry head fr .none (rawInt L) .none pl;setField (.ref a) 1 tb) Q E s:=by
 obtain ⟨oe,vs,e,hc,iL,hd,hz,h1⟩:=id x
 have aN:a∉b_ (env::outer):=λhm=>by
  obtain ⟨_,o,ho,nf⟩:=hl.mem hm
  rw [e] at ho
  cases ho
  exact nf vs hd
 refine zq (wpAny_frameOf_fun cZ hl hf λg1 mE=>zq (wpAny_entryPlaceOf λpl tm=>?_))
 unfold EntryCells.newEntry newFields
 refine zq (wt ?_ (tm.sizeOk5 _ _ _ _ _))
 have x1:XO g1 a C d head:=⟨oe,vs,(mE.2.1 a aN).trans e,hc,iL,hd,hz,h1⟩
 generalize hob:({ cls:=.type "traceback", dict:=none,data:=.fields ([head,.ref L,.none,rawInt L,.none]++(if pl.isEmpty then List.replicate 6 Value.none else pl)).toArray }:Obj)=ob
 have x2:XO (g1.push ob) a C d head:=x1.keeps λo q=>z7 _ q
 obtain ⟨Kz,dj,e2,_,_,hd2,tq,_⟩:=id x2
 refine wpAny_setField e2 hd2 (by omega) ?_
 have aT:g1.objs.size≠a:=λz=>by
  obtain ⟨_,_,q,_⟩:=x1
  have:=zY q
  rw [<-z] at this
  exact Nat.lt_irrefl _ this
 have tu:s.heap.objs.size<=g1.objs.size:=Nat.le_of_eq mE.1.symm
 refine h _ g1.objs.size tu (x2.set1 _) ?_ (λb o nb nf q=>?_) (λb o nb nf q=>?_)
 ·have t0:TB (g1.push ob) g1.objs.size (rawInt L):=by
   refine ⟨ob,_,yR _ (by rw [<-hob];rfl),by rw [<-hob],?_⟩
   rcases tm with rfl|⟨_,_,_,_,_,_,_,rfl⟩<;>simp
  exact t0.keeps λo q=>(jV _ _ (y3 aT)).trans q
 ·exact (jV _ _ (y3 nb)).trans (z7 _ ((mE.2.1 b nf).trans q))
 ·obtain ⟨sl,z⟩:=mE.2.2 b o q
  exact ⟨sl,(jV _ _ (y3 nb)).trans (z7 _ z)⟩
def DN (cZ:A.frames=some (env::outer)) (hl:s.heap.FunFrames base (env::outer)) (hf:env.frame=some L) (x:XO s.heap a C d head)
  (ht:head=.none\/∃T0,head=.ref T0/\T0≠a/\TB s.heap T0 .none)
  (h:∀h' T,s.heap.objs.size<=T->XO h' a C d (.ref T)->TB h' T (rawInt L)->(∀b o,b≠a->.ref b≠head->b∉b_ (env::outer)->s.heap.get? b=some o->h'.get? b=some o) ->
   (∀b o,b∈b_ (env::outer)->s.heap.get? b=some o->∃sl,h'.get? b=some { o with slots:=sl })->Q () { s with heap:=h' }) :
  wpAny M A (noteFrame (.ref a) env) Q E s:=by
 obtain ⟨oe,vs,e,hc,iL,hd,hz,h1⟩:=id x
 have aN:a∉b_ (env::outer):=λhm=>by
  obtain ⟨_,o,ho,nf⟩:=hl.mem hm
  rw [e] at ho
  cases ho
  exact nf vs hd
 unfold noteFrame
 simp only [hf]
 refine zq (jU e hd h1 ?_)
 rcases ht with rfl|⟨T0,rfl,nT,t0⟩
 ·rw [zC (by decide)]
  exact tj cZ hl hf x λh' T k1 k2 k3 k4 k5=>h h' T k1 k2 k3 (λb o nb _ nf q=>k4 b o nb nf q) λb o hb q=>k5 b o (λz=>aN (z▸hb)) hb q
 ·obtain ⟨oT,ts,eT,hdT,h3⟩:=id t0
  have TN:T0∉b_ (env::outer):=λhm=>by
   obtain ⟨_,o,ho,nf⟩:=hl.mem hm
   rw [eT] at ho
   cases ho
   exact nf ts hdT
  rw [zw (show (Value.ref T0 != Value.none)=true from by simp)]
  refine zq (jU eT hdT h3 ?_)
  rw [zC (show ¬((Value.none==rawInt L)=true) from by simp [rawInt])]
  refine zq (wpAny_setField eT hdT (Array.getElem?_eq_some_iff.mp h3).1 ?_)
  have gO:∀b,b≠T0->(s.heap.update T0 (Obj.mapFields (·.setIfInBounds 3 Value.none))).get? b=s.heap.get? b:=λb hb=>jV _ _ (y3 hb)
  refine tj (s:={ s with heap:=s.heap.update T0 (Obj.mapFields (·.setIfInBounds 3 Value.none)) }) cZ (hl.of_keeps λb o hb nf=>⟨o,(gO b λq=>?_).trans hb,rfl⟩) hf (x.keeps λo q=>(gO a (y3 nT)).trans q) λh' T k1 k2 k3 k4 k5 =>
   h h' T (by simpa using k1) k2 k3 (λb o nb nh nf q=>k4 b o nb nf ((gO b λz=>nh (by rw [z])).trans q)) λb o hb q=>k5 b o (λz=>aN (z▸hb)) hb ((gO b λz=>TN (z▸hb)).trans q)
  rw [q,eT] at hb
  cases hb
  exact nf ts hdT
def DO {T:Addr}{fl:Value}(x:XO s.heap a C d (.ref T)) (t:TB s.heap T fl) (ne:T≠a)
  (h:∀h',XO h' a C d (.ref T)->TB h' T .none->(∀b o,b≠T->s.heap.get? b=some o->h'.get? b=some o)->h'.objs.size=s.heap.objs.size->Q () { s with heap:=h' }):wpAny M A (setFlight (.ref a) none) Q E s:=by
 obtain ⟨oe,vs,e,_,_,hd,_,h1⟩:=id x
 obtain ⟨oT,ts,eT,hdT,h3⟩:=id t
 unfold setFlight
 refine zq (jU e hd h1 ?_)
 rw [zw (show (Value.ref T != Value.none)=true from by simp)]
 refine wpAny_setField eT hdT (Array.getElem?_eq_some_iff.mp h3).1 ?_
 exact h _ (x.keeps λo q=>(jV _ _ ne).trans q) (t.set3 _) (λb o nb q=>(jV _ _ (y3 nb)).trans q) (by simp)
end
def bb (X:Cx) (pins:Ac) (H:Hp) (b:Addr):Prop :=
 H b=none/\X.s₀.heap.objs.size<=b/\b≠X.env.locals/\(∀x c,X.env.cells.lookup x=some c->c≠b)/\∀p∈X.pn++pins,p.1≠b
def bb.new {X:Cx}{pins:Ac}{U:St}{H H':Hp}{s:Shared}{b:Addr}(I:Inv X pins U H s) (hb:s.heap.objs.size<=b) (hn:H' b=none):bb X pins H' b:=by
 obtain ⟨f0,f1,f2,f3,f4,f5⟩:=I.fpOk (H':=H') hb hn
 exact ⟨hn,yM I.sz hb,f1,f4,f5⟩
def mG (X:Cx) (pins:Ac) (H:Hp) (h:Heap) (a C:Addr) (d:Option Addr):Prop :=
 ∃head,XO h a (.ref C) d head/\bb X pins H a/\(head=.none\/∃T,head=.ref T/\T≠a/\TB h T .none/\bb X pins H T)
def Throws (X:Cx) (E:XK):Prop:=∀(pins:Ac) (U:St) (H:Hp) (s:Shared) (a C:Addr) (d:Option Addr),Inv X pins U H s->mG X pins H s.heap a C d->E (.ref C) d H->X.xe (.ref a) s
def bW (P:Program) (w:World):dv:=λouter H s E e s'=>∃(a C T:Addr) (d:Option Addr) (H':Hp),e=.ref a/\s'.os=s.os/\AllBare s'.gens/\Un (b_ outer) [] H H' s.heap s'.heap/\bA P w H' s'.heap /\
 XO s'.heap a (.ref C) d (.ref T)/\T≠a/\TB s'.heap T .none/\(s.heap.objs.size<=a/\H' a=none)/\(s.heap.objs.size<=T/\H' T=none)/\E (.ref C) d H'
def DP {X:Cx}{E:XK}(t:Throws X E):Passes (bW X.prog X.w) X E:=by
 rintro pins U H s e s' I ⟨a,C,T,d,H',rfl,os,bare,un,hok,x,ne,tb,⟨a1,a2⟩,⟨t1,t2⟩,q⟩
 have I':Inv X pins U H' s':=I.call' (ch:=[]) os un hok bare λb z=>absurd z (by simp)
 exact t pins U H' s' a C d I' ⟨_,x,bb.new I a1 a2,.inr ⟨T,rfl,ne,tb,bb.new I t1 t2⟩⟩ q
def e8 (a:Addr):Value->Ae
 | .ref T0=>[a,T0]
 | _=>[a]
def tD (a:Addr) (v:Value):a∈e8 a v:=by cases v<;>simp [e8]
def tE (a T0:Addr):T0∈e8 a (.ref T0):=by simp [e8]
section
variable {X:Cx}{pins:Ac}{U:St}{H:Hp}{s:Shared}{a C:Addr}{d:Option Addr}{A:Around}{E:Aa}{Q:Unit->Shared->Prop}
def DQ (I:Inv X pins U H s) (cZ:A.frames=some X.stack) (bV:X.stack=X.env::X.outer) (hf:X.env.frame=some X.env.locals) (F:mG X pins H s.heap a C d)
  (h:∀s' T,Inv X pins U H s'->XO s'.heap a (.ref C) d (.ref T)->T≠a->TB s'.heap T (rawInt X.env.locals)->bb X pins H a->bb X pins H T->Q () s'):wpAny (model X.prog X.w) A (noteFrame (.ref a) X.env) Q E s:=by
 obtain ⟨head,x,oa,ht⟩:=F
 have hl:s.heap.FunFrames X.base (X.env::X.outer):=bV▸I.stack
 have tF:A.frames=some (X.env::X.outer):=cZ.trans (congrArg some bV)
 have tG:b_ (X.env::X.outer)=X.env.locals::X.fs:=by
  unfold b_
  rw [List.filterMap_cons,hf]
  rfl
 have fH:∀b∈X.env.locals::X.fs,H b=none:=λb hb=>I.stkFree b (by rw [bV,tG];exact hb)
 have oY:∀b u,H b=some u->Value.ref b≠head:=λb u e z=>by
  rcases ht with rfl|⟨T0,rfl,_,_,r⟩
  ·cases z
  ·cases z
   rw [r.1] at e
   cases e
 refine DN tF hl hf x (ht.imp id λ⟨T0,e1,e2,e3,_⟩=>⟨T0,e1,e2,e3⟩) λh' T k1 k2 k3 k4 k5=>?_
 rw [tG] at k4 k5
 have oT:bb X pins H T:=bb.new I k1 (I.hok.fresh k1)
 have neT:T≠a:=λz=>by
  obtain ⟨_,_,e,_⟩:=x
  have:=zY e
  rw [<-z] at this
  exact Nat.lt_irrefl _ (y1 this k1)
 refine h { s with heap:=h' } T ?_ k2 neT k3 oa oT
 refine I.step (g':=s.gens) (t':=s.toks) (d':=s.drawn) (ch:=e8 a head) (λb hb=>?_) (λb o n1 n2 n3 e n=>k4 b o (λz=>n3 ?_) (λz=>n3 ?_) (λz=>(yv.mp z).elim n1 n2) e)
  (λb o n1 n2 n3 e n=>k5 b o (y9 _ n2) e) (λ_ _ _ _ n=>n) (λb o n3 e=>?_) (λ_ _ e=>e) (λ_ _ _ e=>e) (λb ps e=>⟨#[],by rw [e];simp⟩) (λm hm=>?_) (λb u e=>?_) I.bare
 ·have own:bb X pins H b:=by
   rcases ht with rfl|⟨T0,rfl,_,_,r⟩
   ·have z:b=a:=by simpa [e8] using hb
    rw [z];exact oa
   ·have z:b=a\/b=T0:=by simpa [e8] using hb
    rcases z with z|z
    ·rw [z];exact oa
    ·rw [z];exact r
  exact ⟨.inr own.2.1,own.2.2.1,own.2.2.2.1,own.2.2.2.2⟩
 ·rw [z]
  exact tD a head
 ·rw [<-z]
  exact tE a b
 ·by_cases hb:b∈X.env.locals::X.fs
  ·obtain ⟨sl,z⟩:=k5 b o hb e
   exact ⟨_,z⟩
  ·exact ⟨o,k4 b o (λz=>n3 (by rw [z];exact tD a head)) (λz=>n3 (by rw [<-z];exact tE a b)) hb e⟩
 ·obtain ⟨o,es,ep,ho,r⟩:=hm
  obtain ⟨sl,z⟩:=k5 _ o yL ho
  exact ⟨_,es,ep,z,r⟩
 ·refine (I.hok b u e).stay (λc v hc q=>?_) (λ_ q=>q) λ_ _ q=>q
  have tr:∃u',H c=some u':=by
   rcases hc with z|z
   ·exact ⟨u,by rw [z];exact e⟩
   ·exact ⟨_,z⟩
  obtain ⟨u',eu⟩:=tr
  exact k4 c v (λz=>by rw [z,oa.1] at eu;cases eu) (oY c u' eu) (λz=>by rw [fH c z] at eu;cases eu) q
def DR {T:Addr}{fl:Value}(I:Inv X pins U H s) (x:XO s.heap a (.ref C) d (.ref T)) (ne:T≠a) (tb:TB s.heap T fl) (oa:bb X pins H a) (oT:bb X pins H T)
  (h:∀s',Inv X pins U H s'->XO s'.heap a (.ref C) d (.ref T)->TB s'.heap T .none->Q () s'):wpAny (model X.prog X.w) A (setFlight (.ref a) none) Q E s:=by
 refine DO x tb ne λh' k1 k2 k3 _=>h { s with heap:=h' } ?_ k1 k2
 exact I.turned (t':=s.toks) (it:=T) (λb o nb e=>k3 b o nb e) oT.1 oT.2.2.1 (.inr oT.2.1) oT.2.2.2.1 oT.2.2.2.2
end
section
variable {P:Program}{w:World}{K:PySem.W.Frag}{mg:Ab}{base:Heap}
def cW.okX {x qual:Str}{st:Stmt}{f:Addr}{fd:FuncData}{N ps:Ad}{k:Nat}{sp:Sp}(F:cW K x qual st f fd) (S:aR N ps (zL st)) (len:∀vs H Q E,sp vs H Q E->vs.length=ps.length)
  (dy:∀(aV:Value) (A:Around) (outer:List Env) (s:Shared) (H:Hp) (vs:List V) (Q:VK) (E:XK),a5 k (A.deeper (envOfC qual (zL st) s.heap.objs.size f aV))->sp vs H Q E ->
   ∃t,bM (cI (bW P w) P w K mg base N qual (zL st) f aV A outer s H E) (yT st) t/\t { nx:=λ_ H'=>Q .non H',rt:=Q } (start N vs) H):a_ P w K mg base (bW P w) (k+1) f fd ps sp:=by
 obtain ⟨oc,od,kV,doc,pm,an,aV,ct,dH,rfl,lk,du⟩:=F.ex
 exact rY lk du S len λA outer s H vs Q E hr fq=>dy aV A outer s H vs Q E hr fq
end
end L2
namespace L2
open PySem PySem.Spec PyProof.Rows PySem.W PySem.Builtin PySem.Builtin.ObjectAttr
def gq:List Value->Bool
 | [.type a,.type b,.type c,.type d]=>a == "ValueError" && b == "Exception" && c == "BaseException" && d == "object"
 | .ref _::r=>gq r
 | _=>false
def mH (K:Frag) (C:Addr):Bool:=(clsIn K C).any λcd=>gq cd.mro
section
variable {prog:Program}{w:World}{A:Around}{E:Aa}{K:Frag}{x C:Addr}{s:Shared}{R:Result->Shared->Prop}
end
section
variable {prog:Program}{w:World}{A:Around}{h:Heap}{g:Array GenState}{d:Drawn}{t:Nat}{os:OsState}{R:Result->Shared->Prop}
variable {nm q:Str}{C N f:Addr}{bs bm DS:Af}{fC:Bool}{sn:Ad}{sub:Af}{ab:Bool}{col:Option Bool}{dd:Option Addr}{k0 k1 k2 k3 k5:Option Value}{B newId mI:String}
end
def mJ (C t:Addr) (d:Option Addr) (a:Addr):HO:=.ext λ_ _ h=>h.get? a=some { cls:=.ref C,dict:=d,data:=.fields #[.ref t,.none,.none,.none,.bool false,.none] }
structure gP (K:PySem.W.Frag) (C:Addr) (f:Str):Prop where
 sa:PySem.W.findIn K (.ref C) "__setattr__" = some (some (.builtin "object.__setattr__"))
 line:mH K C=true
 no:PySem.W.takerIn K C f=some none
 hd:PySem.W.hasDictIn K C=true
def DT (K:PySem.W.Frag) (ta tv:TE) (f:Str):TS:=λD U H=>tv U H λy H1=>ta U H1 λx H2=>∃a C t,x=.ref a/\H2 a=some (mJ C t none a)/\gP K C f /\
 ∀d,H2 d=none->D.nx U (upd (upd H2 d (.xd [(f,y)])) a (mJ C t (some d) a))
abbrev ik:Af:=[.type "ValueError", .type "Exception", .type "BaseException", .type "object"]
structure tH (K:Frag) (C:Addr):Prop where
 ob:∃nm q N bs bm fC sn sub ab col dd k0 k1 k2 k3 k5,K.lookup C=some (excClassObj nm q C N bs bm fC sn sub ab col dd k0 k1 k2 k3 k5 "ValueError.__new__")/\tailIn K ik bm=true/\nsOkIn K N=true
 kp:keepIn K (.ref C)=true
structure n5 (K:Frag) (C f:Addr):Prop where
 ob:∃nm q N bs bm fC sn sub ab col dd k0 k1 k2 k3 k5,K.lookup C=some (excClassObj nm q C N bs bm fC sn sub ab col dd k0 k1 k2 k3 k5 "ValueError.__new__")/\tailIn K ik bm=true/\nsOkIn K N=true/\nsIn K N "__init__" = some (some (.ref f))
 fn:isFn K (.ref f)=true
 kp:keepIn K (.ref C)=true
section
variable {M:Model}{A:Around}{E:Aa}{env:Env}{s:Shared}
end
section
variable {X:Cx}{CX:dv}{k:Nat}{f C:Addr}{fd:FuncData}{ps:Ad}{sp:Sp}{E:XK}
def DU (C:Addr) (f:Str):Sp:=λvs H Q _=>∃a t y,vs=[.ref a,y]/\H a=some (mJ C t none a)/\∀d,H d=none->Q .non (upd (upd H d (.xd [(f,y)])) a (mJ C t (some d) a))
end
def XP (X:Cx) (pins:Ac) (U:St) (E:XK) (u:Value) (s':Shared):Prop:=∃(a C:Addr) (d:Option Addr) (H':Hp),u=.ref a/\Inv X pins U H' s'/\mG X pins H' s'.heap a C d/\E (.ref C) d H'
abbrev TX:=St->Hp->VK->XK->Prop
section
variable {X:Cx}{k:Nat}{f C:Addr}{fd:FuncData}{ps:Ad}{sp:Sp}{dh:List V}{ds:Af}{E:XK}{x m:Str}{p pos apos:Pos}{e o:Expr}{es:List Expr}{ta:TE}{t:TA}
end
def gr (C:Addr) (d:Option Addr) (a:Addr):HO:=.ext λ_ _ h=>∃T:Addr,XO h a (.ref C) d (.ref T)
section
variable {X:Cx}{pins:Ac}{U:St}{H:Hp}{s:Shared}{a C:Addr}{d:Option Addr}
end
section
variable {X:Cx}{pins:Ac}{U:St}{H:Hp}{s:Shared}{a C d:Addr}{fs:List (Str×V)}{A:Around}{E:Aa}
def tI (I:Inv X pins U H s) (ha:H a=some (gr C (some d) a)) (hd:H d=some (.xd fs)):∃ox od,InstAt s.heap a ox C (some od)/\∀n,∃o,lookIn n od=some o/\bO (fs.lookup n) o:=by
 obtain ⟨T,oe,vs,e,hc,iL,oZ,_⟩:=(show aX X.prog X.w H s.heap a (gr C (some d) a) from I.hok a _ ha).1
 obtain ⟨mA,hn,r⟩:=(show aX X.prog X.w H s.heap d (.xd fs) from I.hok d _ hd)
 obtain ⟨od,ho,hl⟩:=rH hn
 refine ⟨oe,od,⟨e,hc,by unfold notCls;rw [oZ],by rw [iL];exact ho⟩,λn=>⟨mA n,hl n,r n⟩⟩
end
section
variable {prog:Program}{w:World}{A:Around}{E:Aa}{h:Heap}{g:Array GenState}{d:Drawn}{t:Nat}{os:OsState}
variable {nm q:Str}{C N:Addr}{bs bm DS:Af}{fC:Bool}{sn:Ad}{sub:Af}{ab:Bool}{col:Option Bool}{dd:Option Addr}{k0 k1 k2 k3 k5:Option Value}{B newId mI:String}
end
def kM (C:Addr) (Er:XK):TS:=λ_ _ H=>Er (.ref C) none H
end L2
namespace L2
open PySem PySem.Spec PyProof.Rows PySem.W
def o7 (X:Cx) (pins:Ac) (H:Hp) (h:Heap) (a C:Addr) (d:Option Addr):Prop :=
 ∃T,XO h a (.ref C) d (.ref T)/\T≠a/\TB h T (rawInt X.env.locals)/\bb X pins H a/\bb X pins H T
def o9 (X:Cx) (pins:Ac) (H:Hp) (h:Heap) (a C:Addr) (d:Option Addr):Prop:=mG X pins H h a C d\/o7 X pins H h a C d
def j2 (X:Cx) (E:XK):Prop:=∀(pins:Ac) (U:St) (H:Hp) (s:Shared) (a C:Addr) (d:Option Addr),Inv X pins U H s->o9 X pins H s.heap a C d->E (.ref C) d H->X.xe (.ref a) s
def j2.one {X:Cx}{E:XK}(t:j2 X E):Throws X E:=λpins U H s a C d I F q=>t pins U H s a C d I (.inl F) q
def XA (X:Cx) (Er:XK) (e:Value) (s:Shared):Prop:=∃(pins:Ac) (U:St) (H:Hp) (a C:Addr) (d:Option Addr),e=.ref a/\Inv X pins U H s/\o9 X pins H s.heap a C d/\Er (.ref C) d H
section
variable {X:Cx}{pins:Ac}{U:St}{H:Hp}{s:Shared}{a C:Addr}{d:Option Addr}{A:Around}{E:Aa}{Q:Unit->Shared->Prop}{Er:XK}
def yN:j2 (X.wish (XA X Er)) Er:=λpins U H s a C d I F q=>⟨pins,U,H,a,C,d,rfl,I.unwish,F,q⟩
def tJ (I:Inv X pins U H s) (cZ:A.frames=some X.stack) (bV:X.stack=X.env::X.outer) (hf:X.env.frame=some X.env.locals) (F:o9 X pins H s.heap a C d)
  (h:∀s' T,Inv X pins U H s'->XO s'.heap a (.ref C) d (.ref T)->T≠a->TB s'.heap T (rawInt X.env.locals)->bb X pins H a->bb X pins H T->Q () s'):wpAny (model X.prog X.w) A (noteFrame (.ref a) X.env) Q E s:=by
 rcases F with F|⟨T,x,ne,tb,oa,oT⟩
 ·exact DQ I cZ bV hf F h
 ·obtain ⟨oe,vs,e,_,_,hd,_,h1⟩:=id x
  obtain ⟨ot,ts,et,oZ,h3⟩:=id tb
  unfold noteFrame
  simp only [hf]
  refine zq (jU e hd h1 ?_)
  rw [zw (show (Value.ref T != Value.none)=true by simp)]
  refine zq (jU et oZ h3 ?_)
  rw [zw (by simp)]
  exact zE (h s T I x ne tb oa oT)
def DW {T f:Addr}{fl:Value}(x:XO s.heap a (.ref C) d (.ref T)) (t:TB s.heap T fl) (ne:T≠a)
  (h:∀h',XO h' a (.ref C) d (.ref T)->TB h' T (rawInt f)->(∀b o,b≠T->s.heap.get? b=some o->h'.get? b=some o)->Q () { s with heap:=h' }) {M:Model}:wpAny M A (setFlight (.ref a) (some f)) Q E s:=by
 obtain ⟨oe,vs,e,_,_,hd,_,h1⟩:=id x
 obtain ⟨oT,ts,eT,hdT,h3⟩:=id t
 unfold setFlight
 refine zq (jU e hd h1 ?_)
 rw [zw (show (Value.ref T != Value.none)=true by simp)]
 refine wpAny_setField eT hdT (Array.getElem?_eq_some_iff.mp h3).1 ?_
 exact h _ (x.keeps λo q=>(jV _ _ ne).trans q) (t.set3 _) λb o nb q=>(jV _ _ (y3 nb)).trans q
def wP (bV:X.stack=X.env::X.outer) (hf:X.env.frame=some X.env.locals):PassesOwn (model X.prog X.w) X.A X.env (XA X Er):=by
 rintro e s ⟨pins,U,H,a,C,d,rfl,I,F,q⟩
 unfold notedBy
 refine tJ I I.ok.frames bV hf F λs2 T I2 x2 ne DX oa oT=>?_
 unfold cameBackBy
 obtain ⟨oe,vs,e2,_,_,hd,_,h1⟩:=id x2
 refine zq (jU e2 hd h1 ?_)
 rw [zC (show ¬((Value.ref T==Value.none)=true) by simp),hf]
 refine DW x2 DX ne λh' x3 o_ k3=>⟨pins,U,H,a,C,d,rfl,?_,.inr ⟨T,x3,ne,o_,oa,oT⟩,q⟩
 exact I2.turned (t':=s2.toks) (it:=T) (λb o nb e=>k3 b o nb e) oT.1 oT.2.2.1 (.inr oT.2.1) oT.2.2.2.1 oT.2.2.2.2
def bM.throwing {st:List Stmt}{t:TS}(h:bM (X.wish (XA X Er)) st t) (ht:j2 X Er):bM X st t:=λpins s U H D I hw =>
 yS (h pins s U H D (I.wish _) hw) (λ_ _ q=>q.unwish) λe s' ⟨pins,U,H,a,C,d,ee,I1,F,q⟩=>ee▸ht pins U H s' a C d I1 F q
def pd (t:j2 X Er):Passes (bW X.prog X.w) X Er:=DP t.one
end
def DY {P:Program}{w:World}{K:PySem.W.Frag}{mg:Ab}{base:Heap}{N:Ad}{qual:Str}{scope:Scope}{f:Addr}{cd:Value}{A:Around}{outer:List Env}{s:Shared}{H:Hp}{E:XK} :
  j2 (cI (bW P w) P w K mg base N qual scope f cd A outer s H E) E:=by
 intro pins U H1 s1 a C d I F q
 show wpAny (model P w) (A.deeper (envOfC qual scope s.heap.objs.size f cd)) (leaving (envOfC qual scope s.heap.objs.size f cd) (.ref a)) _ _ s1
 unfold leaving
 refine zq (tJ I I.ok.frames rfl rfl F λs2 T I2 x ne tb oa oT=>DR I2 x ne tb oa oT λs3 I3 x3 o_=>?_)
 exact ⟨a,C,T,d,H1,rfl,I3.os,I3.bare,I3.base,I3.hok,x3,ne,o_,⟨oa.2.1,oa.1⟩,⟨oT.2.1,oT.1⟩,q⟩
section
variable {P:Program}{w:World}{K:PySem.W.Frag}{mg:Ab}{base:Heap}
def cW.okT {x qual:Str}{st:Stmt}{f:Addr}{fd:FuncData}{N ps:Ad}{k:Nat}{sp:Sp}(F:cW K x qual st f fd) (S:aR N ps (zL st)) (len:∀vs H Q E,sp vs H Q E->vs.length=ps.length)
  (dy:∀(aV:Value) (A:Around) (outer:List Env) (s:Shared) (H:Hp) (vs:List V) (Q:VK) (E:XK),a5 k (A.deeper (envOfC qual (zL st) s.heap.objs.size f aV))->sp vs H Q E ->
   ∃t,bM ((cI (bW P w) P w K mg base N qual (zL st) f aV A outer s H E).wish (XA (cI (bW P w) P w K mg base N qual (zL st) f aV A outer s H E) E)) (yT st) t/\t { nx:=λ_ H'=>Q .non H',rt:=Q } (start N vs) H):a_ P w K mg base (bW P w) (k+1) f fd ps sp :=
 cW.okX F S len λaV A outer s H vs Q E hr hs=>let ⟨t,h1,h2⟩:=dy aV A outer s H vs Q E hr hs;⟨t,bM.throwing h1 DY,h2⟩
end
end L2
namespace L2
open PySem PySem.Spec PyProof.Rows PySem.W PySem.Builtin PySem.Builtin.ObjectAttr
section
variable {prog:Program}{w:World}{A:Around}{E:Aa}{K:Frag}{x C:Addr}{s:Shared}{ox:Obj}{od:Option Obj}{name:Str}{tk:Tok}
structure fE (K:Frag) (C:Addr):Prop where
 ga:findIn K (.ref C) "__getattribute__" = some (some (.builtin "BaseException.__getattribute__"))
 hk:findIn K (.ref C) "__getattr__" = some none
 hB:mroIn K C (.type "BaseException")=some true
def tK {fill expr:Bool}{Q:Aa}(X:K.In s.heap) (I:InstAt s.heap x ox C od) (G:fE K C)
  (h:wpAny (model prog w) A.in1 (Builtin.«object.__getattribute__» ⟨[.ref x,.str name tk],[]⟩) (λfin s'=>∃v,fin=.done (.ret v)/\handedIn v=true/\Q v s') (λ_ _=>False) s) :
  wpAny (model prog w) A (getAttrBy (.ref x) (.str name tk) fill expr) Q E s:=by
 have L0:=I.type (M:=model prog w)
 have L1:=looks_findIn (M:=model prog w) X G.ga
 have L2:=looks_findIn (M:=model prog w) X G.hk
 have DZ:Looks (model prog w) s.heap (isInstance (.ref x) (.type "BaseException")) true:=I.type.andThen (looks_mroIn X G.hB)
 unfold getAttrBy
 refine jo (zq (L0.here (zq (L1.here ?_))))
 dsimp only
 rw [zC (show ¬((onTheHeap (Value.ref C)&&Value.builtin "BaseException.__getattribute__" == Value.builtin "object.__getattribute__")=true) by
  rw [show (Value.builtin "BaseException.__getattribute__" == Value.builtin "object.__getattribute__")=false by decide +kernel,Bool.and_false];exact Bool.false_ne_true)]
 unfold getAttrByItsOwn hookBefore
 rw [zw (show onTheHeap (Value.ref C)=true from rfl)]
 refine zq (L2.here (zq (wpAny_attempt (jo ?_))))
 unfold callGetattribute
 rw [zC (show ¬((expr&&onTheHeap (Value.builtin "BaseException.__getattribute__"))=true) by cases expr<;>exact Bool.false_ne_true)]
 unfold boundAndCalled
 refine zq (wpAny_of_eq (PySem.F.excAttr_ValueError.ga.bind (.ref x)) ?_)
 refine wpAny_call (codeAny_call_builtin PySem.F.excAttr_ValueError.ga.plain PySem.F.entry_bexc_ga (@check_slot (model prog w) _ _ s "BaseException.__getattribute__" "BaseException" "__getattribute__" (.ref x) [.str name tk] [] _ (by decide +kernel) (by decide +kernel) DZ (PySem.F.args_bexc_ga (.ref x) (.str name tk)) ?_))
 refine yS h (λfin s' ⟨v,ef,hv,q⟩=>?_) λ_ _ z=>z.elim
 subst ef
 show wpAny _ _ (handedOut v) _ _ _
 rw [handedOut_of hv]
 exact zE q
def D0 {v:Value}{Q:Fin->Shared->Prop}(X:K.In s.heap) (I:InstAt s.heap x ox C od) (hf:findObj K C od name=some (.value v)) (h:Q (.done (.ret v)) s) :
  wpAny (model prog w) A (Builtin.«object.__getattribute__» ⟨[.ref x,.str name tk],[]⟩) Q E s:=by
 have L0:=I.type (M:=model prog w)
 have L1:=looks_find (M:=model prog w) X I hf
 exact zq (zE (zq (zE (zq (L0.here (zq (L1.here (zE h))))))))
def D5 {Q:Fin->Shared->Prop} (X:K.In s.heap) (I:InstAt s.heap x ox C od) (hf:findObj K C od "__class__" = some (.bind (.builtin "getset_descriptor.__get__") (.builtin "object.__class__"))) (hm:mroIn K C (.type "object")=some true)
  (h:Q (.done (.ret (.ref C))) s):wpAny (model prog w) A (Builtin.«object.__getattribute__» ⟨[.ref x,.str "__class__" tk],[]⟩) Q E s:=by
 have L0:=I.type (M:=model prog w)
 have L1:=looks_find (M:=model prog w) X I hf
 refine zq (zE (zq (zE (zq (L0.here (zq (L1.here ?_)))))))
 show wpAny _ _ (holding [.builtin "object.__class__"] (call (.builtin "getset_descriptor.__get__") [.builtin "object.__class__", .ref x,.ref C]) >>= ret) _ _ _
 exact zq (jo (wpAny_call (class_get (ox:=ox) (od:=od) X I hm (zE h))))
end
def D6 {K:Frag} {x D:Addr} {ox:Obj} {od:Option Obj} (G:fE K D) (D7:(clsIn K D).isSome=true) (hf:findObj K D od "__class__" = some (.bind (.builtin "getset_descriptor.__get__") (.builtin "object.__class__"))) (hm:mroIn K D (.type "object")=some true) :
  KitX K (.ref x) (.ref D) (λh=>InstAt h x ox D od):=by
 obtain ⟨cd,hc⟩:=Option.isSome_iff_exists.mp D7
 unfold clsIn at hc
 split at hc
 ·rename_i c' d' KA lS ho
  refine ⟨λ_ _ _ I=>I.type,λM h X _=>?_,λh tp dd its n sl X D8=>?_,λ{prog w A E Q s} X I k=>?_⟩
  ·intro A' Q' E' s' k q
   unfold isType loadHead
   exact zq (wpAny_loadPart (k _ _ (X _ _ ho)) (zE q))
  ·refine Bool.eq_false_iff.mpr λq=>?_
   obtain rfl:D=tp:=Value.ref.inj (beq_iff_eq.mp q)
   have z:=(X _ _ ho).symm.trans D8
   cases z
  ·unfold getAttr? getAttrBy?
   refine zq (wpAny_mkText (zq (wpAny_attempt ?_)))
   exact tK (s:={ s with toks:=s.toks+1 }) X I G (D5 (s:={ s with toks:=s.toks+1 }) X I hf hm ⟨_,rfl,rfl,zE k⟩)
 ·cases hc
structure iq (K:Frag) (C:Addr):Prop where
 g:fE K C
 hd:hasDictIn K C=true
 ha:findIn K (.ref C) "__class__" = some (some (.builtin "object.__class__"))
 hn:specialIn K (.builtin "object.__class__") "__get__" = some (some (.builtin "getset_descriptor.__get__"))
 tk:takesIn K (.builtin "object.__class__")=some true
 hm:mroIn K C (.type "object")=some true
section
variable {X:Cx}{pins:Ac}{U:St}{H:Hp}{s:Shared}{a C d:Addr}{fs:List (Str×V)}{A:Around}{E:Aa}
def D9 {b:Bool}{f:Str}{v:V}{Q:Aa}(I:Inv X pins U H s) (ha:H a=some (gr C (some d) a)) (hd:H d=some (.xd fs)) (g:fE X.K C) (hh:hasDictIn X.K C=true) (no:findIn X.K (.ref C) f=some none) (l:fs.lookup f=some v)
  (h:∀u s',Inv X pins U H s'->RelV v u->Q u s'):wpAny (model X.prog X.w) A (getAttr (.ref a) f b) Q E s:=by
 obtain ⟨ox,od,J,hl⟩:=tI I ha hd
 obtain ⟨o,ho,r⟩:=hl f
 rw [l] at r
 obtain ⟨u,rfl,ru⟩:=bO.some_of (v:=v) (o:=o) r
 unfold getAttr
 refine zq (wpAny_mkText ?_)
 exact tK (s:={ s with toks:=s.toks+1 }) I.kIn J g (D0 (s:={ s with toks:=s.toks+1 }) I.kIn J (findObj_own hh no rfl ho) ⟨u,rfl,rM ru,h u _ (I.tok _) ru⟩)
def D_ {c:Value}{b:Bool}{Q:Aa}(I:Inv X pins U H s) (ha:H a=some (gr C (some d) a)) (hd:H d=some (.xd fs)) (k:iq X.K C) (e:kitOne X.K (.ref C) c=some b) (h:∀tk,Q (.bool b) { s with toks:=tk }) :
  wpAny (model X.prog X.w) A (call (.builtin "isinstance") [.ref a,c]) Q E s:=by
 obtain ⟨ox,od,J,_⟩:=tI I ha hd
 have cl:(clsIn X.K C).isSome=true:=by obtain ⟨cd,hc,_⟩:=any_some k.hd;rw [hc];rfl
 exact kia_one (D6 k.g cl (findObj_data cl k.ha k.hn k.tk) k.hm) I.kIn J e (λz=>nomatch z) h
end
end L2
namespace L2
open PySem PySem.Spec PyProof.Rows PySem.W
structure KC (prog:Program) (w:World) (it src:Addr) (xs:Array Value) (St:Nat->Heap->Prop):Prop where
 at_:∀{k h h'},St k h->(∀o,h.get? it=some o->h'.get? it=some o)->(∀o,h.get? src=some o->h'.get? src=some o)->St k h'
 lt:∀{k h},St k h->it<h.objs.size
 item:∀{A:Around} {E:Aa} {s:Shared} {k:Nat} {x:Value} {Q:Aa},St k s.heap->xs[k]?=some x->(∀h',St (k+1) h'->Heap.SameBut it s.heap h'->Q x { s with heap:=h' }) ->
  wpAny (model prog w) A (Builtin.SmallTypes.nextOf (.ref it)) Q E s
 stop:∀{A:Around} {E:Aa} {s:Shared} {k:Nat} {Q:Aa},A.handled=none->St k s.heap->xs[k]?=none ->
  (∀h' e,Heap.ExtBut it s.heap h'->(∃o,h'.get? e=some o/\o.cls=.type "StopIteration")->E (.ref e) { s with heap:=h' })->wpAny (model prog w) A (Builtin.SmallTypes.nextOf (.ref it)) Q E s
def tL (it t:Addr) (xs:Array Value) (k:Nat) (h:Heap):Prop:=IsTupIter h it t k/\IsTup h t xs
section
variable {prog:Program}{w:World}{A:Around}{E:Aa}{s:Shared}{z TI TO i1 i2 t1 t2:Addr}{k:Nat}{xs ys:Array Value}{x y a b:Value}{S1 S2:Nat->Heap->Prop}
end
section
variable {X:Cx}{pins:Ac}{U:St}{H:Hp}{s:Shared}{h':Heap}
def Inv.turnL {ch:Ae}{t':Nat}(I:Inv X pins U H s) (hc:∀b∈ch,b0 X pins H b) (k:∀b o,b∉ch->s.heap.get? b=some o->h'.get? b=some o):Inv X pins U H { s with heap:=h',toks:=t' }:=by
 have eE:∀b u,H b=some u->b∉ch:=λb u e z=>by rw [(hc b z).1] at e;cases e
 refine I.step (g':=s.gens) (d':=s.drawn) (ch:=ch) (λb hb=>?_) (λb o _ _ nb e _=>k b o nb e) (λb o _ _ nb e _=>⟨o.slots,k b o nb e⟩) (λ_ _ _ _ n=>n)
  (λb o nb e=>⟨o,k b o nb e⟩) (λ_ _ e=>e) (λ_ _ _ e=>e) (λb ps e=>⟨#[],by rw [e];simp⟩) (λm hm=>?_) (λb u e=>?_) I.bare
 ·obtain ⟨_,f1,_,f3,f4,f5⟩:=hc b hb
  exact ⟨f3,f1,f4,f5⟩
 ·obtain ⟨o,es,ep,ho,r⟩:=hm
  exact ⟨o,es,ep,k _ o (λz=>(hc _ z).2.1 rfl) ho,r⟩
 ·refine (I.hok b u e).stay (λc v cC q=>k c v ?_ q) (λ_ q=>q) λ_ _ q=>q
  rcases cC with z|z
  ·rw [z];exact eE b u e
  ·exact eE c _ z
def Inv.turnN {ch:Ae}{T:Addr}{o:HO}{t':Nat}(I:Inv X pins U H s) (hc:∀b∈ch,b0 X pins H b) (k:∀b o,b∉ch->s.heap.get? b=some o->h'.get? b=some o) (hT:s.heap.objs.size<=T)
  (new:aX X.prog X.w (upd H T o) h' T o):Inv X pins U (upd H T o) { s with heap:=h',toks:=t' }:=by
 have fT:H T=none:=I.hok.fresh hT
 have eE:∀b u,H b=some u->b∉ch:=λb u e z=>by rw [(hc b z).1] at e;cases e
 have nT:∀b u,H b=some u->b≠T:=λb u e z=>by rw [z,fT] at e;cases e
 refine I.step (g':=s.gens) (d':=s.drawn) (ch:=ch) (λb hb=>?_) (λb o _ _ nb e _=>k b o nb e) (λb o _ _ nb e _=>⟨o.slots,k b o nb e⟩) (λb u _ e n=>?_)
  (λb o nb e=>⟨o,k b o nb e⟩) (λb xs e=>?_) (λb u v e=>?_) (λb ps e=>⟨#[],?_⟩) (λm hm=>?_) (λb u e=>?_) I.bare
 ·obtain ⟨_,f1,_,f3,f4,f5⟩:=hc b hb
  exact ⟨f3,f1,f4,f5⟩
 ·rw [zF (yt (y1 (zY e) hT))];exact n
 ·rw [zF (nT b _ e)];exact e
 ·rw [zF (nT b _ e)];exact e
 ·rw [zF (nT b _ e),e];simp
 ·obtain ⟨o,es,ep,ho,r⟩:=hm
  exact ⟨o,es,ep,k _ o (λz=>(hc _ z).2.1 rfl) ho,r⟩
 ·by_cases z:b=T
  ·rw [z] at e ⊢
   rw [yx] at e
   cases e
   exact new
  ·rw [zF z] at e
   refine (I.hok b u e).stay (λc v cC q=>k c v ?_ q) (λc q=>by rw [zF (nT c _ q)];exact q) λc xs q=>by rw [zF (nT c _ q)];exact q
   rcases cC with z|z
   ·rw [z];exact eE b u e
   ·exact eE c _ z
end
structure Ko (z TI TO i1 i2:Addr):Prop where
 TIz:TI≠z
 TOz:TO≠z
 i1z:i1≠z
 i2z:i2≠z
 TITO:TI≠TO
 TIi1:TI≠i1
 TIi2:TI≠i2
 TOi1:TO≠i1
 TOi2:TO≠i2
 i12:i1≠i2
section
variable {prog:Program}{w:World}{A:Around}{E:Aa}{s:Shared}
end
structure KD (X:Cx) (a:Addr):Prop where
 ob:∃es n,X.K.lookup a=some ⟨.type "dict", none,.dict es n,#[]⟩/\KeysLit X.w.params es.toList
 no:(a==sysModules)=false
section
variable {X:Cx}
def Ea:dY X (λx y H Q=>∃a z u v,x=.ref a/\y=.str z/\KD X a/\nsIn X.K a z=some (some u)/\RelV v u/\Q v H):=by
 intro a b pins s U H x y v u Q I rx ry h hs
 obtain ⟨p,z,u',v',rfl,rfl,⟨⟨es,n,hl,hk⟩,_⟩,e,rv,q⟩:=h
 obtain rfl:v=Value.ref p:=rx
 obtain ⟨t,rfl⟩:=ry
 obtain ⟨m,F⟩:=I.fr
 exact topItem_K F I.ok.mod.kin hl hk e ⟨v',H,I.tok _,rv,q⟩ hs
def Eb:bf X (compareOp .NotIn) (λx y H Q=>∃a z r,x=.str z/\y=.ref a/\KD X a/\nsIn X.K a z=some r/\Q (.bl (!r.isSome)) H):=by
 intro pins s U H x y v u Q I rx ry h
 obtain ⟨p,z,r,rfl,rfl,⟨⟨es,n,hl,hk⟩,no⟩,e,q⟩:=h
 obtain rfl:u=Value.ref p:=ry
 obtain ⟨t,rfl⟩:=rx
 refine wpAny_notIn_of (strKind_is X.prog X.w z t) no (mapOf_K (prog:=X.prog) I.kIn hl hk) ?_
 rw [find_K hl e]
 exact ⟨.bl (!r.isSome),H,I.tok _,rfl,q⟩
end
end L2
namespace Mi
open PySem L2 PySem.W
inductive PV where
 | non|bl (b:Bool)|int (i:Int)|str (x:Str)|ty (n:String)
 | tup (xs:List PV)|frl (xs:List PV)|ref (n:Nat)|fn (x:Str)|kd (ks:Ad) (xs:List PV)|exo (c:Str) (ks:Ad) (xs:List PV)
inductive SO where
 | lst (xs:List PV)|dic (ks:Ad) (xs:List PV)|ins (c:Str) (ks:Ad) (xs:List PV)|fdi (ks:Ad) (xs:List PV)|dit (ks:List (List Key)) (xs:List PV)
abbrev ae:=List SO
inductive Res (α:Type) where
 | ok (a:α) (st:ae)|err (c:Str) (ks:Ad) (xs:List PV) (st:ae)|stuck
abbrev Mo (α:Type):=ae->Res α
def Res.bind {α β:Type}:Res α->(α->Mo β)->Res β
 | .ok a st,f=>f a st
 | .err c ks xs st,_=>.err c ks xs st
 | .stuck,_=>.stuck
abbrev zc:=List (Option PV)
def Ec (K:Frag) (a:Addr) (ks:Ad) (us:Af):Prop:=∀z,nsIn K a z=some ((ks.zip us).lookup z)
def fR (K:Frag) (H:Hp) (a:Addr) (vs:List V):Prop :=
 (∃o,H a=some (.frz o (.lst vs)))\/∃(o:Obj) (its:Array Value) (n:Nat),K.lookup a=some o/\o.cls=.type "list" /\ o.dict=none/\o.data=.seq its n/\its.size<=sizeLine/\Vals vs its.toList
def fR.sq {K:Frag}{H:Hp}{a:Addr}{vs:List V}(h:fR K H a vs):a3 K H a vs:=by
 rcases h with ⟨o,h⟩|h
 ·exact .inl (.inr ⟨o,h⟩)
 ·exact .inr h
section
variable (K:Frag) (mg:Ab)
mutual
def R (ρ:Ae) (H:Hp):PV->V->Prop
 | .non,v=>v=.non
 | .bl b,v=>v=.bl b
 | .int i,v=>v=.int i
 | .str x,v=>v=.str x
 | .ty n,v=>v=.ty n
 | .tup xs,v=>∃a vs,v=.ref a/\bt K H a vs/\Rs ρ H xs vs
 | .frl xs,v=>∃a vs,v=.ref a/\fR K H a vs/\Rs ρ H xs vs
 | .ref n,v=>∃a,v=.ref a/\ρ[n]?=some a
 | .fn x,v=>∃f,v=.ref f/\mg x=some (.ref f)
 | .kd ks xs,v=>∃a us vs,v=.ref a/\Ec K a ks us/\Vals vs us/\Rs ρ H xs vs
 | .exo c ks xs,v=>∃a C d vs,v=.ref a/\mg c=some (.ref C)/\H a=some (gr C (some d) a)/\H d=some (.xd (ks.zip vs))/\Rs ρ H xs vs/\ks.length=vs.length
def Rs (ρ:Ae) (H:Hp):List PV->List V->Prop
 | [],vs=>vs=[]
 | x::xs,vs=>∃v r,vs=v::r/\R ρ H x v/\Rs ρ H xs r
end
def dE (a:Addr) (its:List (List Key×Addr×Value)):HO:=.ext λP w h=>its.length<=sizeLine/\(a==sysModules)=false /\
 ∃o es ep,h.get? a=some o/\o.ExactDict/\o.data=.dict es ep/\es.toList=its.map (entryOfKey (tupleKind (a0 P w)))/\(its.map (·.1)).Nodup
def d9 (ρ:Ae) (H:Hp):SO->Addr->Prop
 | .lst xs,a=>∃vs,H a=some (.lst vs)/\Rs K mg ρ H xs vs
 | .dic ks xs,a=>∃vs,H a=some (.dK ((ks.map Sum.inr).zip vs))/\Rs K mg ρ H xs vs/\ks.length=vs.length
 | .ins c ks xs,a=>∃C dx vs,mg c=some (.ref C)/\H a=some (.ins C dx (ks.zip vs))/\Rs K mg ρ H xs vs/\ks.length=vs.length
 | .fdi ks xs,a=>∃o vs,H a=some (.frz o (.dK ((ks.map Sum.inr).zip vs)))/\Rs K mg ρ H xs vs/\ks.length=vs.length
 | .dit ks xs,a=>∃its vs,H a=some (dE a its)/\its.map (·.1)=ks/\(∀x,x∈its->bt K H x.2.1 (x.1.map kV))/\Vals vs (its.map (·.2.2))/\Rs K mg ρ H xs vs
structure aY (ρ:Ae) (H:Hp) (st:ae):Prop where
 len:ρ.length=st.length
 nd:ρ.Nodup
 at_:∀(n:Nat) so,st[n]?=some so->∃a,ρ[n]?=some a/\d9 K mg ρ H so a
def Still (φ:Program->World->Heap->Prop):Prop:=∀P w,∃h:Heap,φ P w h/\∀b o es ep,h.get? b=some o->o.data ≠ .dict es ep
open Classical in
noncomputable def pe:HO->Bool
 | .tup _=>true
 | .frz _ _=>true
 | .xd _=>true
 | .ext φ=>decide (Still φ)
 | _=>false
structure Ext (ρ:Ae) (H:Hp) (ai:Ae) (H':Hp):Prop where
 pre:∃δ,ai=ρ++δ
 imm:∀a o,H a=some o->pe o=true->H' a=some o
def Ed {C:Addr}{d:Option Addr}{a:Addr}:pe (gr C d a)=true:=by
 have st:Still λ_ _ h=>∃T:Addr,XO h a (.ref C) d (.ref T):=λP w=>by
  have g:∀b,(Heap.mk (Array.replicate (a+1) { cls:=.ref C,dict:=d,data:=.fields #[.none,.ref 0,.none,.none,.none,.none] }) {}).get? b=if b<a+1 then some { cls:=.ref C,dict:=d,data:=.fields #[.none,.ref 0,.none,.none,.none,.none] } else none:=by
   intro b
   unfold Heap.get?
   by_cases hb:b<a+1
   ·simp [Array.getElem?_replicate,hb]
   ·simp [Array.getElem?_replicate,hb]
  refine ⟨_,⟨0,_,_,(g a).trans (zw (jq a)),rfl,rfl,rfl,rfl,rfl⟩,λb o es ep e=>?_⟩
  rw [g b] at e
  split at e
  ·cases e;intro z;cases z
  ·cases e
 exact @decide_eq_true _ (Classical.propDecidable _) st
def XR (ρ:Ae) (H:Hp) (c:Str) (ks:Ad) (xs:List PV) (Cv:Value) (d:Option Addr):Prop :=
 ∃C,Cv=.ref C/\mg c=some (.ref C)/\((ks=[]/\d=none)\/∃dd vs,d=some dd/\H dd=some (.xd (ks.zip vs))/\Rs K mg ρ H xs vs/\ks.length=vs.length)
def Out {α:Type}(ρ:Ae) (H:Hp) (r:Res α) (good:List Addr->Hp->α->ae->Prop) (E:XK):Prop :=
 match r with
 | .ok x st=>∀ai H',Ext ρ H ai H'->aY K mg ai H' st->good ai H' x st
 | .err c ks xs st=>∀ai H' C d,Ext ρ H ai H'->aY K mg ai H' st->XR K mg ai H' c ks xs C d->E C d H'
 | .stuck=>False
structure a7 (ρ:Ae) (H:Hp) (env:zc) (U:St):Prop where
 len:env.length=U.length
 at_:∀(i:Nat) x,env[i]?=some (some x)->∃v,U[i]?=some (some v)/\R K mg ρ H x v
def gV (Q:VK):List Addr->Hp->PV->ae->Prop:=fun ρ H x _=>∀v,R K mg ρ H x v->Q v H
def Ee (Q:List V->Hp->Prop):List Addr->Hp->List PV->ae->Prop:=fun ρ H x _=>∀v,Rs K mg ρ H x v->Q v H
def gB (Q:Bool->Hp->Prop):List Addr->Hp->Bool->ae->Prop:=λ_ H x _=>Q x H
inductive Fl where
 | nx (env:zc)|rt (x:PV)|bk (env:zc)|ct (env:zc)
abbrev Ah:=zc->Mo (List PV)
abbrev Ai:=zc->Mo PV
abbrev Aj:=zc->Mo Fl
abbrev Ak:=zc->Mo Bool
abbrev Al:=List PV->Mo PV
abbrev Am:=PV->PV->Mo PV
abbrev An:=List PV
abbrev Ao:=Option PV
def gS (D:Ends):List Addr->Hp->Fl->ae->Prop:=fun ρ H x _ =>
 match x with
 | .nx env=>∀U,a7 K mg ρ H env U->D.nx U H
 | .rt x=>∀v,R K mg ρ H x v->D.rt v H
 | .bk env=>∀U,a7 K mg ρ H env U->D.bk U H
 | .ct env=>∀U,a7 K mg ρ H env U->D.ct U H
end
section
variable {K:Frag}{mg:Ab}{ρ af ar:Ae}{H H1 H2:Hp}
def Ext.refl:Ext ρ H ρ H:=⟨⟨[],by simp⟩,λ_ _ h _=>h⟩
def Ext.trans (a:Ext ρ H af H1) (b:Ext af H1 ar H2):Ext ρ H ar H2:=by
 obtain ⟨⟨d,hd⟩,i⟩:=a
 obtain ⟨⟨d',eD⟩,i'⟩:=b
 exact ⟨⟨d++d',by rw [eD,hd,iF]⟩,λa o h m=>i' a o (i a o h m) m⟩
def Ext.get (a:Ext ρ H af H1) {n:Nat}{p:Addr}(h:ρ[n]?=some p):af[n]?=some p:=by
 obtain ⟨⟨d,hd⟩,_⟩:=a
 rw [hd,jj (yf.mp h).1]
 exact h
def Ext.sqT (e:Ext ρ H af H1) {a:Addr}{xs:List V}(h:bt K H a xs):bt K H1 a xs:=by
 rcases h with (h|⟨o,h⟩)|h
 ·exact .inl (.inl (e.imm _ _ h rfl))
 ·exact .inl (.inr ⟨o,e.imm _ _ h rfl⟩)
 ·exact .inr h
def Ext.frl (e:Ext ρ H af H1) {a:Addr}{xs:List V}(h:fR K H a xs):fR K H1 a xs:=by
 rcases h with ⟨o,h⟩|h
 ·exact .inl ⟨o,e.imm _ _ h rfl⟩
 ·exact .inr h
mutual
def R.ext (e:Ext ρ H af H1):∀(x:PV) {v:V},R K mg ρ H x v->R K mg af H1 x v
 | .non,_,h=>h
 | .bl _,_,h=>h
 | .int _,_,h=>h
 | .str _,_,h=>h
 | .ty _,_,h=>h
 | .tup xs,_,h=>by
  obtain ⟨a,vs,h1,h2,h3⟩:=h
  exact ⟨a,vs,h1,e.sqT h2,Rs.ext e xs h3⟩
 | .frl xs,_,h=>by
  obtain ⟨a,vs,h1,h2,h3⟩:=h
  exact ⟨a,vs,h1,e.frl h2,Rs.ext e xs h3⟩
 | .ref n,_,h=>by
  obtain ⟨a,h1,h2⟩:=h
  exact ⟨a,h1,e.get h2⟩
 | .fn _,_,h=>h
 | .kd ks xs,_,h=>by
  obtain ⟨a,us,vs,h1,h2,h4,h3⟩:=h
  exact ⟨a,us,vs,h1,h2,h4,Rs.ext e xs h3⟩
 | .exo c ks xs,_,h=>by
  obtain ⟨a,C,d,vs,h1,h2,h3,h4,h5,h6⟩:=h
  exact ⟨a,C,d,vs,h1,h2,e.imm _ _ h3 Ed,e.imm _ _ h4 rfl,Rs.ext e xs h5,h6⟩
def Rs.ext (e:Ext ρ H af H1):∀(xs:An) {vs:List V},Rs K mg ρ H xs vs->Rs K mg af H1 xs vs
 | [],_,h=>h
 | x::xs,_,h=>by
  obtain ⟨v,r,h1,h2,h3⟩:=h
  exact ⟨v,r,h1,R.ext e x h2,Rs.ext e xs h3⟩
end
def a7.ext (e:Ext ρ H af H1) {env:zc}{U:St}(h:a7 K mg ρ H env U):a7 K mg af H1 env U :=
 ⟨h.len,λi x hx=>let ⟨v,a,b⟩:=h.at_ i x hx;⟨v,a,R.ext e x b⟩⟩
def Rs.len:∀{xs:An}{vs:List V},Rs K mg ρ H xs vs->xs.length=vs.length
 | [],_,h=>by cases h;rfl
 | x::xs,_,h=>by
  obtain ⟨v,r,rfl,_,h3⟩:=h
  simp [Rs.len h3]
def Rs.get:∀{xs:An}{vs:List V}{i:Nat}{x:PV},Rs K mg ρ H xs vs->xs[i]?=some x->∃v,vs[i]?=some v/\R K mg ρ H x v
 | [],_,_,_,_,e=>by simp at e
 | x::xs,_,0,_,h,e=>by
  obtain ⟨v,r,rfl,h2,h3⟩:=h
  simp at e
  subst e
  exact ⟨v,by simp,h2⟩
 | x::xs,_,i+1,y,h,e=>by
  obtain ⟨v,r,rfl,h2,h3⟩:=h
  simp at e
  obtain ⟨v',h4,h5⟩:=Rs.get h3 e
  exact ⟨v',by simpa using h4,h5⟩
def Rs.append:∀{xs ys:An}{vs ws:List V},Rs K mg ρ H xs vs->Rs K mg ρ H ys ws->Rs K mg ρ H (xs++ys) (vs++ws)
 | [],_,_,_,h,h'=>by cases h;exact h'
 | x::xs,_,_,_,h,h'=>by
  obtain ⟨v,r,rfl,h2,h3⟩:=h
  exact ⟨v,r++_,rfl,h2,Rs.append h3 h'⟩
def Rs.take:∀{xs:An}{vs:List V}(n:Nat),Rs K mg ρ H xs vs->Rs K mg ρ H (xs.take n) (vs.take n)
 | [],_,n,h=>by cases h;simp [Rs]
 | x::xs,_,0,h=>by simp [Rs]
 | x::xs,_,n+1,h=>by
  obtain ⟨v,r,rfl,h2,h3⟩:=h
  exact ⟨v,_,rfl,h2,Rs.take n h3⟩
def Rs.drop:∀{xs:An}{vs:List V}(n:Nat),Rs K mg ρ H xs vs->Rs K mg ρ H (xs.drop n) (vs.drop n)
 | [],_,n,h=>by cases h;simp [Rs]
 | x::xs,_,0,h=>h
 | x::xs,_,n+1,h=>by
  obtain ⟨v,r,rfl,h2,h3⟩:=h
  exact Rs.drop n h3
def a7.set {env:zc}{U:St}{x:PV}{v:V}(h:a7 K mg ρ H env U) (i:Nat) (r:R K mg ρ H x v):a7 K mg ρ H (env.set i (some x)) (U.set i (some v)):=by
 refine ⟨by simp [h.len],λj y hy=>?_⟩
 rw [List.getElem?_set] at hy ⊢
 by_cases cO:i=j
 ·subst cO
  by_cases hl:i<env.length
  ·rw [zw rfl,zw hl] at hy
   rw [zw rfl,zw (by rw [<-h.len];exact hl)]
   cases hy
   exact ⟨v,rfl,r⟩
  ·rw [zw rfl,zC hl] at hy
   cases hy
 ·rw [zC cO] at hy ⊢
  exact h.at_ j y hy
def a7.cons {env:zc}{U:St}{x:PV}{v:V}(h:a7 K mg ρ H env U) (r:R K mg ρ H x v):a7 K mg ρ H (some x::env) (some v::U):=by
 refine ⟨by simp [h.len],λj y hy=>?_⟩
 cases j with
 | zero=>simp at hy;subst hy;exact ⟨v,by simp,r⟩
 | succ j=>simp at hy;simpa using h.at_ j y hy
def aY.addr {st:ae}{n:Nat}{so:SO}(s:aY K mg ρ H st) (e:st[n]?=some so) {a:Addr}(ha:ρ[n]?=some a):d9 K mg ρ H so a:=by
 obtain ⟨b,hb,h⟩:=s.at_ n so e
 rw [ha] at hb
 cases hb
 exact h
def d9.some {so:SO}{a:Addr}(h:d9 K mg ρ H so a):∃o,H a=some o/\True:=by
 cases so with
 | lst xs=>obtain ⟨vs,h,_⟩:=h;exact ⟨_,h,trivial⟩
 | dic ks xs=>obtain ⟨vs,h,_⟩:=h;exact ⟨_,h,trivial⟩
 | ins c ks xs=>obtain ⟨C,dx,vs,_,h,_⟩:=h;exact ⟨_,h,trivial⟩
 | fdi ks xs=>obtain ⟨o,vs,h,_⟩:=h;exact ⟨_,h,trivial⟩
 | dit ks xs=>obtain ⟨its,vs,h,_⟩:=h;exact ⟨_,h,trivial⟩
def aY.in_ {st:ae}{n:Nat}{a:Addr}(s:aY K mg ρ H st) (h:ρ[n]?=some a):∃so,st[n]?=some so/\d9 K mg ρ H so a:=by
 have hl:n<st.length:=by rw [<-s.len];exact (yf.mp h).1
 refine ⟨st[n],by simp [hl],s.addr (by simp [hl]) h⟩
def d9.ext' {so:SO}{a:Addr}(e:Ext ρ H af H1) (h:d9 K mg ρ H so a) (k:H1 a=H a):d9 K mg af H1 so a:=by
 cases so with
 | lst xs=>obtain ⟨vs,h1,h2⟩:=h;exact ⟨vs,by rw [k];exact h1,Rs.ext e xs h2⟩
 | dic ks xs=>obtain ⟨vs,h1,h2,h3⟩:=h;exact ⟨vs,by rw [k];exact h1,Rs.ext e xs h2,h3⟩
 | ins c ks xs=>obtain ⟨C,dx,vs,h0,h1,h2,h3⟩:=h;exact ⟨C,dx,vs,h0,by rw [k];exact h1,Rs.ext e xs h2,h3⟩
 | fdi ks xs=>obtain ⟨o,vs,h1,h2,h3⟩:=h;exact ⟨o,vs,by rw [k];exact h1,Rs.ext e xs h2,h3⟩
 | dit ks xs=>obtain ⟨its,vs,h1,h2,h3,h4,h5⟩:=h;exact ⟨its,vs,by rw [k];exact h1,h2,λx hx=>e.sqT (h3 x hx),h4,Rs.ext e xs h5⟩
def Ext.new {p:Addr}{o:HO}(hp:H p=none):Ext ρ H ρ (upd H p o) :=
 ⟨⟨[],by simp⟩,λa o' h _=>by rw [zF (jL h hp)];exact h⟩
def aY.new {st:ae}{p:Addr}{o:HO}(s:aY K mg ρ H st) (hp:H p=none):aY K mg ρ (upd H p o) st :=
 ⟨s.len,s.nd,λn so e=>by
  obtain ⟨a,ha,h⟩:=s.at_ n so e
  obtain ⟨o',ho,_⟩:=h.some
  exact ⟨a,ha,h.ext' (Ext.new hp) (zF (jL ho hp))⟩⟩
def Ext.push {p:Addr}{o:HO}(hp:H p=none):Ext ρ H (ρ++[p]) (upd H p o) :=
 ⟨⟨[p],rfl⟩,λa o' h _=>by rw [zF (jL h hp)];exact h⟩
def aY.push {st:ae}{p:Addr}{o:HO}{so:SO}(s:aY K mg ρ H st) (hp:H p=none) (n:d9 K mg (ρ++[p]) (upd H p o) so p):aY K mg (ρ++[p]) (upd H p o) (st++[so]):=by
 refine ⟨by simp [s.len],?_,λi iM e=>?_⟩
 ·refine List.nodup_append.mpr ⟨s.nd,by simp,λa ha b hb=>?_⟩
  obtain rfl:b=p:=by simpa using hb
  obtain ⟨n,hn⟩:=List.getElem?_of_mem ha
  obtain ⟨iM,_,h⟩:=s.in_ hn
  obtain ⟨o',ho,_⟩:=h.some
  exact jL ho hp
 ·by_cases hi:i<st.length
  ·rw [jj hi] at e
   obtain ⟨a,ha,h⟩:=s.at_ i iM e
   obtain ⟨o',ho,_⟩:=h.some
   exact ⟨a,(Ext.push (o:=o) hp).get ha,h.ext' (Ext.push hp) (zF (jL ho hp))⟩
  ·rw [jd (by omega)] at e
   have iN:i=st.length:=by
    have:=(yf.mp e).1
    simp at this
    omega
   subst iN
   simp at e
   subst e
   exact ⟨p,by rw [<-s.len];simp,n⟩
def Ext.write {a:Addr}{o o':HO}(ha:H a=some o) (hi:pe o=false):Ext ρ H ρ (upd H a o') :=
 ⟨⟨[],by simp⟩,λb u h m=>by
  rw [zF]
  ·exact h
  ·intro z;subst z;rw [ha] at h;cases h;rw [hi] at m;cases m⟩
def aY.write {st:ae}{n:Nat}{a:Addr}{o':HO}{so:SO}(s:aY K mg ρ H st) (hn:ρ[n]?=some a) (ew:Ext ρ H ρ (upd H a o')) (h:d9 K mg ρ (upd H a o') so a):aY K mg ρ (upd H a o') (st.set n so):=by
 refine ⟨by simp [s.len],s.nd,λi iM e=>?_⟩
 rw [List.getElem?_set] at e
 by_cases cO:n=i
 ·subst cO
  rw [zw rfl] at e
  split at e
  ·cases e;exact ⟨a,hn,h⟩
  ·cases e
 ·rw [zC cO] at e
  obtain ⟨b,hb,q⟩:=s.at_ i iM e
  have ne:b≠a:=by
   intro z
   subst z
   obtain ⟨h1,h2⟩:=yf.mp hn
   obtain ⟨h3,h4⟩:=yf.mp hb
   have pw:=List.pairwise_iff_getElem.mp s.nd
   rcases Nat.lt_trichotomy n i with c|c|c
   ·exact pw n i h1 h3 c (h2.trans h4.symm)
   ·exact cO c
   ·exact pw i n h3 h1 c (h4.trans h2.symm)
  exact ⟨b,hb,q.ext' ew (zF ne)⟩
section
variable {α β:Type}{E:XK}{good:List Addr->Hp->α->ae->Prop}
def Out.ext {r:Res α}(h:Out K mg ρ H r good E) (e:Ext ρ H af H1):Out K mg af H1 r good E:=by
 cases r with
 | ok x st=>exact λai H' e' s=>h ai H' (e.trans e') s
 | err c ks xs st=>exact λai H' C d e' s x=>h ai H' C d (e.trans e') s x
 | stuck=>exact h
def Out.mono {r:Res α}{c5:List Addr->Hp->α->ae->Prop}(h:Out K mg ρ H r good E) (g:∀ai H' x st,Ext ρ H ai H'->aY K mg ai H' st->good ai H' x st->c5 ai H' x st):Out K mg ρ H r c5 E:=by
 cases r with
 | ok x st=>exact λai H' e' s=>g ai H' x st e' s (h ai H' e' s)
 | err c ks xs st=>exact h
 | stuck=>exact h
def Out.bind {r:Res β}{f:β->Mo α}(h:Out K mg ρ H (r.bind f) good E):Out K mg ρ H r (λai H' x st=>Out K mg ai H' (f x st) good E) E:=by
 cases r with
 | ok x st=>exact λai H' e' s=>Out.ext h e'
 | err c ks xs st=>exact h
 | stuck=>exact h
def Out.then {r:Res β}{f:β->Mo α}{c5:List Addr->Hp->β->ae->Prop}(h:Out K mg ρ H (r.bind f) good E) (g:∀ai H' x st,Ext ρ H ai H'->aY K mg ai H' st->Out K mg ai H' (f x st) good E->c5 ai H' x st):Out K mg ρ H r c5 E:=h.bind.mono g
def Out.now {x:α}{st:ae}(h:Out K mg ρ H (.ok x st) good E) (s:aY K mg ρ H st):good ρ H x st:=h ρ H Ext.refl s
end
end
end Mi
namespace Mi
open PySem L2 PySem.W PySem.Spec
abbrev lim:Nat:=1000000
def yJ {n:Nat}(h:n<=lim):n<=sizeLine:=by rw [sizeLine_eq];show n<=16777216;exact yM h (by decide)
section
variable (K:Frag) (mg:Ab)
def tM (Er:XK) (f:Ai):TE:=λU H Q=>∃env st ρ,a7 K mg ρ H env U/\aY K mg ρ H st/\Out K mg ρ H (f env st) (gV K mg Q) Er
def iO (Er:XK) (f:Ak):TT:=λU H Q=>∃env st ρ,a7 K mg ρ H env U/\aY K mg ρ H st/\Out K mg ρ H (f env st) (gB Q) Er
def Ef (Er:XK) (f:Ah):TA:=λU H Q=>∃env st ρ,a7 K mg ρ H env U/\aY K mg ρ H st/\Out K mg ρ H (f env st) (Ee K mg Q) Er
def sM (Er:XK) (f:Aj):TS:=λD U H=>∃env st ρ,a7 K mg ρ H env U/\aY K mg ρ H st/\Out K mg ρ H (f env st) (gS K mg D) Er
end
def ME (X:Cx) (Er:XK) (e:Expr) (f:Ai):Prop:=PE X e (tM X.K X.mg Er f)
def MT (X:Cx) (Er:XK) (e:Expr) (f:Ak):Prop:=PT X e (iO X.K X.mg Er f)
def MW (X:Cx) (Er:XK) (e:Expr) (f:Ak):Prop:=PW X e (iO X.K X.mg Er f)
def MA (X:Cx) (Er:XK) (e:List Expr) (f:Ah):Prop:=PA X e (Ef X.K X.mg Er f)
def MS (X:Cx) (Er:XK) (e:Stmt) (f:Aj):Prop:=PS X e (sM X.K X.mg Er f)
def dz (X:Cx) (Er:XK) (e:List Stmt) (f:Aj):Prop:=bM X e (sM X.K X.mg Er f)
section
variable {X:Cx}{Er:XK}{e a b c:Expr}{es:List Expr}{pos:Pos}{t t':TE}
def PE.weak (h:PE X e t) (w:∀U H Q,t' U H Q->t U H Q):PE X e t':=λpins s U H Q I q=>h pins s U H Q I (w U H Q q)
def PT.weak {t t':TT}(h:PT X e t) (w:∀U H Q,t' U H Q->t U H Q):PT X e t':=λpins s U H Q I q=>h pins s U H Q I (w U H Q q)
def PW.weak {t t':TT}(h:PW X e t) (w:∀U H Q,t' U H Q->t U H Q):PW X e t':=λwh pins s U H Q I q=>h wh pins s U H Q I (w U H Q q)
def PA.weak {t t':TA}(h:PA X es t) (w:∀U H Q,t' U H Q->t U H Q):PA X es t':=λpos pins s U H Q I q=>h pos pins s U H Q I (w U H Q q)
def PS.weak {st:Stmt}{t t':TS}(h:PS X st t) (w:∀D U H,t' D U H->t D U H):PS X st t':=λpins s U H D I q=>h pins s U H D I (w D U H q)
def bM.weak {st:List Stmt}{t t':TS}(h:bM X st t) (w:∀D U H,t' D U H->t D U H):bM X st t':=λpins s U H D I q=>h pins s U H D I (w D U H q)
def zd (i:Nat):Ai:=λenv st=>match env[i]? with
 | some (some x)=>.ok x st
 | _=>.stuck
def mC (x:PV):Ai:=λ_ st=>.ok x st
def zg (i:Nat) {x:Str} {pos:Pos} (hN:X.N[i]?=some x:=by rfl) (hv:lU X.env.scope x:=by first|exact Or.inl rfl|exact Or.inr (Or.inl rfl)|exact Or.inr (Or.inr rfl)) (hd:(x==("__debug__" : Str))=false:=by decide)
  (du:(x==("__classdict__" : Str))=false:=by decide):ME X Er (.Name x pos) (zd i):=PE.weak (rn hN hv hd du) λU H Q ⟨env,st,ρ,re,rs,h⟩=>by
 unfold zd at h
 split at h
 ·rename_i x' hx
  obtain ⟨v,h1,h2⟩:=re.at_ i x' hx
  exact ⟨v,h1,h.now rs v h2⟩
 ·exact h.elim
def iP {x:PV}{v:V}(hp:PE X e (tC v)) (hr:∀ρ H,R X.K X.mg ρ H x v):ME X Er e (mC x):=PE.weak hp λU H Q ⟨env,st,ρ,re,rs,h⟩=>h.now rs v (hr ρ H)
def zp {i:Int}{j}:ME X Er (.Constant (.int i) j pos) (mC (.int i)):=iP A3 λ_ _=>rfl
def zX {x:Str}{j}:ME X Er (.Constant (.str x) j pos) (mC (.str x)):=iP ro λ_ _=>rfl
def wy {b:Bool}{j}:ME X Er (.Constant (.bool b) j pos) (mC (.bl b)):=iP A5 λ_ _=>rfl
def zbj {j}:ME X Er (.Constant .none j pos) (mC .non):=iP A6 λ_ _=>rfl
def Eg {x:Str} {p:PV} {v:V} {u:Value} (hm:X.mg x=some u) (r:RelV v u) (hr:∀ρ H,R X.K X.mg ρ H p v) (hg:Gl X x:=by rfl) (hd:(x==("__debug__" : Str))=false:=by decide):ME X Er (.Name x pos) (mC p):=iP (oi hg hm r hd) hr
def d_ (K:Frag) (mg:Ab) (r:R2) (op:Am):Prop:=∀ρ H st x y v w (Q:VK) (E:XK),aY K mg ρ H st->R K mg ρ H x v->R K mg ρ H y w->Out K mg ρ H (op x y st) (gV K mg Q) E->r v w H Q
def ze (op:Am) (fa fb:Ai):Ai:=λenv st=>(fa env st).bind λx ao=>(fb env ao).bind λy aA=>op x y aA
variable {fa fb fc:Ai}
def mK {r:R2}{op:Am}{K:Frag}{mg:Ab}(hm:d_ K mg r op) {U:St}{H:Hp}{Q:VK}(h:tM K mg Er (ze op fa fb) U H Q):km r (tM K mg Er fa) (tM K mg Er fb) U H Q:=by
 obtain ⟨env,st,ρ,re,rs,h⟩:=h
 exact ⟨env,st,ρ,re,rs,h.then λaf H1 x ao e1 s1 h1 v rv=>⟨env,ao,af,re.ext e1,s1,h1.then λar H2 y aA e2 s2 h2 w rw=>hm ar H2 aA x y v w Q Er s2 (R.ext e2 x rv) rw h2⟩⟩
def Eh {o:Operator}{r:R2}{op:Am}(ho:bf X (binaryOp o) r) (hm:d_ X.K X.mg r op) (ha:ME X Er a fa) (hb:ME X Er b fb):ME X Er (.BinOp a o b pos) (ze op fa fb) :=
 PE.weak (BM ho ha hb) λU H Q h=>mK hm h
def Ei {o:CmpOp}{r:R2}{op:Am}(ho:bf X (compareOp o) r) (hm:d_ X.K X.mg r op) (ha:ME X Er a fa) (hb:ME X Er b fb) (hk:behindInMarks o b=false):ME X Er (.Compare a [o] [b] pos) (ze op fa fb) :=
 PE.weak (B0 ho ha hb hk) λU H Q h=>mK hm h
def gs:PV->Mo Bool
 | .bl b,st=>.ok b st
 | _,_=>.stuck
def mB (f:Ai):Ak:=λenv st=>(f env st).bind gs
def Ej {K:Frag}{mg:Ab}{ρ:Ae}{H:Hp}{x:PV}{st:ae}{Q:Bool->Hp->Prop}(s:aY K mg ρ H st) (h:Out K mg ρ H (gs x st) (gB Q) Er) {v:V}(r:R K mg ρ H x v):∃k,v=.bl k/\Q k H:=by
 unfold gs at h
 split at h
 ·cases r;exact ⟨_,rfl,h.now s⟩
 ·exact h.elim
def Ek {α:Type}{K:Frag}{mg:Ab}{ρ:Ae}{H:Hp}{x:PV}{st:ae}{f:Bool->Mo α}{good:List Addr->Hp->α->ae->Prop}(h:Out K mg ρ H ((gs x st).bind f) good Er):∃k,x=.bl k/\Out K mg ρ H (f k st) good Er:=by
 cases x with
 | bl k=>exact ⟨k,rfl,h⟩
 | _=>exact h.elim
def pf {f:Ai}{K:Frag}{mg:Ab}{U:St}{H:Hp}{Q:Bool->Hp->Prop}(h:iO K mg Er (mB f) U H Q):tM K mg Er f U H λx H1=>∃c,x=.bl c/\Q c H1:=by
 obtain ⟨env,st,ρ,re,rs,h⟩:=h
 exact ⟨env,st,ρ,re,rs,h.then λaf H1 x ao e1 s1 h1 v rv=>Ej s1 h1 rv⟩
def El {o:CmpOp}{r:R2}{op:Am}(ho:bf X (compareOp o) r) (hm:d_ X.K X.mg r op) (ha:ME X Er a fa) (hb:ME X Er b fb) (hk:behindInMarks o b=false):MT X Er (.Compare a [o] [b] pos) (mB (ze op fa fb)) :=
 PT.weak (rE ho ha hb hk) λU H Q h=>mK hm (pf h)
def jr (h:ME X Er e fa) (he:∀whole,isTrue e X.env whole=(do let v <-whole;standAt e.pos;holding [v] (truthy v)):=by intro _;rfl):MT X Er e (mB fa) :=
 PT.weak (A8 h he) λU H Q h=>pf h
def jz (op:PV->Mo PV) (fa:Ai):Ai:=λenv st=>(fa env st).bind op
variable {ga gb:Ak}{rest:List Expr}
def yE (ga gb:Ak):Ak:=λenv st=>(ga env st).bind λc ao=>if c=true then gb env ao else .ok false ao
def jO (ga gb:Ak):Ak:=λenv st=>(ga env st).bind λc ao=>if c=true then .ok true ao else gb env ao
def iQ (ga:Ak):Ak:=λenv st=>(ga env st).bind λc ao=>.ok (!c) ao
def zao (ha:MT X Er a ga):MW X Er (.BoolOp .And [a] pos) ga:=Bb ha
def zbl (ha:MT X Er a ga):MW X Er (.BoolOp .Or [a] pos) ga:=Bc ha
def jP (ha:MT X Er a ga) (hb:MW X Er (.BoolOp .And (b::rest) pos) gb):MW X Er (.BoolOp .And (a::b::rest) pos) (yE ga gb) :=
 PW.weak (Bd ha hb) λU H Q ⟨env,st,ρ,re,rs,h⟩=>⟨env,st,ρ,re,rs,h.then λaf H1 k ao e1 s1 h1=>by
  cases k with
  | true=>exact ⟨env,ao,af,re.ext e1,s1,h1⟩
  | false=>exact h1.now s1⟩
def zbm (ha:MT X Er a ga) (hb:MW X Er (.BoolOp .Or (b::rest) pos) gb):MW X Er (.BoolOp .Or (a::b::rest) pos) (jO ga gb) :=
 PW.weak (Be ha hb) λU H Q ⟨env,st,ρ,re,rs,h⟩=>⟨env,st,ρ,re,rs,h.then λaf H1 k ao e1 s1 h1=>by
  cases k with
  | false=>exact ⟨env,ao,af,re.ext e1,s1,h1⟩
  | true=>exact h1.now s1⟩
def j3 {op:BoolOp}(h:MW X Er (.BoolOp op es pos) ga):MT X Er (.BoolOp op es pos) ga:=PW.pt h
def zet (ha:MT X Er a ga):MT X Er (.UnaryOp .Not a pos) (iQ ga):=PT.weak (Bf ha) λU H Q ⟨env,st,ρ,re,rs,h⟩=>⟨env,st,ρ,re,rs,h.then λaf H1 k ao e1 s1 h1=>h1.now s1⟩
def kN (fa fb:Ai):Ai:=λenv st=>(fa env st).bind λx ao=>(gs x ao).bind λc aA=>if c=true then fb env aA else .ok (.bl false) aA
def zeu {op}(h:ME X Er a fa):ME X Er (.BoolOp op [a] pos) fa:=Bh h
def zev (ha:ME X Er a fa) (hb:ME X Er (.BoolOp .And (b::rest) pos) fb):ME X Er (.BoolOp .And (a::b::rest) pos) (kN fa fb) :=
 PE.weak (Bi ha hb) λU H Q ⟨env,st,ρ,re,rs,h⟩=>⟨env,st,ρ,re,rs,h.then λaf H1 x ao e1 s1 h1 v rv=>by
  obtain ⟨k,rfl,h1⟩:=Ek h1
  cases rv
  refine ⟨k,rfl,?_⟩
  cases k with
  | true=>exact ⟨env,ao,af,re.ext e1,s1,h1⟩
  | false=>exact Out.now (x:=PV.bl false) h1 s1 _ rfl⟩
def zn:Ah:=λ_ st=>.ok [] st
def zf (f:Ai) (fs:Ah):Ah:=λenv st=>(f env st).bind λx ao=>(fs env ao).bind λxs aA=>.ok (x::xs) aA
variable {fs:Ah}
def zt:MA X Er [] zn:=PA.weak mh λU H Q ⟨env,st,ρ,re,rs,h⟩=>h.now rs [] rfl
def tN (ha:ME X Er e fa) (hr:MA X Er es fs) (hs:starEach (e::es) X.env=(false,eval e X.env)::starEach es X.env:=by rfl):MA X Er (e::es) (zf fa fs) :=
 PA.weak (mi ha hr hs) λU H Q ⟨env,st,ρ,re,rs,h⟩=>⟨env,st,ρ,re,rs,h.then λaf H1 x ao e1 s1 h1 v rv=>⟨env,ao,af,re.ext e1,s1,h1.then λar H2 xs aA e2 s2 h2 vs ph =>
  h2.now s2 (v::vs) ⟨v,vs,rfl,R.ext e2 x rv,ph⟩⟩⟩
def zS (fs:Ah):Ai:=λenv st=>(fs env st).bind λxs ao=>if xs.length<=lim then .ok (.tup xs) ao else .stuck
def yU (fs:Ah):Ai:=λenv st=>(fs env st).bind λxs ao=>if xs.length<=lim then .ok (.ref ao.length) (ao++[.lst xs]) else .stuck
def R.tup_of {K:Frag}{mg:Ab}{ρ:Ae}{H:Hp}{xs:An}{vs:List V}{p:Addr}(r:Rs K mg ρ H xs vs) (hp:H p=none):R K mg ρ (upd H p (.tup vs)) (.tup xs) (.ref p) :=
 ⟨p,vs,rfl,bt.of yx,Rs.ext (Ext.new hp) xs r⟩
def yd {x1}(h:MA X Er es fs):ME X Er (.Tuple es x1 pos) (zS fs) :=
 PE.weak (Cp h) λU H Q ⟨env,st,ρ,re,rs,h⟩=>⟨env,st,ρ,re,rs,h.then λaf H1 xs ao e1 s1 h1 vs rv=>by
  split at h1
  ·rename_i hl
   exact ⟨by rw [<-rv.len];exact yJ hl,λp hp=>h1 af _ (Ext.new hp) (s1.new hp) _ (R.tup_of rv hp)⟩
  ·exact h1.elim⟩
def Out.newList {K:Frag}{mg:Ab}{ρ:Ae}{H:Hp}{st:ae}{xs:An}{vs:List V}{p:Addr}{Q:VK}(h:Out K mg ρ H (.ok (.ref st.length) (st++[.lst xs])) (gV K mg Q) Er) (s:aY K mg ρ H st) (r:Rs K mg ρ H xs vs) (hp:H p=none):Q (.ref p) (upd H p (.lst vs)) :=
 h (ρ++[p]) _ (Ext.push hp) (s.push hp ⟨vs,yx,Rs.ext (Ext.push hp) xs r⟩) _ ⟨p,rfl,by rw [<-s.len];simp⟩
def jA (h:MA X Er es fs):ME X Er (.List es pos) (yU fs) :=
 PE.weak (Cq h) λU H Q ⟨env,st,ρ,re,rs,h⟩=>⟨env,st,ρ,re,rs,h.then λaf H1 xs ao e1 s1 h1 vs rv=>by
  split at h1
  ·rename_i hl
   exact ⟨by rw [<-rv.len];exact yJ hl,λp hp=>Out.newList h1 s1 rv hp⟩
  ·exact h1.elim⟩
def Em {r:R2}{op:Am}(ho:dY X r) (hm:d_ X.K X.mg r op) (ha:ME X Er a fa) (hb:ME X Er b fb) (hs:dI b:=by exact λ_ _=>rfl):ME X Er (.Subscript a b pos) (ze op fa fb) :=
 PE.weak (si ho ha hb hs) λU H Q h=>mK hm h
end
end Mi
namespace HT
open PySem PySem.Spec PyProof.Rows
section
variable {prog:Program}{w:World}{A:Around}{E:Aa}{s:Shared}
def getItem_tuple_all {t sl:Addr}{items:Array Value}{vl vu:Value}{lo hi:Option Int}{Q:Aa}(ht:IsTup s.heap t items) (hs:s.heap.IsSliceOf sl vl vu .none) (pl:IsPart vl lo) (pu:IsPart vu hi)
  (hw:sIx items.size 0 lo=0/\sIx items.size items.size hi=items.size) (h:Q (.ref t) s)
  (hsz:items.size<=sizeLine):wpAny (model prog w) A (getItem (.ref t) (.ref sl)) Q E s:=by
 obtain ⟨os,gJ,mj,kq⟩:=id hs
 have oE:s.TypeIs (.ref sl) "slice" := ⟨os,gJ,mj⟩
 unfold getItem
 try with_reducible refine jo ?_
 first|refine zq (zE ?_)|skip
 refine zq (wpAny_sequenceKey ht.typeIs (by decide) ?_)
 refine zq (wpAny_callSpecial?_slot (name:=Str.ofString "__getitem__") ht.typeIs PyProof.Rows.slot_tuple_getitem
  (j7 PyProof.Rows.slot_tuple_getitem ht.typeIs entry_tuple_getitem ?_ (args_tuple_getitem _ _)))
 show wpAny _ _ (Builtin.Tuple.tupleItemsOf (.ref t) >>= _) _ _ s
 refine zq (tupleItemsOf_ ht ?_)
 refine zq (wpAny_typeOf oE ?_)
 rw [zw (by decide)]
 refine zq (sd hs pl pu ?_)
 have tO:(((sIx items.size 0 lo:Nat):Int)==0&&(1:Int)==1&&(sIx items.size items.size hi-sIx items.size 0 lo)==items.size)=true:=by
  rw [hw.1,hw.2];simp
 show wpAny _ _ (if (((sIx items.size 0 lo:Nat):Int)==0&&(1:Int)==1&&(sIx items.size items.size hi-sIx items.size 0 lo)==items.size)=true then _ else _) _ _ s
 rw [zw tO]
 unfold Builtin.Tuple.tupleIsExact
 refine zq (zq (wpAny_typeOf ht.typeIs (zE ?_)))
 rw [zw (by decide)]
 exact zq (wpAny_rule (zE ⟨_,rfl,zE h⟩))
def cat_tup0 {t b:Addr}{ws:Af}{Q:Aa}(ht:IsTup s.heap t #[]) (hb:IsTup s.heap b ws.toArray) (h1:Q (.ref b) s):wpAny (model prog w) A (binaryOp .Add (.ref t) (.ref b)) Q E s:=by
 obtain ⟨⟨cls,dd,data,sl⟩,ho,hc,n,hd⟩:=id ht
 obtain ⟨⟨nZ,gI,data2,dX⟩,ho2,eK,n2,hd2⟩:=id hb
 simp only at hc hd eK hd2
 subst hc hd eK hd2
 exact concat_meets ⟨_,ho,rfl⟩ ⟨_,ho2,rfl⟩ noFill_tuple_add seq_tuple_add PySem.F.slot_tuple_add PySem.F.entry_tuple_add (PySem.F.args_tuple_add_2 _ _)
   (tuple_addW0 t b #[] ws.toArray n n2 dd gI sl dX (by simp)) ⟨ho,ho2,h1⟩
end
end HT
namespace Mi
open PySem L2 PySem.W PySem.Spec
section
variable {X:Cx}{Er:XK}{K:Frag}{mg:Ab}
def c6 (X:Cx) (o:Operator) (op:Am):Prop:=∃r,bf X (binaryOp o) r/\d_ X.K X.mg r op
def bK (X:Cx) (o:CmpOp) (op:Am):Prop:=∃r,bf X (compareOp o) r/\d_ X.K X.mg r op
def iu (X:Cx) (op:Am):Prop:=∃r,dY X r/\d_ X.K X.mg r op
variable {a b c e:Expr}{es:List Expr}{pos:Pos}{fa fb fc:Ai}{fs:Ah}
def zx {o:Operator}{op:Am}(h:c6 X o op) (ha:ME X Er a fa) (hb:ME X Er b fb):ME X Er (.BinOp a o b pos) (ze op fa fb):=let ⟨_,h1,h2⟩:=h;Eh h1 h2 ha hb
def En {o:CmpOp}{op:Am}(h:bK X o op) (ha:ME X Er a fa) (hb:ME X Er b fb) (hk:behindInMarks o b=false:=by first|exact ie _|with_unfolding_all rfl):ME X Er (.Compare a [o] [b] pos) (ze op fa fb):=let ⟨_,h1,h2⟩:=h;Ei h1 h2 ha hb hk
def z9 {o:CmpOp}{op:Am}(h:bK X o op) (ha:ME X Er a fa) (hb:ME X Er b fb) (hk:behindInMarks o b=false:=by first|exact ie _|with_unfolding_all rfl):MT X Er (.Compare a [o] [b] pos) (mB (ze op fa fb)):=let ⟨_,h1,h2⟩:=h;El h1 h2 ha hb hk
def zO {op:Am}(h:iu X op) (ha:ME X Er a fa) (hb:ME X Er b fb) (hs:dI b:=by exact λ_ _=>rfl):ME X Er (.Subscript a b pos) (ze op fa fb):=let ⟨_,h1,h2⟩:=h;Em h1 h2 ha hb hs
def Out.ifp {α:Type}{ρ:Ae}{H:Hp}{p:Prop} [Decidable p] {r:Res α}{good:List Addr->Hp->α->ae->Prop}(h:Out K mg ρ H (if p then r else .stuck) good Er):p/\Out K mg ρ H r good Er:=by
 split at h
 ·rename_i hp;exact ⟨hp,h⟩
 ·exact h.elim
def z0 {α:Type}(st:ae) (n:Nat) (k:List PV->Res α):Res α:=match st[n]? with
 | some (.lst xs)=>k xs
 | _=>.stuck
def yY {α:Type}(st:ae) (n:Nat) (k:List Str->List PV->Res α):Res α:=match st[n]? with
 | some (.dic ks xs)=>k ks xs
 | _=>.stuck
def jb {α:Type}(st:ae) (n:Nat) (k:Str->List Str->List PV->Res α):Res α:=match st[n]? with
 | some (.ins c ks xs)=>k c ks xs
 | _=>.stuck
def yO {α:Type}{ρ:Ae}{H:Hp}{st:ae}{n:Nat}{k:List PV->Res α}{good:List Addr->Hp->α->ae->Prop}(h:Out K mg ρ H (z0 st n k) good Er):∃xs,st[n]?=some (.lst xs)/\Out K mg ρ H (k xs) good Er:=by
 unfold z0 at h
 split at h
 ·rename_i xs e;exact ⟨xs,e,h⟩
 ·exact h.elim
def pj {α:Type}{ρ:Ae}{H:Hp}{st:ae}{n:Nat}{k:List Str->List PV->Res α}{good:List Addr->Hp->α->ae->Prop}(h:Out K mg ρ H (yY st n k) good Er):∃ks xs,st[n]?=some (.dic ks xs)/\Out K mg ρ H (k ks xs) good Er:=by
 unfold yY at h
 split at h
 ·rename_i ks xs e;exact ⟨ks,xs,e,h⟩
 ·exact h.elim
def tR {α:Type}{ρ:Ae}{H:Hp}{st:ae}{n:Nat}{k:Str->List Str->List PV->Res α}{good:List Addr->Hp->α->ae->Prop}(h:Out K mg ρ H (jb st n k) good Er):∃c ks xs,st[n]?=some (.ins c ks xs)/\Out K mg ρ H (k c ks xs) good Er:=by
 unfold jb at h
 split at h
 ·rename_i c ks xs e;exact ⟨c,ks,xs,e,h⟩
 ·exact h.elim
def opI (C:Int->Int->Bool) (g:Int->Int->Int):Am
 | .int i,.int j,st=>if C i j=true then .ok (.int (g i j)) st else .stuck
 | _,_,_=>.stuck
def kO {C:Int->Int->Bool}{g:Int->Int->Int}{P:Int->Int->Prop}(hC:∀i j,C i j=true->P i j):d_ K mg (rI P λi j=>.int (g i j)) (opI C g):=by
 intro ρ H st x y v w Q E s rx ry h
 cases x with
 | int i =>
  cases y with
  | int j =>
   cases rx;cases ry
   obtain ⟨c,h⟩:=Out.ifp h
   exact ⟨i,j,rfl,rfl,hC i j c,h.now s _ rfl⟩
  | _=>exact h.elim
 | _=>exact h.elim
abbrev c0:Int->Int->Bool:=λ_ _=>true
def Eo {g:Int->Int->V}{f:Value->Value->Sem Value}(h:bf X f (j9 g)):bf X f (rI (λ_ _=>True) g):=λpins s U H x y v u Q I rx ry ⟨i,j,h1,h2,_,q⟩=>h pins s U H x y v u Q I rx ry ⟨i,j,h1,h2,q⟩
abbrev jQ:=opI c0 λi j=>i-j
abbrev e9:Int->Int->Bool:=λi j=>(decide (-(2 ^ 64)<i)&&decide (i<2 ^ 64))||(decide (-(2 ^ 64)<j)&&decide (j<2 ^ 64))
abbrev tS:=opI e9 λi j=>i*j
abbrev iw:Int->Int->Bool:=λi j=>decide (0<=j)&&decide (j<=1000000)&&decide (i.natAbs<2 ^ 64)
abbrev y4:=opI iw λi j=>i ^ j.toNat
abbrev pz:Int->Int->Bool:=λ_ j=>decide (j≠0)
def yw (i j:Int):Int:=if 0<j then i%j else i.fmod j
abbrev zH:=opI pz yw
abbrev pA:Int->Int->Bool:=λ_ j=>decide (j≠0)&&decide (j.natAbs<2 ^ 200)
def yK (i j:Int):Int:=if 0<j then i/j else i.fdiv j
abbrev yl:=opI pA yK
def Ep (i j:Int):yw i j=i.fmod j:=by
 unfold yw;split
 ·rename_i h;rw [Int.fmod_eq_emod_of_nonneg _ (by omega)]
 ·rfl
def Es (i j:Int):yK i j=i.fdiv j:=by
 unfold yK;split
 ·rename_i h;rw [Int.fdiv_eq_ediv_of_nonneg _ (by omega)]
 ·rfl
def zaJ:c6 X .Sub jQ:=⟨_,Eo BO,kO λ_ _ _=>trivial⟩
def Et:c6 X .Mult tS:=⟨_,BP,kO λi j h=>by simpa [e9,ic] using h⟩
def wz:c6 X .Pow y4:=⟨_,BR,kO λi j h=>by simp [iw] at h;exact ⟨h.1.1,h.1.2,h.2⟩⟩
def z5:c6 X .Mod zH:=⟨_,BQ,by
 have h:(λi j=>V.int (i.fmod j))=λi j=>V.int (yw i j):=by funext i j;rw [Ep]
 rw [h];exact kO λi j h=>by simpa [pz] using h⟩
def Eu {y:Int}(h:y.natAbs<2 ^ 200):y.natAbs.log2<9000:=by
 by_cases h0:y.natAbs=0
 ·rw [h0];decide
 ·have:=(Nat.log2_lt h0).mpr h
  omega
def Ew:bf X (binaryOp .FloorDiv) (rI (λ_ j=>j≠0/\j.natAbs<2 ^ 200) λi j=>.int (i.fdiv j)):=L2.opI λ_ _ _ _ _ _ _ hc q=>PyProof.Rows.floordiv_int hc.1 q (.inl (PyProof.noPylong_of_log2 (Eu hc.2)))
def yV:c6 X .FloorDiv yl:=⟨_,Ew,by
 have h:(λi j=>V.int (i.fdiv j))=λi j=>V.int (yK i j):=by funext i j;rw [Es]
 rw [h];exact kO λi j h=>by simpa [pA] using h⟩
def z8:Am
 | .int i,.int j,st=>.ok (.int (i+j)) st
 | .str x,.str y,st=>if x.length+y.length<=lim then .ok (.str (x++y)) st else .stuck
 | .tup xs,.tup ys,st=>if xs.length+ys.length<=lim then .ok (.tup (xs++ys)) st else .stuck
 | .ref n,.ref m,st=>z0 st n λxs=>z0 st m λys=>if xs.length+ys.length<=lim then .ok (.ref st.length) (st++[.lst (xs++ys)]) else .stuck
 | _,_,_=>.stuck
def Ex (K:Frag):R2:=λx y H Q=>∃a b ys,x=.ref a/\y=.ref b/\bt K H a []/\bt K H b ys/\Q (.ref b) H
def Ey:bf X (binaryOp .Add) (Ex X.K):=by
 intro pins s U H x y v u Q I rx ry h
 obtain ⟨a,b,ys,rfl,rfl,h1,h2,q⟩:=h
 cases rx;cases ry
 obtain ⟨i1,r1,p1,_⟩:=I.tuple h1
 obtain ⟨i2,r2,p2,_⟩:=I.tuple h2
 cases r1
 exact HT.cat_tup0 p1 p2 ⟨.ref b,H,I,rfl,q⟩
def yQ:c6 X .Add z8:=⟨_,BN.or (B2.or (Ey.or (CU.or Di))),by
 intro ρ H st x y v w Q E s rx ry h
 cases x with
 | int i =>
  cases y with
  | int j=>cases rx;cases ry;exact .inl ⟨i,j,rfl,rfl,Out.now (x:=PV.int (i+j)) h s _ rfl⟩
  | _=>exact h.elim
 | str i =>
  cases y with
  | str j =>
   cases rx;cases ry
   obtain ⟨c,h⟩:=Out.ifp h
   exact .inr (.inl ⟨i,j,rfl,rfl,yJ c,h.now s _ rfl⟩)
  | _=>exact h.elim
 | tup xs =>
  cases y with
  | tup ys =>
   obtain ⟨p,vs,rfl,h1,h2⟩:=rx
   obtain ⟨q,ws,rfl,h3,h4⟩:=ry
   obtain ⟨c,h⟩:=Out.ifp h
   cases xs with
   | nil =>
    cases h2
    exact .inr (.inr (.inl ⟨p,q,ws,rfl,rfl,h1,h3,h.now s _ ⟨q,ws,rfl,h3,h4⟩⟩))
   | cons x0 xs0 =>
    refine .inr (.inr (.inr (.inl ⟨p,q,vs,ws,rfl,rfl,h1,h3,?_,?_,λe=>?_,λ_ l hl=>?_⟩)))
    ·obtain ⟨v0,r0,e0,_⟩:=h2;rw [e0];simp
    ·rw [<-h2.len,<-h4.len];exact yJ c
    ·subst e
     have:ys=[]:=by have:=h4.len;simpa using this
     subst this
     exact h.now s _ ⟨p,vs,rfl,h1,by simpa using h2⟩
    ·exact h ρ _ (Ext.new hl) (s.new hl) _ (R.tup_of (h2.append h4) hl)
  | _=>exact h.elim
 | ref n =>
  cases y with
  | ref m =>
   obtain ⟨p,rfl,hp⟩:=rx
   obtain ⟨q,rfl,hq⟩:=ry
   obtain ⟨xs,e1,h⟩:=yO h
   obtain ⟨ys,e2,h⟩:=yO h
   obtain ⟨c,h⟩:=Out.ifp h
   obtain ⟨vs,h1,h2⟩:=s.addr e1 hp
   obtain ⟨ws,h3,h4⟩:=s.addr e2 hq
   exact .inr (.inr (.inr (.inr ⟨p,q,vs,ws,rfl,rfl,h1,h3,by rw [<-h2.len,<-h4.len];exact yJ c,λl hl=>Out.newList h s (h2.append h4) hl⟩)))
  | _=>exact h.elim
 | _=>exact h.elim⟩
def kP (g:Int->Int->Bool):Am
 | .int i,.int j,st=>.ok (.bl (g i j)) st
 | _,_,_=>.stuck
def pB {g:Int->Int->Bool}:d_ K mg (j9 λi j=>.bl (g i j)) (kP g):=by
 intro ρ H st x y v w Q E s rx ry h
 cases x with
 | int i =>
  cases y with
  | int j=>cases rx;cases ry;exact ⟨i,j,rfl,rfl,Out.now (x:=PV.bl (g i j)) h s _ rfl⟩
  | _=>exact h.elim
 | _=>exact h.elim
abbrev oLt:=kP λi j=>decide (i<j)
abbrev wb:=kP λi j=>decide (i<=j)
abbrev wQ:=kP λi j=>decide (j<i)
def zez:bK X .Lt oLt:=⟨_,BS,pB⟩
def zct:bK X .LtE wb:=⟨_,BU,pB⟩
def zcu:bK X .Gt wQ:=⟨_,BV,pB⟩
def c7:PV->Bool
 | .non=>true
 | _=>false
def tT:Am
 | x,.non,st=>.ok (.bl (c7 x)) st
 | _,_,_=>.stuck
def tU:Am
 | x,.non,st=>.ok (.bl (!c7 x)) st
 | _,_,_=>.stuck
def tV {ρ:Ae}{H:Hp}{x:PV}{v:V}(r:R K mg ρ H x v):decide (v=.non)=c7 x:=by
 cases x with
 | non=>cases r;rfl
 | bl _=>cases r;rfl
 | int _=>cases r;rfl
 | str _=>cases r;rfl
 | ty _=>cases r;rfl
 | tup _=>obtain ⟨_,_,rfl,_⟩:=r;rfl
 | frl _=>obtain ⟨_,_,rfl,_⟩:=r;rfl
 | ref _=>obtain ⟨_,rfl,_⟩:=r;rfl
 | fn _=>obtain ⟨_,rfl,_⟩:=r;rfl
 | kd _ _=>obtain ⟨_,_,_,rfl,_⟩:=r;rfl
 | exo _ _ _=>obtain ⟨_,_,_,_,rfl,_⟩:=r;rfl
def Ez:bK X .Is tT:=⟨_,BX,by
 intro ρ H st x y v w Q E s rx ry h
 cases y with
 | non=>cases ry;exact ⟨rfl,by rw [tV rx];exact Out.now (x:=PV.bl (c7 x)) h s _ rfl⟩
 | _=>exact h.elim⟩
def EA:bK X .IsNot tU:=⟨_,BZ,by
 intro ρ H st x y v w Q E s rx ry h
 cases y with
 | non=>cases ry;exact ⟨rfl,by rw [tV rx];exact Out.now (x:=PV.bl (!c7 x)) h s _ rfl⟩
 | _=>exact h.elim⟩
def pD {ρ:Ae}{H:Hp}{xs:An}{vs:List V}{i:Int}{x:PV}(r:Rs K mg ρ H xs vs) (h:cb xs i=some x):∃v,cb vs i=some v/\R K mg ρ H x v:=by
 unfold cb at h ⊢
 rw [<-r.len]
 cases hj:gg xs.length i with
 | none=>rw [hj] at h;cases h
 | some j =>
  rw [hj] at h
  obtain ⟨v,h1,h2⟩:=r.get (show xs[j]?=some x from h)
  exact ⟨v,h1,h2⟩
def br:Option PV->Mo PV
 | some x,st=>.ok x st
 | none,_=>.stuck
def pE:Am
 | .tup xs,.int i,st=>br (cb xs i) st
 | .frl xs,.int i,st=>br (cb xs i) st
 | .str z,.int i,st=>if z.length<=lim then br ((cb z.cps.toList i).map λc=>.str ⟨#[c]⟩) st else .stuck
 | .ref n,.int i,st=>z0 st n λxs=>br (cb xs i) st
 | _,_,_=>.stuck
def wc {ρ:Ae}{H:Hp}{o:Ao}{st:ae}{good}(h:Out K mg ρ H (br o st) good Er):∃x,o=some x/\Out K mg ρ H (.ok x st) good Er:=by
 cases o with
 | some x=>exact ⟨x,rfl,h⟩
 | none=>exact h.elim
def EB:iu X pE:=⟨_,C0,by
 intro ρ H st x y v w Q E s rx ry h
 cases x with
 | tup xs =>
  cases y with
  | int i =>
   cases ry
   obtain ⟨p,vs,rfl,h1,h2⟩:=rx
   obtain ⟨x,e,h⟩:=wc h
   obtain ⟨v,h3,h4⟩:=pD h2 e
   exact .inr (.inl ⟨p,vs,i,v,rfl,rfl,h1,h3,h.now s _ h4⟩)
  | _=>exact h.elim
 | frl xs =>
  cases y with
  | int i =>
   cases ry
   obtain ⟨p,vs,rfl,h1,h2⟩:=rx
   obtain ⟨x,e,h⟩:=wc h
   obtain ⟨v,h3,h4⟩:=pD h2 e
   exact .inl ⟨p,vs,i,v,rfl,rfl,h1.sq,h3,h.now s _ h4⟩
  | _=>exact h.elim
 | str z =>
  cases y with
  | int i =>
   cases ry;cases rx
   obtain ⟨c,h⟩:=Out.ifp h
   obtain ⟨x,e,h⟩:=wc h
   cases hc:cb z.cps.toList i with
   | none=>rw [hc] at e;cases e
   | some k =>
    rw [hc] at e
    cases e
    exact .inr (.inr ⟨z,i,k,rfl,rfl,yJ c,hc,h.now s _ rfl⟩)
  | _=>exact h.elim
 | ref n =>
  cases y with
  | int i =>
   cases ry
   obtain ⟨p,rfl,hp⟩:=rx
   obtain ⟨xs,e1,h⟩:=yO h
   obtain ⟨vs,h1,h2⟩:=s.addr e1 hp
   obtain ⟨x,e,h⟩:=wc h
   obtain ⟨v,h3,h4⟩:=pD h2 e
   exact .inl ⟨p,vs,i,v,rfl,rfl,a3.of h1,h3,h.now s _ h4⟩
  | _=>exact h.elim
 | _=>exact h.elim⟩
end
mutual
def plain:PV->Bool
 | .non=>true
 | .bl _=>true
 | .int _=>true
 | .str _=>true
 | .tup xs=>bo xs
 | _=>false
def bo:List PV->Bool
 | []=>true
 | x::xs=>plain x&&bo xs
end
mutual
def dep:PV->Nat
 | .tup xs=>cU xs+1
 | _=>0
def cU:List PV->Nat
 | []=>0
 | x::xs=>max (dep x) (cU xs)
end
mutual
def bg:PV->PV->Bool
 | .non,.non=>true
 | .bl a,.bl b=>a==b
 | .bl a,.int b=>(if a then 1 else 0)==b
 | .int a,.bl b=>a==(if b then 1 else 0)
 | .int a,.int b=>a==b
 | .str a,.str b=>a==b
 | .tup xs,.tup ys=>d5 xs ys
 | _,_=>false
def d5:List PV->List PV->Bool
 | [],[]=>true
 | x::xs,y::ys=>bg x y&&d5 xs ys
 | _,_=>false
end
section
variable {X:Cx}{Er:XK}{K:Frag}{mg:Ab}{ρ:Ae}{pins:Ac}{U:L2.St}{H:Hp}{s:Shared}
mutual
def tW (I:Inv X pins U H s):∀(x y:PV) {v:V},plain x=true->plain y=true->R X.K mg ρ H x v->R X.K mg ρ H y v->bg x y=true
 | .non,y,v,_,py,rx,ry=>by
  cases rx
  cases y with
  | non=>rfl
  | tup ys=>obtain ⟨_,_,e,_⟩:=ry;cases e
  | bl _=>cases ry
  | int _=>cases ry
  | str _=>cases ry
  | _=>cases py
 | .bl a,y,v,_,py,rx,ry=>by
  cases rx
  cases y with
  | bl b=>cases ry;simp [bg]
  | tup ys=>obtain ⟨_,_,e,_⟩:=ry;cases e
  | non=>cases ry
  | int _=>cases ry
  | str _=>cases ry
  | _=>cases py
 | .int a,y,v,_,py,rx,ry=>by
  cases rx
  cases y with
  | int b=>cases ry;simp [bg]
  | tup ys=>obtain ⟨_,_,e,_⟩:=ry;cases e
  | non=>cases ry
  | bl _=>cases ry
  | str _=>cases ry
  | _=>cases py
 | .str a,y,v,_,py,rx,ry=>by
  cases rx
  cases y with
  | str b=>cases ry;simp [bg]
  | tup ys=>obtain ⟨_,_,e,_⟩:=ry;cases e
  | non=>cases ry
  | bl _=>cases ry
  | int _=>cases ry
  | _=>cases py
 | .tup xs,y,v,px,py,rx,ry=>by
  obtain ⟨a,vs,rfl,h1,h2⟩:=rx
  cases y with
  | tup ys =>
   obtain ⟨b,ws,e,h3,h4⟩:=ry
   cases e
   have:=I.tuple_inj h1 h3
   subst this
   exact gu I xs ys px py h2 h4
  | non=>cases ry
  | bl _=>cases ry
  | int _=>cases ry
  | str _=>cases ry
  | _=>cases py
 | .ty _,_,_,px,_,_,_=>by cases px
 | .frl _,_,_,px,_,_,_=>by cases px
 | .ref _,_,_,px,_,_,_=>by cases px
 | .fn _,_,_,px,_,_,_=>by cases px
 | .kd _ _,_,_,px,_,_,_=>by cases px
 | .exo _ _ _,_,_,px,_,_,_=>by cases px
def gu (I:Inv X pins U H s):∀(xs ys:An) {vs:List V},bo xs=true->bo ys=true->Rs X.K mg ρ H xs vs->Rs X.K mg ρ H ys vs->d5 xs ys=true
 | [],ys,vs,_,py,rx,ry=>by
  cases rx
  cases ys with
  | nil=>rfl
  | cons y ys=>obtain ⟨_,_,e,_⟩:=ry;cases e
 | x::xs,ys,vs,px,py,rx,ry=>by
  obtain ⟨v,r,rfl,h1,h2⟩:=rx
  cases ys with
  | nil=>cases ry
  | cons y ys =>
   obtain ⟨v',r',e,h3,h4⟩:=ry
   cases e
   simp only [bo,j0] at px py
   simp only [d5,j0]
   exact ⟨tW I x y px.1 py.1 h1 h3,gu I xs ys px.2 py.2 h2 h4⟩
end
def dM (xs ys:An) (j:Nat):Bool:=match xs[j]?,ys[j]? with
 | some x,some y=>bg x y
 | _,_=>true
def tX:∀(xs ys:An),((List.range (min xs.length ys.length)).all (dM xs ys)&&xs.length==ys.length)=d5 xs ys
 | [],[]=>rfl
 | [],y::ys=>by simp [d5]
 | x::xs,[]=>by simp [d5]
 | x::xs,y::ys=>by
  have ih:=tX xs ys
  have e1:min (x::xs).length (y::ys).length=min xs.length ys.length+1:=by simp only [jx];omega
  have e2:((x::xs).length==(y::ys).length)=(xs.length==ys.length):=by
   rw [Bool.eq_iff_iff];simp
  rw [e1,e2,List.range_succ_eq_map,List.all_cons,List.all_map]
  have e3:(dM (x::xs) (y::ys)∘Nat.succ)=dM xs ys:=by
   funext j
   simp [dM]
  rw [e3,Bool.and_assoc,ih]
  simp [d5,dM]
def pF:∀{xs:An}{i:Nat}{x:PV},xs[i]?=some x->dep x<=cU xs
 | [],_,_,e=>by simp at e
 | y::xs,0,x,e=>by simp at e;subst e;simp only [cU];omega
 | y::xs,i+1,x,e=>by
  simp at e
  have:=pF e
  simp only [cU];omega
def mL:∀{xs:An}{i:Nat}{x:PV},bo xs=true->xs[i]?=some x->plain x=true
 | [],_,_,_,e=>by simp at e
 | y::xs,0,x,p,e=>by simp at e;subst e;simp only [bo,j0] at p;exact p.1
 | y::xs,i+1,x,p,e=>by
  simp at e
  simp only [bo,j0] at p
  exact mL p.2 e
def mM (A:Around):A.in1.units=A.units+1:=rfl
def pG (I:Inv X pins U H s):∀(n:Nat) (x y:PV) {v w:V}{u u':Value}(A:Around),dep x<=n->plain x=true->plain y=true->R X.K mg ρ H x v->R X.K mg ρ H y w->RelV v u->RelV w u'->A.units+n<cLine ->
  SeqAt.EqAt A s u u' (bg x y)/\SeqAt.RcAt A s u u' (bg x y)/\SeqAt.RcNeAt A s u u' (!bg x y):=by
 intro n
 induction n with
 | zero =>
  intro x y v w u u' A hd px py rx ry rv rw hu
  cases x with
  | tup xs=>simp only [dep] at hd;omega
  | non =>
   cases rx;cases rv
   cases y with
   | non=>cases ry;cases rw;exact ⟨.same _,.none_none,.none_none⟩
   | bl b=>cases ry;cases rw;exact ⟨.none_bool b,.none_bool b,.none_bool b⟩
   | int b=>cases ry;obtain ⟨t,rfl⟩:=rw;exact ⟨.none_int b t,.none_int b t,.none_int b t⟩
   | str b=>cases ry;obtain ⟨t,rfl⟩:=rw;exact ⟨.none_str b t,.none_str b t,.none_str b t⟩
   | tup ys =>
    obtain ⟨p,ws,rfl,h1,h2⟩:=ry
    cases rw
    obtain ⟨its,_,pl,_⟩:=I.tuple h1
    exact ⟨.none_tuple pl (by omega),.none_tuple pl (by omega),.none_tuple pl (by omega)⟩
   | _=>cases py
  | bl a =>
   cases rx;cases rv
   cases y with
   | non=>cases ry;cases rw;exact ⟨.bool_none a,.bool_none a,.bool_none a⟩
   | bl b=>cases ry;cases rw;exact ⟨.bool_bool a b,.bool_bool a b,.bool_bool a b⟩
   | int b=>cases ry;obtain ⟨t,rfl⟩:=rw;exact ⟨.bool_int a b t,.bool_int a b t,.bool_int a b t⟩
   | str b=>cases ry;obtain ⟨t,rfl⟩:=rw;exact ⟨.bool_str a b t,.bool_str a b t,.bool_str a b t⟩
   | tup ys =>
    obtain ⟨p,ws,rfl,h1,h2⟩:=ry
    cases rw
    obtain ⟨its,_,pl,_⟩:=I.tuple h1
    exact ⟨.bool_tuple a pl (by omega),.bool_tuple a pl (by omega),.bool_tuple a pl (by omega)⟩
   | _=>cases py
  | int a =>
   cases rx;obtain ⟨t0,rfl⟩:=rv
   cases y with
   | non=>cases ry;cases rw;exact ⟨.int_none a t0,.int_none a t0,.int_none a t0⟩
   | bl b=>cases ry;cases rw;exact ⟨.int_bool a t0 b,.int_bool a t0 b,.int_bool a t0 b⟩
   | int b=>cases ry;obtain ⟨t,rfl⟩:=rw;exact ⟨.int_int a t0 b t,.int_int a t0 b t,.int_int a t0 b t⟩
   | str b=>cases ry;obtain ⟨t,rfl⟩:=rw;exact ⟨.int_str a t0 b t,.int_str a t0 b t,.int_str a t0 b t⟩
   | tup ys =>
    obtain ⟨p,ws,rfl,h1,h2⟩:=ry
    cases rw
    obtain ⟨its,_,pl,_⟩:=I.tuple h1
    exact ⟨.int_tuple a t0 pl (by omega),.int_tuple a t0 pl (by omega),.int_tuple a t0 pl (by omega)⟩
   | _=>cases py
  | str a =>
   cases rx;obtain ⟨t0,rfl⟩:=rv
   cases y with
   | non=>cases ry;cases rw;exact ⟨.str_none a t0,.str_none a t0,.str_none a t0⟩
   | bl b=>cases ry;cases rw;exact ⟨.str_bool a t0 b,.str_bool a t0 b,.str_bool a t0 b⟩
   | int b=>cases ry;obtain ⟨t,rfl⟩:=rw;exact ⟨.str_int a t0 b t,.str_int a t0 b t,.str_int a t0 b t⟩
   | str b=>cases ry;obtain ⟨t,rfl⟩:=rw;exact ⟨.str_str a t0 b t,.str_str a t0 b t,.str_str a t0 b t⟩
   | tup ys =>
    obtain ⟨p,ws,rfl,h1,h2⟩:=ry
    cases rw
    obtain ⟨its,_,pl,_⟩:=I.tuple h1
    exact ⟨.str_tuple a t0 pl (by omega),.str_tuple a t0 pl (by omega),.str_tuple a t0 pl (by omega)⟩
   | _=>cases py
  | _=>cases px
 | succ n ih =>
  intro x y v w u u' A hd px py rx ry rv rw hu
  cases x with
  | tup xs =>
   obtain ⟨a,vs,rfl,h1,h2⟩:=id rx
   cases rv
   obtain ⟨its,r1,p1,_⟩:=I.tuple h1
   cases y with
   | non=>cases ry;cases rw;exact ⟨.tuple_none p1 (by omega),.tuple_none p1 (by omega),.tuple_none p1 (by omega)⟩
   | bl b=>cases ry;cases rw;exact ⟨.tuple_bool b p1 (by omega),.tuple_bool b p1 (by omega),.tuple_bool b p1 (by omega)⟩
   | int b=>cases ry;obtain ⟨t,rfl⟩:=rw;exact ⟨.tuple_int b t p1 (by omega),.tuple_int b t p1 (by omega),.tuple_int b t p1 (by omega)⟩
   | str b=>cases ry;obtain ⟨t,rfl⟩:=rw;exact ⟨.tuple_str b t p1 (by omega),.tuple_str b t p1 (by omega),.tuple_str b t p1 (by omega)⟩
   | tup ys =>
    obtain ⟨b,ws,rfl,h3,h4⟩:=id ry
    cases rw
    obtain ⟨aQ,r2,p2,_⟩:=I.tuple h3
    have l1:=h2.len
    have l2:=h4.len
    have l3:=r1.length
    have l4:=r2.length
    have item:∀j (g1:j<its.toArray.size) (g2:j<aQ.toArray.size),SeqAt.EqAt A.in1 s its.toArray[j] aQ.toArray[j] (dM xs ys j):=λj g1 g2=>by
     have k1:j<xs.length:=by rw [l1,l3];simpa using g1
     have k2:j<ys.length:=by rw [l2,l4];simpa using g2
     obtain ⟨v1,e1,pH⟩:=h2.get (zK k1)
     obtain ⟨v2,e2,pI⟩:=h4.get (zK k2)
     obtain ⟨u1,f1,pJ⟩:=r1.get e1
     obtain ⟨u2,f2,pK⟩:=r2.get e2
     have w1:its.toArray[j]=u1:=by
      obtain ⟨_,z⟩:=yf.mp f1
      simpa using z
     have w2:aQ.toArray[j]=u2:=by
      obtain ⟨_,z⟩:=yf.mp f2
      simpa using z
     have ej:dM xs ys j=bg xs[j] ys[j]:=by
      unfold dM
      rw [zK k1,zK k2]
     rw [w1,w2,ej]
     have KG:=pF (zK k1)
     simp only [dep] at hd
     exact (ih xs[j] ys[j] A.in1 (by omega) (mL px (zK k1)) (mL py (zK k2)) pH pI pJ pK (by rw [mM];omega)).1
    have n6:((List.range (min its.toArray.size aQ.toArray.size)).all (dM xs ys)&&its.toArray.size==aQ.toArray.size)=bg (.tup xs) (.tup ys):=by
     have e:=tX xs ys
     rw [l1,l2,l3,l4] at e
     simpa [bg] using e
    have rc:SeqAt.RcAt A s (.ref a) (.ref b) (bg (.tup xs) (.tup ys)):=by
     rw [<-n6]
     exact SeqAt.RcAt.tuples (show s.heap.IsTuple a its.toArray from p1) (show s.heap.IsTuple b aQ.toArray from p2) (by omega) item
    refine ⟨?_,rc,?_⟩
    ·by_cases dk:a=b
     ·subst dk
      rw [tW I (.tup xs) (.tup ys) px py rx ry]
      exact .same _
     ·exact .of_refs dk rc
    ·rw [<-n6]
     exact SeqAt.RcNeAt.tuples (show s.heap.IsTuple a its.toArray from p1) (show s.heap.IsTuple b aQ.toArray from p2) (by omega) item
   | _=>cases py
  | non=>exact ih _ y A (yX _) px py rx ry rv rw (by omega)
  | bl a=>exact ih _ y A (yX _) px py rx ry rv rw (by omega)
  | int a=>exact ih _ y A (yX _) px py rx ry rv rw (by omega)
  | str a=>exact ih _ y A (yX _) px py rx ry rv rw (by omega)
  | _=>cases px
def zQ:Am:=λx y st=>if plain x=true/\plain y=true/\dep x<=150 then .ok (.bl (bg x y)) st else .stuck
def wR:Am:=λx y st=>if plain x=true/\plain y=true/\dep x<=150 then .ok (.bl (!bg x y)) st else .stuck
def tY (K:Frag) (mg:Ab) (f:Bool->Bool):R2:=λv w H Q=>∃ρ x y,plain x=true/\plain y=true/\dep x<=150/\R K mg ρ H x v/\R K mg ρ H y w/\Q (.bl (f (bg x y))) H
def EC (hu:X.A.units+200<cLine):bf X (compareOp .Eq) (tY X.K X.mg id):=by
 intro pins s U H x y v u Q I rx ry h
 obtain ⟨ρ,a,b,pa,pb,hd,ra,rb,q⟩:=h
 exact PySem.EqBoolInt.of_rc (pG I 150 a b X.A hd pa pb ra rb rx ry (by omega)).2.1 ⟨.bl _,H,I,rfl,q⟩
def ED (hu:X.A.units+200<cLine):bf X (compareOp .NotEq) (tY X.K X.mg not):=by
 intro pins s U H x y v u Q I rx ry h
 obtain ⟨ρ,a,b,pa,pb,hd,ra,rb,q⟩:=h
 exact PySem.EqBoolInt.of_rcne (pG I 150 a b X.A hd pa pb ra rb rx ry (by omega)).2.2 ⟨.bl _,H,I,rfl,q⟩
def yF (hu:X.A.units+200<cLine):bK X .Eq zQ:=⟨_,EC hu,fun ρ H st x y v w Q E s rx ry h=>by
 obtain ⟨⟨p1,p2,p3⟩,h⟩:=Out.ifp h
 exact ⟨ρ,x,y,p1,p2,p3,rx,ry,h.now s _ rfl⟩⟩
def zeG (hu:X.A.units+200<cLine):bK X .NotEq wR:=⟨_,ED hu,fun ρ H st x y v w Q E s rx ry h=>by
 obtain ⟨⟨p1,p2,p3⟩,h⟩:=Out.ifp h
 exact ⟨ρ,x,y,p1,p2,p3,rx,ry,h.now s _ rfl⟩⟩
end
section
variable {X:Cx}{Er:XK}{K:Frag}{mg:Ab}{a b c e:Expr}{es:List Expr}{pos:Pos}{fa fb fc:Ai}{fs:Ah}
def EE (K:Frag) (mg:Ab) (Er:XK) (f:zc->Mo (Option Int)):TO:=λU H Q=>∃env st ρ,a7 K mg ρ H env U/\aY K mg ρ H st/\Out K mg ρ H (f env st) (λ_ H' o _=>Q o H') Er
def MO (X:Cx) (Er:XK) (e:Option Expr) (f:zc->Mo (Option Int)):Prop:=PO X e (EE X.K X.mg Er f)
def cP:zc->Mo (Option Int):=λ_ st=>.ok none st
def pL:PV->Mo (Option Int)
 | .int i,st=>.ok (some i) st
 | _,_=>.stuck
def bC (f:Ai):zc->Mo (Option Int):=λenv st=>(f env st).bind pL
def PO.weak {o:Option Expr}{t t':TO}(h:PO X o t) (w:∀U H Q,t' U H Q->t U H Q):PO X o t':=λpins s U H Q I q=>h pins s U H Q I (w U H Q q)
def zcz:MO X Er none cP:=PO.weak CL λU H Q ⟨env,st,ρ,re,rs,h⟩=>h.now rs
def zaK (h:ME X Er e fa):MO X Er (some e) (bC fa):=PO.weak (CM h) λU H Q ⟨env,st,ρ,re,rs,h⟩=>⟨env,st,ρ,re,rs,h.then λaf H1 x ao e1 s1 h1 v rv=>by
 cases x with
 | int i=>cases rv;exact ⟨i,rfl,Out.now (x:=some i) h1 s1⟩
 | _=>exact h1.elim⟩
def bS (xs:An) (lo hi:Option Int):An:=(xs.drop (HT.sIx xs.length 0 lo)).take (HT.sIx xs.length xs.length hi-HT.sIx xs.length 0 lo)
def kQ:PV->Option Int->Option Int->Mo PV
 | .tup xs,lo,hi,st=>.ok (.tup (bS xs lo hi)) st
 | .frl xs,lo,hi,st=>.ok (.ref st.length) (st++[.lst (bS xs lo hi)])
 | .ref n,lo,hi,st=>z0 st n λxs=>.ok (.ref st.length) (st++[.lst (bS xs lo hi)])
 | .str z,lo,hi,st=>if z.length<=lim then .ok (.str (Txt.slice z lo hi)) st else .stuck
 | _,_,_,_=>.stuck
def Rs.cut {ρ:Ae}{H:Hp}{xs:An}{vs:List V}(r:Rs K mg ρ H xs vs) (lo hi:Option Int):Rs K mg ρ H (bS xs lo hi) (dZ vs lo hi):=by
 unfold bS dZ
 rw [r.len]
 exact (r.drop _).take _
def EG (K:Frag):V->Option Int->Option Int->Hp->VK->Prop:=λx lo hi H Q=>∃a xs,x=.ref a/\bt K H a xs/\(HT.sIx xs.length 0 lo=0/\HT.sIx xs.length xs.length hi=xs.length)/\Q (.ref a) H
def EH:fJ X (EG X.K):=by
 intro pins s U H x v vl vu lo hi sl Q I rx hs pl pu h
 obtain ⟨a,xs,rfl,hx,hw,q⟩:=h
 cases rx
 obtain ⟨its,r,ht,hz⟩:=I.tuple hx
 have hlen:its.toArray.size=xs.length:=by rw [yr];exact r.length.symm
 refine ⟨"tuple", _,PyProof.Rows.slot_tuple_getitem.lookup,ht.typeIs,?_⟩
 exact HT.getItem_tuple_all ht hs pl pu (by rw [hlen];exact hw) ⟨.ref a,H,I,rfl,q⟩ (by rw [hlen];exact hz)
def jB (fa:Ai) (fl fu:zc->Mo (Option Int)):Ai:=λenv st=>(fa env st).bind λx ao=>(fl env ao).bind λl aA=>(fu env aA).bind λu a4=>kQ x l u a4
def EI {lo hi:Option Expr}{fl fu:zc->Mo (Option Int)}{p2:Pos}(ha:ME X Er a fa) (hl:MO X Er lo fl) (hu:MO X Er hi fu):ME X Er (.Subscript a (.Slice lo hi none p2) pos) (jB fa fl fu) :=
 PE.weak (CO (CQ.or (EH.or (C4.or Dv))) ha hl hu) λU H Q ⟨env,st,ρ,re,rs,h⟩=>⟨env,st,ρ,re,rs,h.then λaf H1 x ao e1 s1 h1 v rv=>⟨env,ao,af,re.ext e1,s1,h1.then λar H2 l aA e2 s2 h2 =>
  ⟨env,aA,ar,(re.ext e1).ext e2,s2,h2.then λak H3 u a4 e3 s3 h3=>by
  have rv:=R.ext e3 x (R.ext e2 x rv)
  cases x with
  | tup xs =>
   obtain ⟨p,vs,rfl,k1,k2⟩:=rv
   by_cases hw:HT.sIx vs.length 0 l=0/\HT.sIx vs.length vs.length u=vs.length
   ·refine .inr (.inl ⟨p,vs,rfl,k1,hw,Out.now (x:=PV.tup (bS xs l u)) h3 s3 _ ⟨p,vs,rfl,k1,?_⟩⟩)
    have:bS xs l u=xs:=by
     unfold bS
     rw [k2.len,hw.1,hw.2]
     simp [<-k2.len]
    rw [this];exact k2
   ·exact .inl ⟨p,vs,rfl,k1,hw,λq hq=>h3 ak _ (Ext.new hq) (s3.new hq) _ (R.tup_of (k2.cut l u) hq)⟩
  | frl xs =>
   obtain ⟨p,vs,rfl,k1,k2⟩:=rv
   exact .inr (.inr (.inl ⟨p,vs,rfl,k1.sq,λq hq=>Out.newList (xs:=bS xs l u) h3 s3 (k2.cut l u) hq⟩))
  | ref n =>
   obtain ⟨p,rfl,hp⟩:=rv
   obtain ⟨xs,k0,h3⟩:=yO h3
   obtain ⟨vs,k1,k2⟩:=s3.addr k0 hp
   exact .inr (.inr (.inl ⟨p,vs,rfl,a3.of k1,λq hq=>Out.newList (xs:=bS xs l u) h3 s3 (k2.cut l u) hq⟩))
  | str z =>
   cases rv
   obtain ⟨k0,h3⟩:=Out.ifp h3
   exact .inr (.inr (.inr ⟨z,rfl,yJ k0,h3.now s3 _ rfl⟩))
  | _=>exact h3.elim⟩⟩⟩
def pM (K:Frag) (mg:Ab) (r:List V->Hp->VK->Prop) (op:Al):Prop:=∀ρ H st xs vs (Q:VK) (E:XK),aY K mg ρ H st->Rs K mg ρ H xs vs->Out K mg ρ H (op xs st) (gV K mg Q) E->r vs H Q
def bT (X:Cx) (f:Value) (op:Al):Prop:=∃r,bj X f r/\pM X.K X.mg r op
def zu (op:Al) (fs:Ah):Ai:=λenv st=>(fs env st).bind op
def yG {x:Str} {id:String} {op:Al} {p:Pos} (h:bT X (.builtin id) op) (hm:X.mg x=none) (hv:bootBuiltins x=some (.builtin id)) (ha:MA X Er (e::es) fs) (hg:Gl X x:=by rfl) (hn:x ≠ "__name__" := by decide) (dw:(x==("__debug__" : Str))=false:=by decide)
  (he:starEach (e::es) X.env=(false,eval e X.env)::starEach es X.env:=by rfl) (bu:(backTo pos (starEach es X.env)).any (·.1)=false:=by rfl):ME X Er (.Call (.Name x p) (e::es) [] pos) (zu op fs):=by
 obtain ⟨r,h1,h2⟩:=h
 exact PE.weak (CA h1 hg hm hv ha hn dw he bu) λU H Q ⟨env,st,ρ,re,rs,h⟩=>⟨env,st,ρ,re,rs,h.then λaf H1 xs ao e1 s1 k vs rv=>h2 af H1 ao xs vs Q Er s1 rv k⟩
def wS {x:Str} {T:String} {op:Al} {p:Pos} (h:bT X (.type T) op) (hm:X.mg x=none) (hv:bootBuiltins x=some (.type T)) (ha:MA X Er (e::es) fs) (hg:Gl X x:=by rfl) (hn:x ≠ "__name__" := by decide) (dw:(x==("__debug__" : Str))=false:=by decide)
  (he:starEach (e::es) X.env=(false,eval e X.env)::starEach es X.env:=by rfl) (bu:(backTo pos (starEach es X.env)).any (·.1)=false:=by rfl):ME X Er (.Call (.Name x p) (e::es) [] pos) (zu op fs):=by
 obtain ⟨r,h1,h2⟩:=h
 exact PE.weak (CB h1 hg hm hv ha hn dw he bu) λU H Q ⟨env,st,ρ,re,rs,h⟩=>⟨env,st,ρ,re,rs,h.then λaf H1 xs ao e1 s1 k vs rv=>h2 af H1 ao xs vs Q Er s1 rv k⟩
def wT {x:Str} {n:String} (hm:X.mg x=none) (hv:bootBuiltins x=some (.type n)) (hg:Gl X x:=by rfl) (hn:x ≠ "__name__" := by decide) (hd:(x==("__debug__" : Str))=false:=by decide):ME X Er (.Name x pos) (mC (.ty n)) :=
 iP (A7 (v:=.ty n) hg hm hv rfl hn hd) λ_ _=>rfl
def Rs.one {ρ:Ae}{H:Hp}{x:PV}{vs:List V}(r:Rs K mg ρ H [x] vs):∃v,vs=[v]/\R K mg ρ H x v:=by
 obtain ⟨v,r',rfl,h,h'⟩:=r
 cases h'
 exact ⟨v,rfl,h⟩
def Rs.two {ρ:Ae}{H:Hp}{x y:PV}{vs:List V}(r:Rs K mg ρ H [x,y] vs):∃v w,vs=[v,w]/\R K mg ρ H x v/\R K mg ρ H y w:=by
 obtain ⟨v,r',rfl,h,h'⟩:=r
 obtain ⟨w,rfl,h2⟩:=Rs.one h'
 exact ⟨v,w,rfl,h,h2⟩
def mN:Al
 | [.tup xs],st=>.ok (.int xs.length) st
 | [.frl xs],st=>.ok (.int xs.length) st
 | [.str z],st=>if z.length<=lim then .ok (.int z.length) st else .stuck
 | [.ref n],st=>z0 st n λxs=>.ok (.int xs.length) st
 | _,_=>.stuck
def EJ:bT X (.builtin "len") mN:=⟨_,B5,fun ρ H st xs vs Q E s r h=>by
 match xs,r,h with
 | [.tup ys],r,h =>
  obtain ⟨v,rfl,p,ws,rfl,h1,h2⟩:=Rs.one r
  exact ⟨_,ws.length,rfl,.inr ⟨ws,h1,rfl⟩,by rw [<-h2.len];exact Out.now (x:=PV.int ys.length) h s _ rfl⟩
 | [.frl ys],r,h =>
  obtain ⟨v,rfl,p,ws,rfl,h1,h2⟩:=Rs.one r
  exact ⟨_,ws.length,rfl,.inl ⟨ws,h1.sq,rfl⟩,by rw [<-h2.len];exact Out.now (x:=PV.int ys.length) h s _ rfl⟩
 | [.str z],r,h =>
  obtain ⟨v,rfl,rfl⟩:=Rs.one r
  obtain ⟨c,h⟩:=Out.ifp h
  exact ⟨_,z.length,rfl,⟨yJ c,rfl⟩,h.now s _ rfl⟩
 | [.ref n],r,h =>
  obtain ⟨v,rfl,p,rfl,hp⟩:=Rs.one r
  obtain ⟨ys,e,h⟩:=yO h
  obtain ⟨ws,h1,h2⟩:=s.addr e hp
  exact ⟨_,ws.length,rfl,.inl ⟨ws,a3.of h1,rfl⟩,by rw [<-h2.len];exact h.now s _ rfl⟩
 | [],r,h=>exact h.elim
 | [.non],r,h=>exact h.elim
 | [.bl _],r,h=>exact h.elim
 | [.int _],r,h=>exact h.elim
 | [.ty _],r,h=>exact h.elim
 | [.fn _],r,h=>exact h.elim
 | [.kd _ _],r,h=>exact h.elim
 | [.exo _ _ _],r,h=>exact h.elim
 | x::y::r',r,h=>cases x<;>exact h.elim⟩
def mO:Al
 | [.tup xs],st=>.ok (.ref st.length) (st++[.lst xs])
 | [.frl xs],st=>.ok (.ref st.length) (st++[.lst xs])
 | [.ref n],st=>z0 st n λxs=>.ok (.ref st.length) (st++[.lst xs])
 | _,_=>.stuck
def EK:bT X (.type "list") mO:=⟨_,C5,fun ρ H st xs vs Q E s r h=>by
 match xs,r,h with
 | [.tup ys],r,h =>
  obtain ⟨v,rfl,p,ws,rfl,h1,h2⟩:=Rs.one r
  exact ⟨p,ws,rfl,.inr h1,λl hl=>Out.newList (xs:=ys) h s h2 hl⟩
 | [.frl ys],r,h =>
  obtain ⟨v,rfl,p,ws,rfl,h1,h2⟩:=Rs.one r
  exact ⟨p,ws,rfl,.inl h1.sq,λl hl=>Out.newList (xs:=ys) h s h2 hl⟩
 | [.ref n],r,h =>
  obtain ⟨v,rfl,p,rfl,hp⟩:=Rs.one r
  obtain ⟨ys,e,h⟩:=yO h
  obtain ⟨ws,h1,h2⟩:=s.addr e hp
  exact ⟨p,ws,rfl,.inl (a3.of h1),λl hl=>Out.newList (xs:=ys) h s h2 hl⟩
 | [],r,h=>exact h.elim
 | [.non],r,h=>exact h.elim
 | [.bl _],r,h=>exact h.elim
 | [.int _],r,h=>exact h.elim
 | [.str _],r,h=>exact h.elim
 | [.ty _],r,h=>exact h.elim
 | [.fn _],r,h=>exact h.elim
 | [.kd _ _],r,h=>exact h.elim
 | [.exo _ _ _],r,h=>exact h.elim
 | x::y::r',r,h=>cases x<;>exact h.elim⟩
def wA:Al
 | [.tup xs],st=>.ok (.tup xs) st
 | [.frl xs],st=>.ok (.tup xs) st
 | [.ref n],st=>z0 st n λxs=>.ok (.tup xs) st
 | _,_=>.stuck
def EL:bT X (.type "tuple") wA:=⟨_,C6,fun ρ H st xs vs Q E s r h=>by
 match xs,r,h with
 | [.tup ys],r,h =>
  obtain ⟨v,rfl,p,ws,rfl,h1,h2⟩:=Rs.one r
  exact ⟨p,ws,rfl,.inr ⟨h1,Out.now (x:=PV.tup ys) h s _ ⟨p,ws,rfl,h1,h2⟩⟩⟩
 | [.frl ys],r,h =>
  obtain ⟨v,rfl,p,ws,rfl,h1,h2⟩:=Rs.one r
  exact ⟨p,ws,rfl,.inl ⟨h1.sq,λl hl=>h ρ _ (Ext.new hl) (s.new hl) _ (R.tup_of h2 hl)⟩⟩
 | [.ref n],r,h =>
  obtain ⟨v,rfl,p,rfl,hp⟩:=Rs.one r
  obtain ⟨ys,e,h⟩:=yO h
  obtain ⟨ws,h1,h2⟩:=s.addr e hp
  exact ⟨p,ws,rfl,.inl ⟨a3.of h1,λl hl=>h ρ _ (Ext.new hl) (s.new hl) _ (R.tup_of h2 hl)⟩⟩
 | [],r,h=>exact h.elim
 | [.non],r,h=>exact h.elim
 | [.bl _],r,h=>exact h.elim
 | [.int _],r,h=>exact h.elim
 | [.str _],r,h=>exact h.elim
 | [.ty _],r,h=>exact h.elim
 | [.fn _],r,h=>exact h.elim
 | [.kd _ _],r,h=>exact h.elim
 | [.exo _ _ _],r,h=>exact h.elim
 | x::y::r',r,h=>cases x<;>exact h.elim⟩
def mP (T n:String):Option Bool :=
 if T = "int" then (if n = "int" then some true else if n = "bool" \/ n = "str" \/ n = "tuple" \/ n = "dict" \/ n = "list" then some false else none)
 else if T = "bool" then (if n = "int" \/ n = "bool" then some true else if n = "str" \/ n = "tuple" \/ n = "dict" \/ n = "list" then some false else none)
 else if T = "str" then (if n = "str" then some true else if n = "int" \/ n = "bool" \/ n = "tuple" \/ n = "dict" \/ n = "list" then some false else none)
 else if T = "tuple" then (if n = "tuple" then some true else if n = "int" \/ n = "bool" \/ n = "str" \/ n = "dict" \/ n = "list" then some false else none)
 else if T = "list" then (if n = "list" then some true else if n = "int" \/ n = "bool" \/ n = "str" \/ n = "dict" \/ n = "tuple" then some false else none)
 else if T = "dict" then (if n = "dict" then some true else if n = "int" \/ n = "bool" \/ n = "str" \/ n = "list" \/ n = "tuple" then some false else none)
 else if T = "NoneType" then (if n = "int" \/ n = "bool" \/ n = "str" \/ n = "list" \/ n = "tuple" \/ n = "dict" then some false else none)
 else none
def EM (K:Frag) {T n:String}{b:Bool}(h:mP T n=some b):PySem.W.kitOne K (.type T) (.type n)=some b:=by
 unfold mP at h
 split at h
 ·rename_i e;subst e
  split at h
  ·rename_i e;subst e;cases h;first|rfl|kernel_rfl
  ·split at h
   ·rename_i e;cases h;rcases e with e|e|e|e|e<;>subst e<;>first|rfl|kernel_rfl
   ·cases h
 ·split at h
  ·rename_i e;subst e
   split at h
   ·rename_i e;cases h;rcases e with e|e<;>subst e<;>first|rfl|kernel_rfl
   ·split at h
    ·rename_i e;cases h;rcases e with e|e|e|e<;>subst e<;>first|rfl|kernel_rfl
    ·cases h
  ·split at h
   ·rename_i e;subst e
    split at h
    ·rename_i e;subst e;cases h;first|rfl|kernel_rfl
    ·split at h
     ·rename_i e;cases h;rcases e with e|e|e|e|e<;>subst e<;>first|rfl|kernel_rfl
     ·cases h
   ·split at h
    ·rename_i e;subst e
     split at h
     ·rename_i e;subst e;cases h;first|rfl|kernel_rfl
     ·split at h
      ·rename_i e;cases h;rcases e with e|e|e|e|e<;>subst e<;>first|rfl|kernel_rfl
      ·cases h
    ·split at h
     ·rename_i e;subst e
      split at h
      ·rename_i e;subst e;cases h;first|rfl|kernel_rfl
      ·split at h
       ·rename_i e;cases h;rcases e with e|e|e|e|e<;>subst e<;>first|rfl|kernel_rfl
       ·cases h
     ·split at h
      ·rename_i e;subst e
       split at h
       ·rename_i e;subst e;cases h;first|rfl|kernel_rfl
       ·split at h
        ·rename_i e;cases h;rcases e with e|e|e|e|e<;>subst e<;>first|rfl|kernel_rfl
        ·cases h
      ·split at h
       ·rename_i e;subst e
        split at h
        ·rename_i e;cases h;rcases e with e|e|e|e|e|e<;>subst e<;>first|rfl|kernel_rfl
        ·cases h
       ·cases h
end
def fw (K:Frag) (mg:Ab) (m:Al):Sp:=λvs H Q E=>∃xs st ρ,Rs K mg ρ H xs vs/\aY K mg ρ H st/\Out K mg ρ H (m xs st) (gV K mg Q) E
section
variable (P:Program) (w:World) (K:Frag) (mg:Ab) (base:Heap)
def cq (x:Str) (k:Nat) (m:Al):Prop:=∃f fd ps,mg x=some (.ref f)/\keepIn K (.ref f)=true/\Binds K fd ps []/\a_ P w K mg base (bW P w) k f fd ps (fw K mg m)
def gQ (c name:Str) (k:Nat) (m:Al):Prop:=∃C f fd ps,mg c=some (.ref C)/\dG K C/\Meth K C name f/\Binds K fd ps []/\a_ P w K mg base (bW P w) k f fd ps (fw K mg m)
def pN (c:Str) (k:Nat) (m:Al):Prop:=∃C f fd ps,mg c=some (.ref C)/\Mk K C f/\Binds K fd ps []/\a_ P w K mg base (bW P w) k f fd ps (fw K mg m)
def EN (c fld:Str):Prop:=∃C f fd,mg c=some (.ref C)/\n5 K C f/\a_ P w K mg base (bW P w) 1 f fd ["self", fld] (DU C fld)/\Binds K fd ["self", fld] []
end
section
variable {X:Cx}{Er:XK}{K:Frag}{mg:Ab}{a b c e o:Expr}{es:List Expr}{pos p apos:Pos}{fa fb fc fo:Ai}{fs:Ah}{k:Nat}{x:Str}{m:Al}
def yP (C:cq X.prog X.w X.K X.mg X.base x k m) (hr:a5 k X.A) (ht:j2 X Er) (ha:MA X Er (e::es) fs) (hg:Gl X x:=by rfl) (dw:(x==("__debug__" : Str))=false:=by decide)
  (he:starEach (e::es) X.env=(false,eval e X.env)::starEach es X.env:=by rfl) (bu:(backTo pos (starEach es X.env)).any (·.1)=false:=by rfl):ME X Er (.Call (.Name x p) (e::es) [] pos) (zu m fs):=by
 obtain ⟨f,fd,ps,hm,hk,hb,F⟩:=C
 exact PE.weak (Cu F hr hg hm hk hb .nil (pd ht) ha dw he bu) λU H Q ⟨env,st,ρ,re,rs,h⟩=>⟨env,st,ρ,re,rs,h.then λaf H1 xs ao e1 s1 k vs rv=>by
  show fw X.K X.mg m (vs++[]) H1 Q Er
  rw [List.append_nil]
  exact ⟨xs,ao,af,rv,s1,k⟩⟩
def wB {ρ:Ae}{H:Hp}{f:Str}:∀{ks:Ad}{xs:An}{vs:List V}{x:PV},Rs K mg ρ H xs vs->(ks.zip xs).lookup f=some x->∃v,(ks.zip vs).lookup f=some v/\R K mg ρ H x v
 | [],_,_,_,_,h=>by simp at h
 | k::ks,[],_,_,_,h=>by simp at h
 | k::ks,y::xs,_,x,r,h=>by
  obtain ⟨v,r',rfl,h1,h2⟩:=r
  simp only [List.zip_cons_cons,jf] at h ⊢
  split at h
  ·cases h;exact ⟨v,rfl,h1⟩
  ·exact wB h2 h
def mQ {f:Str}{β:Type}:∀{ks:Ad}{vs:List β},f∉ks->(ks.zip vs).lookup f=none
 | [],_,_=>by simp
 | k::ks,[],_=>by simp
 | k::ks,v::vs,h=>by
  simp only [yv,not_or] at h
  simp only [List.zip_cons_cons,jf]
  have:(f==k)=false:=by simpa using h.1
  rw [this]
  exact mQ h.2
def EO (X:Cx) (name:Str) (k:Nat) (E:XK) (ta:TE) (t:TA):TE:=λU H Q=>ta U H λx H1=>∃a C dx fs f fd ps sp,x=.ref a/\H1 a=some (.ins C dx fs)/\fs.lookup name=none/\dG X.K C/\Meth X.K C name f/\Binds X.K fd ps []/\a_ X.prog X.w X.K X.mg X.base (bW X.prog X.w) k f fd ps sp /\
 t U H1 λvs H2=>sp (x::vs) H2 Q E
def ER {pl:Sem Bool}{name:Str}{ta:TE}{E:XK}(he:PE X o ta) (hr:a5 k X.A) (hx:Passes (bW X.prog X.w) X E)
  (ht:eval (.Call (.Attribute o name apos) [] [] pos) X.env=(do
   let ov <-eval o X.env
   standAt apos.atName
   let (f,first) <-holding [ov] (getMethod ov name pl)
   callWith pos f first (backTo pos (starEach [] X.env)) (backToKw pos (keywordEach [] X.env))):=by rfl) :
  PE X (.Call (.Attribute o name apos) [] [] pos) (EO X name k E ta rP):=by
 intro pins s U H Q I h
 refine PySem.W.methodCall_KW (pl:=pl) (aS (he pins s U H _ I h) λu s1 ⟨x,H1,I1,rx,a,C,dx,fs,f,fd,ps,sp,ex,ea,l,c,hm,hb,F,q⟩=>?_) ht
 subst ex
 obtain rfl:u=Value.ref a:=rx
 refine Cd I1 ea c hm l ?_
 exact PySem.W.callWith_K0 (first:=[.ref a]) I1.kIn hm.kp (rR (us:=[.ref a]) (vs:=[.ref a]) F hr hb .nil hx I1 (.cons rfl .nil) (by rw [List.append_nil];exact q))
def dN (name:Str) (tab:Str->Option (Al)) (o:PV) (st:ae) (k:Nat->(Al)->Res PV):Res PV:=match o with
 | .ref n=>jb st n λc ks _=>if name∈ks then .stuck else match tab c with
  | some m=>k n m
  | none=>.stuck
 | _=>.stuck
def mR (name:Str) (tab:Str->Option (Al)) (fo:Ai) (fs:Ah):Ai:=λenv st=>(fo env st).bind λo ao=>dN name tab o ao λn m=>(fs env ao).bind λys aA=>m (.ref n::ys) aA
def ES {name:Str}{tab:Str->Option (Al)}{o:PV}{st:ae}{kk:Nat->(Al)->Res PV}{ρ:Ae}{H:Hp}{good}(h:Out K mg ρ H (dN name tab o st kk) good Er) :
  ∃n c ks xs m,o=.ref n/\st[n]?=some (.ins c ks xs)/\name∉ks/\tab c=some m/\Out K mg ρ H (kk n m) good Er:=by
 cases o with
 | ref n =>
  obtain ⟨c,ks,xs,e,h⟩:=tR h
  split at h
  ·exact h.elim
  ·rename_i hn
   cases hc:tab c with
   | none=>rw [hc] at h;exact h.elim
   | some m=>rw [hc] at h;exact ⟨n,c,ks,xs,m,rfl,e,hn,hc,h⟩
 | _=>exact h.elim
def ET {pl:Sem Bool}{name:Str}{tab:Str->Option (Al)}(hT:∀c m,tab c=some m->gQ X.prog X.w X.K X.mg X.base c name k m) (ho:ME X Er o fo) (hr:a5 k X.A) (ht:j2 X Er)
  (EU:eval (.Call (.Attribute o name apos) [] [] pos) X.env=(do
   let ov <-eval o X.env
   standAt apos.atName
   let (f,first) <-holding [ov] (getMethod ov name pl)
   callWith pos f first (backTo pos (starEach [] X.env)) (backToKw pos (keywordEach [] X.env))):=by rfl) :
  ME X Er (.Call (.Attribute o name apos) [] [] pos) (mR name tab fo zn) :=
 PE.weak (ER (pl:=pl) ho hr (pd ht) EU) λU H Q ⟨env,st,ρ,re,rs,h⟩=>⟨env,st,ρ,re,rs,h.then λaf H1 x ao e1 s1 h1 v rv=>by
  obtain ⟨n,c,ks,xs,m,rfl,hn,hk,hc,h1⟩:=ES h1
  obtain ⟨C,f,fd,ps,hC,cl,hm,hb,F⟩:=hT c m hc
  obtain ⟨p,rfl,hp⟩:=rv
  obtain ⟨C',dx,vs,hC',hH,hR,hl⟩:=s1.addr hn hp
  rw [hC] at hC'
  cases hC'
  exact ⟨p,C,dx,_,f,fd,ps,_,rfl,hH,mQ hk,cl,hm,hb,F,⟨[.ref n],ao,af,⟨_,_,rfl,⟨p,rfl,hp⟩,rfl⟩,s1,h1⟩⟩⟩
def ix (c:Str) (m:Al) (ys:An):Mo PV:=λst=>(m (.ref st.length::ys) (st++[.ins c [] []])).bind λr aA=>if c7 r=true then .ok (.ref st.length) aA else .stuck
def EW {x:PV}(h:c7 x=true):x=.non:=by cases x<;>first|rfl|cases h
def EX {cn:Str}{C f:Addr}{ρ:Ae}{H:Hp}{st:ae}{ys:An}{vs:List V}{Q:VK}(hC:mg cn=some (.ref C)) (s:aY K mg ρ H st) (r:Rs K mg ρ H ys vs) (h:Out K mg ρ H (ix cn m ys st) (gV K mg Q) Er) :
  ∀x dx,H x=none->H dx=none->dx≠x->fw K mg m (.ref x::vs) (upd (upd H dx (.own x)) x (.ins C dx [])) (λv H2=>v=.non/\Q (.ref x) H2) Er:=λx dx hx mS ne=>by
 have tZ:upd H dx (.own x) x=none:=by rw [zF (y3 ne)];exact hx
 have s1:=s.new (o:=.own x) mS
 have e1:Ext ρ H ρ (upd H dx (.own x)):=Ext.new mS
 have e2:Ext ρ H (ρ++[x]) (upd (upd H dx (.own x)) x (.ins C dx [])):=e1.trans (Ext.push tZ)
 have s2:aY K mg (ρ++[x]) (upd (upd H dx (.own x)) x (.ins C dx [])) (st++[.ins cn [] []]):=s1.push tZ ⟨C,dx,[],hC,yx,rfl,rfl⟩
 have gx:(ρ++[x])[st.length]?=some x:=by rw [<-s.len];simp
 refine ⟨.ref st.length::ys,_,ρ++[x],⟨_,_,rfl,⟨x,rfl,gx⟩,Rs.ext e2 ys r⟩,s2,Out.then (Out.ext h e2) λak H3 r3 a4 e3 s3 h3 v rv=>?_⟩
 obtain ⟨hn,h3⟩:=Out.ifp h3
 obtain rfl:=EW hn
 exact ⟨rv,h3.now s3 _ ⟨x,rfl,e3.get gx⟩⟩
def EY {cn:Str} (C:pN X.prog X.w X.K X.mg X.base cn k m) (hr:a5 (k+1) X.A) (ht:j2 X Er) (ha:MA X Er (e::es) fs) (hg:Gl X cn:=by rfl) (dw:(cn==("__debug__" : Str))=false:=by decide)
  (he:starEach (e::es) X.env=(false,eval e X.env)::starEach es X.env:=by rfl) (bu:(backTo pos (starEach es X.env)).any (·.1)=false:=by rfl):ME X Er (.Call (.Name cn p) (e::es) [] pos) (zu (ix cn m) fs):=by
 obtain ⟨C,f,fd,ps,hm,M,hb,F⟩:=C
 exact PE.weak (Cy M F hr hg hm hb .nil (pd ht) ha dw he bu) λU H Q ⟨env,st,ρ,re,rs,h⟩=>⟨env,st,ρ,re,rs,h.then λaf H1 xs ao e1 s1 k vs rv x dx hx mS ne=>by
  rw [List.append_nil]
  exact EX (f:=f) hm s1 rv k x dx hx mS ne⟩
def gR (f:Str) (ins exc:Str->Bool):PV->Mo PV
 | .ref n,st=>jb st n λc ks xs=>if ins c=true then br ((ks.zip xs).lookup f) st else .stuck
 | .exo c ks xs,st=>if exc c=true then br ((ks.zip xs).lookup f) st else .stuck
 | _,_=>.stuck
structure FldF (K:Frag) (mg:Ab) (f:Str) (ins exc:Str->Bool):Prop where
 i:∀c,ins c=true->∃C,mg c=some (.ref C)/\dG K C/\cw K C f
 x:∀c,exc c=true->∃C,mg c=some (.ref C)/\fE K C/\hasDictIn K C=true/\findIn K (.ref C) f=some none
def EZ (K:Frag) (ta:TE) (f:Str):TE:=λU H Q=>ta U H λx H1=>(∃a C dx fs v,x=.ref a/\H1 a=some (.ins C dx fs)/\dG K C/\cw K C f/\fs.lookup f=some v/\Q v H1) \/
 ∃a C d fs v,x=.ref a/\H1 a=some (gr C (some d) a)/\H1 d=some (.xd fs)/\fE K C/\hasDictIn K C=true/\findIn K (.ref C) f=some none/\fs.lookup f=some v/\Q v H1
def E0 {f:Str}{ta:TE}(he:PE X e ta) (hb:attributeBase e f X.env (eval e X.env)=eval e X.env):PE X (.Attribute e f pos) (EZ X.K ta f):=by
 intro pins s U H Q I h
 refine Cf hb (aS (he pins s U H _ I h) λu s1 ⟨x,H1,I1,rx,h1⟩=>?_)
 rcases h1 with ⟨a,C,dx,fs,v,ex,ea,c,n,l,q⟩|⟨a,C,dx,fs,v,ex,ea,ed,g,hh,no,l,q⟩
 ·subst ex
  obtain rfl:u=Value.ref a:=rx
  exact Cc I1 ea c n l λu' s2 I2 ru=>⟨v,H1,I2,ru,q⟩
 ·subst ex
  obtain rfl:u=Value.ref a:=rx
  exact D9 I1 ea ed g hh no l λu' s2 I2 ru=>⟨v,H1,I2,ru,q⟩
def E9 {f:Str}{ins exc:Str->Bool}(F:FldF X.K X.mg f ins exc) (he:ME X Er e fa) (hb:attributeBase e f X.env (eval e X.env)=eval e X.env:=by rfl):ME X Er (.Attribute e f pos) (jz (gR f ins exc) fa) :=
 PE.weak (E0 he hb) λU H Q ⟨env,st,ρ,re,rs,h⟩=>⟨env,st,ρ,re,rs,h.then λaf H1 x ao e1 s1 h1 v rv=>by
  cases x with
  | ref n =>
   obtain ⟨c,ks,xs,hn,h1⟩:=tR h1
   obtain ⟨hc,h1⟩:=Out.ifp h1
   obtain ⟨y,hy,h1⟩:=wc h1
   obtain ⟨p,rfl,hp⟩:=rv
   obtain ⟨C',dx,vs,hC',hH,hR,hl⟩:=s1.addr hn hp
   obtain ⟨C,hC,cl,na⟩:=F.i c hc
   rw [hC] at hC'
   cases hC'
   obtain ⟨v,hv,rv⟩:=wB hR hy
   exact .inl ⟨p,_,dx,_,v,rfl,hH,cl,na,hv,h1.now s1 _ rv⟩
  | exo c ks xs =>
   obtain ⟨hc,h1⟩:=Out.ifp h1
   obtain ⟨y,hy,h1⟩:=wc h1
   obtain ⟨a,C',d,vs,rfl,hC',hH,hd,hR,hl⟩:=rv
   obtain ⟨C,hC,g,hh,no⟩:=F.x c hc
   rw [hC] at hC'
   cases hC'
   obtain ⟨v,hv,rv⟩:=wB hR hy
   exact .inr ⟨a,_,d,_,v,rfl,hH,hd,g,hh,no,hv,h1.now s1 _ rv⟩
  | _=>exact h1.elim⟩
def fS:Option SO->Option (String ⊕ (Bool×Str))
 | some (.lst _)=>some (.inl "list")
 | some (.dic _ _)=>some (.inl "dict")
 | some (.ins c _ _)=>some (.inr (false,c))
 | some (.fdi _ _)=>none
 | some (.dit _ _)=>none
 | none=>none
def gv (st:ae):PV->Option (String ⊕ (Bool×Str))
 | .non=>some (.inl "NoneType")
 | .bl _=>some (.inl "bool")
 | .int _=>some (.inl "int")
 | .str _=>some (.inl "str")
 | .tup _=>some (.inl "tuple")
 | .ref n=>fS st[n]?
 | .exo c _ _=>some (.inr (true,c))
 | _=>none
def fF (o:Option Bool):Mo PV:=λst=>match o with
 | some b=>.ok (.bl b) st
 | none=>.stuck
def mT {ρ:Ae}{H:Hp}{o:Option Bool}{st:ae}{good}(h:Out K mg ρ H (fF o st) good Er):∃b,o=some b/\Out K mg ρ H (.ok (.bl b) st) good Er:=by
 cases o with
 | some x=>exact ⟨x,rfl,h⟩
 | none=>exact h.elim
structure IsT where
 isx:Str->Bool
 sub:Str->Str->Option Bool
 subT:Str->String->Option Bool
 tyC:String->Str->Option Bool
def kR (t:IsT) (st:ae):PV->Option (String ⊕ (Bool×Str))->Mo PV
 | .ty n,some (.inl T),st=>fF (mP T n) st
 | .ty n,some (.inr (f,c)),st=>if t.isx c=f then fF (t.subT c n) st else .stuck
 | .fn B,some (.inl T),st=>fF (t.tyC T B) st
 | .fn B,some (.inr (f,c)),st=>if t.isx c=f then fF (t.sub c B) st else .stuck
 | _,_,_=>.stuck
def jk (t:IsT):Al
 | [x,y],st=>kR t st y (gv st x) st
 | _,_=>.stuck
structure n8 (K:Frag) (C:Addr):Prop where
 cl:dG K C
 ha:findIn K (.ref C) "__class__" = some (some (.builtin "object.__class__"))
 hn:specialIn K (.builtin "object.__class__") "__get__" = some (some (.builtin "getset_descriptor.__get__"))
 tk:takesIn K (.builtin "object.__class__")=some true
 hm:mroIn K C (.type "object")=some true
structure IsF (K:Frag) (mg:Ab) (t:IsT):Prop where
 s:∀c B b,t.sub c B=some b->∃C D,mg c=some (.ref C)/\mg B=some (.ref D)/\kitOne K (.ref C) (.ref D)=some b
 tt:∀c n b,t.subT c n=some b->∃C,mg c=some (.ref C)/\kitOne K (.ref C) (.type n)=some b
 u:∀T B b,t.tyC T B=some b->∃D,mg B=some (.ref D)/\kitOne K (.type T) (.ref D)=some b
 x:∀c C,t.isx c=true->mg c=some (.ref C)->((∃B b,t.sub c B=some b)\/∃n b,t.subT c n=some b)->iq K C
 i:∀c C,t.isx c=false->mg c=some (.ref C)->((∃B b,t.sub c B=some b)\/∃n b,t.subT c n=some b)->n8 K C
inductive gT (K:Frag) (H:Hp):V->Value->Prop where
 | of {v:V} {t:Value} (h:cH K H v t):gT K H v t
 | tup {a:Addr} {vs:List V} (h:bt K H a vs):gT K H (.ref a) (.type "tuple")
 | exc {a C d:Addr} {fs:List (Str×V)} (ha:H a=some (gr C (some d) a)) (hd:H d=some (.xd fs)) (k:iq K C):gT K H (.ref a) (.ref C)
def E_ {pins:Ac}{U:L2.St}{H:Hp}{s:Shared}{v:V}{u t c:Value}{b:Bool}{Q:Aa}{A:Around}{E:Aa}(I:Inv X pins U H s) (r:RelV v u) (ty:gT X.K H v t) (e:kitOne X.K t c=some b) (h:∀tk,Q (.bool b) { s with toks:=tk }) :
  wpAny (model X.prog X.w) A (call (.builtin "isinstance") [u,c]) Q E s:=by
 cases ty with
 | of ty=>exact Ci I r ty e h
 | @tup a vs hq =>
  obtain rfl:u=Value.ref a:=r
  obtain ⟨its,_,p,_⟩:=I.tuple hq
  obtain ⟨o,h1,h2,_⟩:=p
  exact PySem.W.kia_one PySem.W.kitx_tuple I.kIn ⟨o,h1,h2⟩ e (λz=>nomatch z) h
 | @exc a C d fs ha hd k =>
  obtain rfl:u=Value.ref a:=r
  exact D_ I ha hd k e h
def Fb:bj X (.builtin "isinstance") (λxs H Q=>∃v w t c b,xs=[v,w]/\gT X.K H v t/\RelV w c/\(∀c',RelV w c'->c'=c)/\kitOne X.K t c=some b/\Q (.bl b) H):=by
 intro pins s U H xs us Q I r h
 obtain ⟨v,w,t,c,b,rfl,ty,rw,un,e,q⟩:=h
 obtain ⟨u,w',rfl,ru,cY⟩:=rF r
 obtain rfl:=un w' cY
 exact E_ I ru ty e λtk=>⟨.bl b,H,I.tok _,rfl,q⟩
def t7 {ρ:Ae}{H:Hp}{st:ae}{x:PV}{v:V}{T:String}(s:aY K mg ρ H st) (r:R K mg ρ H x v) (h:gv st x=some (.inl T)):gT K H v (.type T):=by
 cases x with
 | non=>cases h;cases r;exact .of .non
 | bl b=>cases h;cases r;exact .of (.bl b)
 | int i=>cases h;cases r;exact .of (.int i)
 | str z=>cases h;cases r;exact .of (.str z)
 | tup xs=>cases h;obtain ⟨a,vs,rfl,h1,_⟩:=r;exact .tup h1
 | frl xs=>cases h
 | ref n =>
  obtain ⟨a,rfl,ha⟩:=r
  have h:fS st[n]?=some (.inl T):=h
  cases e:st[n]? with
  | none=>rw [e] at h;cases h
  | some so =>
   rw [e] at h
   cases so with
   | lst xs=>cases h;obtain ⟨vs,h1,_⟩:=s.addr e ha;exact .of (.lst h1)
   | dic ks xs=>cases h;obtain ⟨vs,h1,_⟩:=s.addr e ha;exact .of (.dK h1)
   | ins c ks xs=>cases h
   | fdi ks xs=>cases h
   | dit ks xs=>cases h
 | ty _=>cases h
 | fn _=>cases h
 | kd _ _=>cases h
 | exo _ _ _=>cases h
def t8 {ρ:Ae}{H:Hp}{st:ae}{x:PV}{v:V}{f:Bool}{c:Str}(hx:∀C,f=true->mg c=some (.ref C)->iq K C) (hi:∀C,f=false->mg c=some (.ref C)->n8 K C) (s:aY K mg ρ H st) (r:R K mg ρ H x v) (h:gv st x=some (.inr (f,c))):∃C,mg c=some (.ref C)/\gT K H v (.ref C):=by
 cases x with
 | ref n =>
  obtain ⟨a,rfl,ha⟩:=r
  have h:fS st[n]?=some (.inr (f,c)):=h
  cases e:st[n]? with
  | none=>rw [e] at h;cases h
  | some so =>
   rw [e] at h
   cases so with
   | lst xs=>cases h
   | dic ks xs=>cases h
   | fdi ks xs=>cases h
   | dit ks xs=>cases h
   | ins c' ks xs =>
    cases h
    obtain ⟨C,dx,vs,hC,hH,_⟩:=s.addr e ha
    have q:=hi C rfl hC
    exact ⟨C,hC,.of (.ins hH q.cl q.ha q.hn q.tk q.hm)⟩
 | exo c' ks xs =>
  cases h
  obtain ⟨a,C,d,vs,rfl,hC,hH,hd,_⟩:=r
  exact ⟨C,hC,.exc hH hd (hx C rfl hC)⟩
 | non=>cases h
 | bl _=>cases h
 | int _=>cases h
 | str _=>cases h
 | tup _=>cases h
 | frl _=>cases h
 | ty _=>cases h
 | fn _=>cases h
 | kd _ _=>cases h
def wU {t:IsT} (F:IsF X.K X.mg t):bT X (.builtin "isinstance") (jk t):=⟨_,Fb,fun ρ H st xs vs Q E s r h=>by
 match xs,r,h with
 | [x,y],r,h =>
  obtain ⟨v,w,rfl,rx,ry⟩:=Rs.two r
  have h:Out X.K X.mg ρ H (kR t st y (gv st x) st) (gV X.K X.mg Q) E:=h
  cases hc:gv st x with
  | none=>rw [hc] at h;cases y<;>exact h.elim
  | some cc =>
   rw [hc] at h
   cases cc with
   | inl T =>
    cases y with
    | ty n =>
     cases ry
     obtain ⟨b,hb,h⟩:=mT h
     exact ⟨v,_,_,_,b,rfl,t7 s rx hc,rfl,λc' h=>h,EM X.K hb,h.now s _ rfl⟩
    | fn B =>
     obtain ⟨D,rfl,hD⟩:=ry
     obtain ⟨b,hb,h⟩:=mT h
     obtain ⟨D',hD',k⟩:=F.u T B b hb
     rw [hD] at hD'
     cases hD'
     exact ⟨v,_,_,_,b,rfl,t7 s rx hc,rfl,λc' h=>h,k,h.now s _ rfl⟩
    | _=>exact h.elim
   | inr fc =>
    obtain ⟨f,c⟩:=fc
    cases y with
    | ty n =>
     cases ry
     obtain ⟨hf,h⟩:=Out.ifp h
     obtain ⟨b,hb,h⟩:=mT h
     obtain ⟨C,hC,k⟩:=F.tt c n b hb
     obtain ⟨C',hC',ty⟩:=t8 (λC e hC=>F.x c C (hf.trans e) hC (.inr ⟨n,b,hb⟩)) (λC e hC=>F.i c C (hf.trans e) hC (.inr ⟨n,b,hb⟩)) s rx hc
     rw [hC] at hC'
     cases hC'
     exact ⟨v,_,_,_,b,rfl,ty,rfl,λc' h=>h,k,h.now s _ rfl⟩
    | fn B =>
     obtain ⟨D,rfl,hD⟩:=ry
     obtain ⟨hf,h⟩:=Out.ifp h
     obtain ⟨b,hb,h⟩:=mT h
     obtain ⟨C,D',hC,hD',k⟩:=F.s c B b hb
     rw [hD] at hD'
     cases hD'
     obtain ⟨C',hC',ty⟩:=t8 (λC e hC=>F.x c C (hf.trans e) hC (.inl ⟨B,b,hb⟩)) (λC e hC=>F.i c C (hf.trans e) hC (.inl ⟨B,b,hb⟩)) s rx hc
     rw [hC] at hC'
     cases hC'
     exact ⟨v,_,_,_,b,rfl,ty,rfl,λc' h=>h,k,h.now s _ rfl⟩
    | _=>exact h.elim
 | [],r,h=>exact h.elim
 | [_],r,h=>exact h.elim
 | _::_::_::_,r,h=>exact h.elim⟩
end
section
variable {X:Cx}{Er:XK}{K:Frag}{mg:Ab}{a b c e o:Expr}{es:List Expr}{st:Stmt}{cL:List Stmt}{pos p apos pos':Pos}{fa fb fc fo:Ai}{fs:Ah}{k:Nat}{x:Str}{m:Al}
variable {g g' gb:Aj}{ga:Ak}
def Out.fl {ρ:Ae}{H:Hp}{st:ae}{D:Ends}{fl:Fl}{E:XK}(h:Out K mg ρ H (.ok fl st) (gS K mg D) E) (s:aY K mg ρ H st):gS K mg D ρ H fl st:=h.now s
def zW:Aj:=λenv st=>.ok (.nx env) st
def eB (g:Aj):Fl->Mo Fl
 | .nx env,st=>g env st
 | fl,st=>.ok fl st
def zA (g g':Aj):Aj:=λenv st=>(g env st).bind (eB g')
def yn:dz X Er [] zW:=bM.weak Bl λD U H ⟨env,st,ρ,re,rs,h⟩=>h.now rs U re
def zG (h1:MS X Er st g) (h2:dz X Er cL g'):dz X Er (st::cL) (zA g g') :=
 bM.weak (Bm h1 h2) λD U H ⟨env,st,ρ,re,rs,h⟩=>⟨env,st,ρ,re,rs,h.then λaf H1 fl ao e1 s1 h1=>by
  cases fl with
  | nx bh=>exact λav Fc=>⟨bh,ao,af,Fc,s1,h1⟩
  | rt v=>exact Out.fl (D:=D) (fl:=.rt v) (E:=Er) h1 s1
  | bk bh=>exact Out.fl (D:=D) (fl:=.bk bh) (E:=Er) h1 s1
  | ct bh=>exact Out.fl (D:=D) (fl:=.ct bh) (E:=Er) h1 s1⟩
def zN (h1:MS X Er st g):dz X Er [st] g:=Bn h1
def zZ (i:Nat) (f:Ai):Aj:=λenv st=>(f env st).bind λx ao=>.ok (.nx (env.set i (some x))) ao
def yu (i:Nat) {x:Str}(he:ME X Er e fa) (hN:X.N.Nodup) (hi:X.N[i]?=some x:=by rfl) (hx:Loc X.env.scope x:=by first|exact Or.inl rfl|exact Or.inr rfl) (hs:swapsWith e (some (.Name x pos')) pos.line X.env=pure false:=by rfl)
  (hf:X.fn x=true\/X.env.scope.names.lookup x=some .local:=by first|exact .inl rfl|exact .inr rfl|assumption):MS X Er (.Assign [.Name x pos'] e pos) (zZ i fa) :=
 PS.weak (BC hN hi hx he hs hf) λD U H ⟨env,st,ρ,re,rs,h⟩=>⟨env,st,ρ,re,rs,h.then λaf H1 x ao e1 s1 h1 v rv=>h1.now s1 _ ((re.ext e1).set i rv)⟩
def jC (f:Ai):Aj:=λenv st=>(f env st).bind λ_ ao=>.ok (.nx env) ao
def zbw (he:ME X Er e fa) (hs:swapsWith e none pos.line X.env=pure false:=by rfl):MS X Er (.Expr e pos) (jC fa) :=
 PS.weak (Bp he hs) λD U H ⟨env,st,ρ,re,rs,h⟩=>⟨env,st,ρ,re,rs,h.then λaf H1 x ao e1 s1 h1 v rv=>h1.now s1 _ (re.ext e1)⟩
def zP (f:Ai):Aj:=λenv st=>(f env st).bind λx ao=>.ok (.rt x) ao
def z6 (he:ME X Er e fa):MS X Er (.Return (some e) pos) (zP fa) :=
 PS.weak (Br he) λD U H ⟨env,st,ρ,re,rs,h⟩=>⟨env,st,ρ,re,rs,h.then λaf H1 x ao e1 s1 h1 v rv=>h1.now s1 _ rv⟩
def zT (t:Ak) (g g':Aj):Aj:=λenv st=>(t env st).bind λc ao=>if c=true then g env ao else g' env ao
def yo {A B:List Stmt}(hc:MT X Er c ga) (ha:dz X Er A g) (hb:dz X Er B g'):MS X Er (.If c A B pos) (zT ga g g') :=
 PS.weak (Bt hc ha hb) λD U H ⟨env,st,ρ,re,rs,h⟩=>⟨env,st,ρ,re,rs,h.then λaf H1 k ao e1 s1 h1=>by
  cases k with
  | true=>exact ⟨env,ao,af,re.ext e1,s1,h1⟩
  | false=>exact ⟨env,ao,af,re.ext e1,s1,h1⟩⟩
def putK (f:Str) (x:PV):List Str->List PV->List Str×List PV
 | k::ks,y::ys=>if k=f then (k::ks,x::ys) else (k::(putK f x ks ys).1,y::(putK f x ks ys).2)
 | _,_=>([f],[x])
def t9 {ρ:Ae}{H:Hp}{f:Str}{x:PV}{v:V}(r:R K mg ρ H x v):∀{ks:Ad}{xs:An}{vs:List V},ks.length=vs.length->Rs K mg ρ H xs vs->∃ws,bG f v (ks.zip vs)=(putK f x ks xs).1.zip ws/\Rs K mg ρ H (putK f x ks xs).2 ws/\(putK f x ks xs).1.length=ws.length
 | [],xs,vs,hl,h=>by
  have:vs=[]:=by cases vs with|nil=>rfl|cons=>simp at hl
  subst this
  have:xs=[]:=by cases xs with|nil=>rfl|cons=>obtain ⟨_,_,e,_⟩:=h;cases e
  subst this
  exact ⟨[v],rfl,⟨v,[],rfl,r,rfl⟩,rfl⟩
 | k::ks,xs,vs,hl,h=>by
  cases vs with
  | nil=>simp at hl
  | cons v0 vs =>
   cases xs with
   | nil=>cases h
   | cons y ys =>
    obtain ⟨KH,r',e,h1,h2⟩:=h
    cases e
    simp only [putK,List.zip_cons_cons,bG]
    by_cases hk:k=f
    ·rw [zw hk,zw hk]
     exact ⟨v::vs,rfl,⟨v,vs,rfl,r,h2⟩,by simpa using hl⟩
    ·rw [zC hk,zC hk]
     obtain ⟨ws,e1,e2,e3⟩:=t9 r (by simpa using hl) h2
     exact ⟨v0::ws,by rw [e1];rfl,⟨v0,ws,rfl,h1,e2⟩,by simp [e3]⟩
def putAt (f:Str) (ins:Str->Bool) (x:PV):PV->Mo Unit
 | .ref n,st=>jb st n λc ks xs=>if ins c=true/\ks.length<1000 then .ok () (st.set n (.ins c (putK f x ks xs).1 (putK f x ks xs).2)) else .stuck
 | _,_=>.stuck
def sFld (f:Str) (ins:Str->Bool) (fo fv:Ai):Aj:=λenv st=>(fv env st).bind λx ao=>(fo env ao).bind λo aA=>(putAt f ins x o aA).bind λ_ a4=>.ok (.nx env) a4
def t_ {f:Str}{ins exc:Str->Bool}(F:FldF X.K X.mg f ins exc) (ho:ME X Er o fo) (he:ME X Er e fa) (hs:swapsWith e (some (.Attribute o f pos')) pos.line X.env=pure false:=by rfl):MS X Er (.Assign [.Attribute o f pos'] e pos) (sFld f ins fo fa) :=
 PS.weak (Cg ho he hs) λD U H ⟨env,st,ρ,re,rs,h⟩=>⟨env,st,ρ,re,rs,h.then λaf H1 x ao e1 s1 h1 v rv=>⟨env,ao,af,re.ext e1,s1,h1.then λar H2 y aA e2 s2 h2 w rw=>by
  cases y with
  | ref n =>
   cases hn:aA[n]? with
   | none=>simp only [putAt,jb,hn] at h2;exact h2.elim
   | some so =>
    cases so with
    | lst _=>simp only [putAt,jb,hn] at h2;exact h2.elim
    | dic _ _=>simp only [putAt,jb,hn] at h2;exact h2.elim
    | fdi _ _=>simp only [putAt,jb,hn] at h2;exact h2.elim
    | dit _ _=>simp only [putAt,jb,hn] at h2;exact h2.elim
    | ins c ks xs =>
     simp only [putAt,jb,hn] at h2
     by_cases hc:ins c=true/\ks.length<1000
     ·rw [zw hc] at h2
      obtain ⟨p,rfl,hp⟩:=rw
      obtain ⟨C',dx,vs,hC',hH,hR,hl⟩:=s2.addr hn hp
      obtain ⟨C,hC,cl,na⟩:=F.i c hc.1
      rw [hC] at hC'
      cases hC'
      obtain ⟨ws,k1,k2,k3⟩:=t9 (f:=f) (R.ext e2 x rv) hl hR
      refine ⟨p,_,dx,_,rfl,hH,cl,na,?_,?_⟩
      ·rw [List.length_zip,<-hl];have:=hc.2;omega
      ·have ew:Ext ar H2 ar (upd H2 p (.ins C' dx (bG f v (ks.zip vs)))):=Ext.write hH rfl
       exact h2 ar _ ew (s2.write hp ew ⟨_,dx,ws,hC,by rw [yx,k1],Rs.ext ew _ k2,k3⟩) U (((re.ext e1).ext e2).ext ew)
     ·rw [zC hc] at h2;exact h2.elim
  | _=>exact h2.elim⟩⟩
def MG (X:Cx) (Er:XK) (e:Expr) (g:PV->zc->Option zc):Prop:=PG X e λv U H Q=>∃x env a8 ρ,R X.K X.mg ρ H x v/\a7 X.K X.mg ρ H env U/\g x env=some a8/\∀ah,a7 X.K X.mg ρ H a8 ah->Q ah H
def PG.weak {t t':TG}(h:PG X e t) (w:∀v U H Q,t' v U H Q->t v U H Q):PG X e t':=λpins s U H v u Q I r q=>h pins s U H v u Q I r (w v U H Q q)
def gN (i:Nat):PV->zc->Option zc:=λx env=>some (env.set i (some x))
def mU (i:Nat) {x:Str}(hN:X.N.Nodup) (hi:X.N[i]?=some x:=by rfl) (hx:Loc X.env.scope x:=by first|exact Or.inl rfl|exact Or.inr rfl) (hf:X.fn x=true\/X.env.scope.names.lookup x=some .local:=by first|exact .inl rfl|exact .inr rfl|assumption):MG X Er (.Name x pos) (gN i) :=
 PG.weak (wN hN hi hx hf) λv U H Q ⟨x,env,a8,ρ,rx,re,hg,q⟩=>by
  cases hg
  exact q _ (re.set i rx)
def g2 (i j:Nat):PV->zc->Option zc
 | .tup [x,y],env=>some ((env.set i (some x)).set j (some y))
 | _,_=>none
def Fd {i j:Nat}{x:PV}{env a8:zc}(h:g2 i j x env=some a8):∃y z,x=.tup [y,z]/\a8=(env.set i (some y)).set j (some z):=by
 unfold g2 at h
 split at h
 ·cases h;exact ⟨_,_,rfl,rfl⟩
 ·cases h
def Fe (i j:Nat) {x y:Str}{kt:Nat}{px py:Pos}(hc:X.calm=true) (hN:X.N.Nodup) (hi:X.N[i]?=some x:=by rfl) (hj:X.N[j]?=some y:=by rfl) (hx:Loc X.env.scope x:=by first|exact Or.inl rfl|exact Or.inr rfl) (hy:Loc X.env.scope y:=by first|exact Or.inl rfl|exact Or.inr rfl)
  (hf:X.fn x=true\/X.env.scope.names.lookup x=some .local:=by first|exact .inl rfl|exact .inr rfl|assumption) (mV:X.fn y=true\/X.env.scope.names.lookup y=some .local:=by first|exact .inl rfl|exact .inr rfl|assumption):MG X Er (.Tuple [.Name x px,.Name y py] kt pos) (g2 i j) :=
 PG.weak (BA (n:=2) hc (rz (wN hN hi hx hf) (rz (wN hN hj hy mV) By))) λv U H Q ⟨x,env,a8,ρ,rx,re,hg,q⟩=>by
  obtain ⟨y,z,rfl,rfl⟩:=Fd hg
  obtain ⟨a,vs,rfl,h1,h2⟩:=rx
  obtain ⟨u,w,rfl,r1,r2⟩:=Rs.two h2
  exact ⟨a,_,rfl,h1,rfl,u,[w],rfl,w,[],rfl,rfl,q _ ((re.set i r1).set j r2)⟩
def g3 (i j k:Nat):PV->zc->Option zc
 | .tup [x,y,z],env=>some (((env.set i (some x)).set j (some y)).set k (some z))
 | _,_=>none
inductive Sq where
 | im (xs:An)|rf (n:Nat)
def Walk (K:Frag) (mg:Ab) (J:It) (ρ:Ae) (H:Hp):Sq->Prop
 | .im xs=>(∀i ai H',Ext ρ H ai H'->i<xs.length->J.go i H')/\(∀i ai H',Ext ρ H ai H'->xs.length<=i->J.stop i H') /\
  ∀i ai H' st v H2,Ext ρ H ai H'->aY K mg ai H' st->i<xs.length->J.yld i H' v H2->∃x,xs[i]?=some x/\Ext ai H' ai H2/\aY K mg ai H2 st/\R K mg ai H2 x v
 | .rf n=>∃a,ρ[n]?=some a/\J=l_ K a
def MI (X:Cx) (Er:XK) (tg iter:Expr) (src:zc->Mo Sq):Prop:=PI X tg iter λU H R=>∃env st ρ,a7 X.K X.mg ρ H env U/\aY X.K X.mg ρ H st/\Out X.K X.mg ρ H (src env st) (λai H' q aU=>∀J,Walk X.K X.mg J ai H' q->R J H') Er
def forL (g:PV->zc->Option zc) (body:Aj):List PV->Aj
 | [],env,st=>.ok (.nx env) st
 | x::xs,env,st=>match g x env with
  | none=>.stuck
  | some bh=>(body bh st).bind λfl aA=>match fl with
   | .nx e=>forL g body xs e aA
   | .ct e=>forL g body xs e aA
   | .bk e=>.ok (.nx e) aA
   | .rt v=>.ok (.rt v) aA
def forR (g:PV->zc->Option zc) (body:Aj) (n:Nat):Nat->Nat->Aj
 | 0,_,_,_=>.stuck
 | m+1,i,env,st=>z0 st n λxs=>match xs[i]? with
  | none=>.ok (.nx env) st
  | some x=>match g x env with
   | none=>.stuck
   | some bh=>(body bh st).bind λfl aA=>match fl with
    | .nx e=>forR g body n m (i+1) e aA
    | .ct e=>forR g body n m (i+1) e aA
    | .bk e=>.ok (.nx e) aA
    | .rt v=>.ok (.rt v) aA
def kS (g:PV->zc->Option zc) (body:Aj):Sq->Aj
 | .im xs=>forL g body xs
 | .rf n=>forR g body n (lim+1) 0
def we (src:zc->Mo Sq) (g:PV->zc->Option zc) (body:Aj):Aj:=λenv st=>(src env st).bind λq ao=>kS g body q env ao
def zcA {tg iter:Expr}{src:zc->Mo Sq}{gt:PV->zc->Option zc}(hp:PassesOwn (model X.prog X.w) X.A X.env X.xe) (hc:X.calm=true) (hi:MI X Er tg iter src) (hg:MG X Er tg gt) (hb:dz X Er cL gb)
  (hs:∀x,foldedSetIterable iter X.env x=pure x:=by intro _;rfl):MS X Er (.For tg iter cL [] pos) (we src gt gb) :=
 PS.weak (oq hp hc hi hg hb hs) λD U H ⟨env,st,ρ,re,rs,h⟩=>⟨env,st,ρ,re,rs,h.then λaq H0 q dA e0 s0 h0 J wk=>by
  cases q with
  | im xs =>
   obtain ⟨w1,w2,w3⟩:=wk
   refine ⟨λi m U H=>m=xs.length-i/\i<=xs.length/\∃env st ρ,a7 X.K X.mg ρ H env U/\aY X.K X.mg ρ H st/\Ext aq H0 ρ H/\Out X.K X.mg ρ H (forL gt gb (xs.drop i) env st) (gS X.K X.mg D) Er,⟨xs.length,by simp,yX _,env,dA,aq,re.ext e0,s0,Ext.refl,h0⟩,?_⟩
   rintro i m U H ⟨rfl,hi,env,st,ρ,re,rs,ex,h⟩
   by_cases a6:i<xs.length
   ·refine .inr ⟨w1 i ρ H ex a6,_,λah H' p'=>⟨xs.length-(i+1),by omega,rfl,a6,p'⟩,λv H' y=>?_⟩
    obtain ⟨x,hx,cF,s2,rx⟩:=w3 i ρ H st v H' ex rs a6 y
    have hd:xs.drop i=x::xs.drop (i+1):=by
     rw [jc a6]
     have:=(yf.mp hx).2
     rw [this]
    rw [hd] at h
    cases hgx:gt x env with
    | none=>simp only [forL,hgx] at h;exact h.elim
    | some bh =>
     simp only [forL,hgx] at h
     refine ⟨x,env,bh,ρ,rx,re.ext cF,hgx,λav r1=>⟨bh,st,ρ,r1,s2,Out.then (Out.ext h cF) λak H3 fl a4 e3 s3 h3=>?_⟩⟩
     cases fl with
     | nx e=>exact λaB r4=>⟨e,a4,ak,r4,s3,(ex.trans cF).trans e3,h3⟩
     | ct e=>exact λaB r4=>⟨e,a4,ak,r4,s3,(ex.trans cF).trans e3,h3⟩
     | bk e=>exact Out.fl (D:=D) (fl:=.nx e) (E:=Er) h3 s3
     | rt v=>exact Out.fl (D:=D) (fl:=.rt v) (E:=Er) h3 s3
   ·have e:i=xs.length:=by omega
    subst e
    rw [List.drop_length] at h
    exact .inl ⟨w2 _ ρ H ex (zI _),Out.now (x:=Fl.nx env) h rs U re⟩
  | rf n =>
   obtain ⟨a,ha,rfl⟩:=wk
   refine ⟨λi m U H=>∃env st ρ,a7 X.K X.mg ρ H env U/\aY X.K X.mg ρ H st/\ρ[n]?=some a/\Out X.K X.mg ρ H (forR gt gb n m i env st) (gS X.K X.mg D) Er,⟨lim+1,env,dA,aq,re.ext e0,s0,ha,h0⟩,?_⟩
   rintro i m U H ⟨env,st,ρ,re,rs,ha,h⟩
   cases m with
   | zero=>exact h.elim
   | succ m =>
    obtain ⟨xs,hn,h⟩:=yO h
    obtain ⟨vs,hH,hR⟩:=rs.addr hn ha
    cases hx:xs[i]? with
    | none =>
     simp only [hx] at h
     have:vs.length<=i:=by rw [<-hR.len];exact iE.mp hx
     exact .inl ⟨⟨vs,a3.of hH,this⟩,Out.now (x:=Fl.nx env) h rs U re⟩
    | some x =>
     simp only [hx] at h
     obtain ⟨v,hv,rv⟩:=hR.get hx
     refine .inr ⟨⟨vs,v,a3.of hH,hv⟩,_,λah H' p'=>⟨m,jq m,p'⟩,λv' H' y=>?_⟩
     obtain ⟨e1,y⟩:=y
     subst e1
     have e2:=y vs (a3.of hH)
     rw [hv] at e2
     cases e2
     cases hgx:gt x env with
     | none=>simp only [hgx] at h;exact h.elim
     | some bh =>
      simp only [hgx] at h
      refine ⟨x,env,bh,ρ,rv,re,hgx,λav r1=>⟨bh,st,ρ,r1,rs,Out.then h λak H3 fl a4 e3 s3 h3=>?_⟩⟩
      cases fl with
      | nx e=>exact λaB r4=>⟨e,a4,ak,r4,s3,e3.get ha,h3⟩
      | ct e=>exact λaB r4=>⟨e,a4,ak,r4,s3,e3.get ha,h3⟩
      | bk e=>exact Out.fl (D:=D) (fl:=.nx e) (E:=Er) h3 s3
      | rt v=>exact Out.fl (D:=D) (fl:=.rt v) (E:=Er) h3 s3⟩
end
section
variable {X:Cx}{Er:XK}{K:Frag}{mg:Ab}{a b c e o tg:Expr}{es:List Expr}{st:Stmt}{cL:List Stmt}{pos p apos pos':Pos}{fa fb fc fo:Ai}{fs:Ah}{k:Nat}{x:Str}{m:Al}
variable {g g' gb:Aj}{ga:Ak}
def PI.weak {t t':TI}(h:PI X tg e t) (w:∀U H Q,t' U H Q->t U H Q):PI X tg e t':=λpins s U H Q I q=>h pins s U H Q I (w U H Q q)
def Ff (K:Frag) (tl:TE):TI:=λU H R=>tl U H λx H1=>(∃a,x=.ref a/\(∃xs,a3 K H1 a xs)/\R (l_ K a) H1)\/(∃a,x=.ref a/\(∃xs,bt K H1 a xs)/\R (iI K a) H1)\/∃z,x=.str z/\R (oU z) H1
def Fg {l:Expr}{tl:TE}(hl:PE X l tl):PI X tg l (Ff X.K tl):=by
 intro pins s U H R I h
 refine aS (hl pins s U H _ I h) λv s1 ⟨x,H1,I1,r1,q1⟩=>?_
 have fin:∀b∈[s1.heap.objs.size],b0 X pins H1 b:=λb hb=>by
  have e:b=s1.heap.objs.size:=by simpa using hb
  subst e
  exact I1.fpOk (zI _) (I1.hok.fresh (zI _))
 rcases q1 with ⟨a,e,⟨xs,hq⟩,q⟩|⟨a,e,⟨xs,hq⟩,q⟩|⟨z,rfl,q⟩
 ·subst e
  cases r1
  obtain ⟨its,rv,p,hz⟩:=I1.list hq
  exact wpAny_pyIter_list p.isList ⟨s1.heap.objs.size,[s1.heap.objs.size],_,_,H1,rfl,I1.kept (t':=s1.toks) (λb o e=>z7 _ e),BF a _,⟨_,yR _ rfl,rfl,rfl⟩,fin,q⟩
 ·subst e
  cases r1
  obtain ⟨its,rv,p,hz⟩:=I1.tuple hq
  exact wpAny_pyIter_tuple (show s1.heap.IsTuple a its.toArray from p) ⟨s1.heap.objs.size,[s1.heap.objs.size],_,_,H1,rfl,I1.kept (t':=s1.toks) (λb o e=>z7 _ e),BG a _,⟨_,yR _ rfl,rfl,rfl⟩,fin,q⟩
 ·obtain ⟨t,rfl⟩:=r1
  cases ha:z.cps.all (·<128) with
  | false=>exact wpAny_pyIter_wide ha ⟨s1.heap.objs.size,[s1.heap.objs.size],_,_,H1,rfl,I1.kept (t':=s1.toks) (λb o e=>z7 _ e),sS z t _ "str_iterator" (.inr rfl),⟨_,yR _ rfl,rfl,rfl⟩,fin,q⟩
  | true=>exact wpAny_pyIter_ascii ha ⟨s1.heap.objs.size,[s1.heap.objs.size],_,_,H1,rfl,I1.kept (t':=s1.toks) (λb o e=>z7 _ e),sS z t _ "str_ascii_iterator" (.inl rfl),⟨_,yR _ rfl,rfl,rfl⟩,fin,q⟩
def Fh {ρ:Ae}{H:Hp}{a:Addr}{xs:An}{vs:List V}(h:bt K H a vs) (r:Rs K mg ρ H xs vs):Walk K mg (iI K a) ρ H (.im xs):=by
 refine ⟨λi ai H' e hi=>?_,λi ai H' e hi=>⟨vs,e.sqT h,by rw [<-r.len];exact hi⟩,λi ai H' st v H2 e s hi y=>?_⟩
 ·obtain ⟨v,hv,_⟩:=r.get (zK hi)
  exact ⟨vs,v,e.sqT h,hv⟩
 ·obtain ⟨e1,y⟩:=y
  subst e1
  obtain ⟨v',hv,rv⟩:=r.get (zK hi)
  have:=y vs (e.sqT h)
  rw [hv] at this
  cases this
  exact ⟨_,zK hi,Ext.refl,s,R.ext e _ rv⟩
def Fi {ρ:Ae}{H:Hp}{a:Addr}{xs:An}{vs:List V}(h:fR K H a vs) (r:Rs K mg ρ H xs vs):Walk K mg (l_ K a) ρ H (.im xs):=by
 have hs:∀{ai H'},Ext ρ H ai H'->a3 K H' a vs:=λe=>(e.frl h).sq
 refine ⟨λi ai H' e hi=>?_,λi ai H' e hi=>⟨vs,hs e,by rw [<-r.len];exact hi⟩,λi ai H' st v H2 e s hi y=>?_⟩
 ·obtain ⟨v,hv,_⟩:=r.get (zK hi)
  exact ⟨vs,v,hs e,hv⟩
 ·obtain ⟨e1,y⟩:=y
  subst e1
  obtain ⟨v',hv,rv⟩:=r.get (zK hi)
  have:=y vs (hs e)
  rw [hv] at this
  cases this
  exact ⟨_,zK hi,Ext.refl,s,R.ext e _ rv⟩
def signs (z:Str):An:=z.cps.toList.map λc=>.str ⟨#[c]⟩
def Fj {ρ:Ae}{H:Hp}(z:Str):Walk K mg (oU z) ρ H (.im (signs z)):=by
 have hl:(signs z).length=z.cps.size:=by simp [signs]
 refine ⟨λi ai H' e hi=>by rw [hl] at hi;exact hi,λi ai H' e hi=>by rw [hl] at hi;exact hi,λi ai H' st v H2 e s hi y=>?_⟩
 obtain ⟨e1,c,hc,e2⟩:=y
 subst e1 e2
 refine ⟨.str ⟨#[c]⟩,?_,Ext.refl,s,rfl⟩
 simp [signs,hc]
def nums (lo:Int) (n:Nat):An:=(List.range n).map λi=>.int (lo+(i:Nat))
def Fm {ρ:Ae}{H:Hp}(lo:Int) (n:Nat):Walk K mg (kl lo n) ρ H (.im (nums lo n)):=by
 have hl:(nums lo n).length=n:=by simp [nums]
 refine ⟨λi ai H' e hi=>by rw [hl] at hi;exact hi,λi ai H' e hi=>by rw [hl] at hi;exact hi,λi ai H' st v H2 e s hi y=>?_⟩
 obtain ⟨e1,e2⟩:=y
 subst e1 e2
 rw [hl] at hi
 exact ⟨.int (lo+i),by simp [nums,hi],Ext.refl,s,rfl⟩
def c9:PV->Mo Sq
 | .tup xs,st=>.ok (.im xs) st
 | .frl xs,st=>.ok (.im xs) st
 | .str z,st=>.ok (.im (signs z)) st
 | .ref n,st=>z0 st n λ_=>.ok (.rf n) st
 | _,_=>.stuck
def jm (f:Ai):zc->Mo Sq:=λenv st=>(f env st).bind c9
def zaq (h:ME X Er e fa):MI X Er tg e (jm fa):=PI.weak (Fg h) λU H Q ⟨env,st,ρ,re,rs,h⟩=>⟨env,st,ρ,re,rs,h.then λaf H1 x ao e1 s1 h1 v rv=>by
 cases x with
 | tup xs =>
  obtain ⟨a,vs,rfl,k1,k2⟩:=rv
  exact .inr (.inl ⟨a,rfl,⟨vs,k1⟩,Out.now (x:=Sq.im xs) h1 s1 _ (Fh k1 k2)⟩)
 | frl xs =>
  obtain ⟨a,vs,rfl,k1,k2⟩:=rv
  exact .inl ⟨a,rfl,⟨vs,k1.sq⟩,Out.now (x:=Sq.im xs) h1 s1 _ (Fi k1 k2)⟩
 | str z =>
  cases rv
  exact .inr (.inr ⟨z,rfl,Out.now (x:=Sq.im (signs z)) h1 s1 _ (Fj z)⟩)
 | ref n =>
  obtain ⟨a,rfl,ha⟩:=rv
  obtain ⟨xs,hn,h1⟩:=yO h1
  obtain ⟨vs,k1,k2⟩:=s1.addr hn ha
  exact .inl ⟨a,rfl,⟨vs,a3.of k1⟩,h1.now s1 _ ⟨a,ha,rfl⟩⟩
 | _=>exact h1.elim⟩
abbrev cR (j:Int):Bool:=decide (-(2 ^ 62)<=j)&&decide (j<2 ^ 62)
def wV:List PV->Mo Sq
 | [.int j],st=>if cR j=true then .ok (.im (nums 0 j.toNat)) st else .stuck
 | _,_=>.stuck
def Fn:List PV->Mo Sq
 | [.int i,.int j],st=>if cR i=true/\cR j=true then .ok (.im (nums i (j-i).toNat)) st else .stuck
 | _,_=>.stuck
def Fo {ρ:Ae}{H:Hp}{xs:An}{st:ae}{good:List Addr->Hp->Sq->ae->Prop}(h:Out K mg ρ H (wV xs st) good Er):∃j,xs=[.int j] /\ -(2 ^ 62)<=j/\j<2 ^ 62/\Out K mg ρ H (.ok (.im (nums 0 j.toNat)) st) good Er:=by
 unfold wV at h
 split at h
 ·obtain ⟨c,h⟩:=Out.ifp h
  simp [cR] at c
  exact ⟨_,rfl,c.1,c.2,h⟩
 ·exact h.elim
def cD (fs:Ah):zc->Mo Sq:=λenv st=>(fs env st).bind wV
def oj (fs:Ah):zc->Mo Sq:=λenv st=>(fs env st).bind Fn
def Fp {a:Expr} (hm:X.mg "range" = none) (ha:MA X Er [a] fs) (hg:Gl X "range" := by rfl) (hs:starEach [a] X.env=[(false,eval a X.env)]:=by rfl):MI X Er tg (.Call (.Name "range" p) [a] [] pos) (cD fs) :=
 PI.weak (BJ hg hm ha hs) λU H Q ⟨env,st,ρ,re,rs,h⟩=>⟨env,st,ρ,re,rs,h.then λaf H1 xs ao e1 s1 h1 vs rv=>by
  obtain ⟨j,rfl,c1,c2,h1⟩:=Fo h1
  obtain ⟨v,rfl,rfl⟩:=Rs.one rv
  exact ⟨j,rfl,c1,c2,h1.now s1 _ (Fm 0 j.toNat)⟩⟩
def bp (t:Ak) (b:Aj):Nat->Aj
 | 0,_,_=>.stuck
 | n+1,env,st=>(t env st).bind λc ao=>if c=true then (b env ao).bind λfl aA=>match fl with
   | .nx e=>bp t b n e aA
   | .ct e=>bp t b n e aA
   | .bk e=>.ok (.nx e) aA
   | .rt v=>.ok (.rt v) aA
  else .ok (.nx env) ao
def mW (t:Ak) (b:Aj):Aj:=bp t b lim
def ua (hp:PassesOwn (model X.prog X.w) X.A X.env X.xe) (hc:MT X Er c ga) (hb:dz X Er cL gb):MS X Er (.While c cL [] pos) (mW ga gb) :=
 PS.weak (BE hp hc hb) λD U H ⟨env,st,ρ,re,rs,h⟩=>by
  refine ⟨λm U H=>∃env st ρ,a7 X.K X.mg ρ H env U/\aY X.K X.mg ρ H st/\Out X.K X.mg ρ H (bp ga gb m env st) (gS X.K X.mg D) Er,⟨lim,env,st,ρ,re,rs,h⟩,?_⟩
  rintro m U H ⟨env,st,ρ,re,rs,h⟩
  cases m with
  | zero=>exact h.elim
  | succ m =>
   refine ⟨env,st,ρ,re,rs,Out.then h λaf H1 k ao e1 s1 h1=>?_⟩
   cases k with
   | true =>
    change (if true=true then _ else D.nx U H1)
    rw [zw rfl]
    refine ⟨_,λah H' p'=>⟨m,jq m,p'⟩,env,ao,af,re.ext e1,s1,Out.then h1 λak H3 fl a4 e3 s3 h3=>?_⟩
    cases fl with
    | nx e=>exact λaB r4=>⟨e,a4,ak,r4,s3,h3⟩
    | ct e=>exact λaB r4=>⟨e,a4,ak,r4,s3,h3⟩
    | bk e=>exact Out.fl (D:=D) (fl:=.nx e) (E:=Er) h3 s3
    | rt v=>exact Out.fl (D:=D) (fl:=.rt v) (E:=Er) h3 s3
   | false =>
    have z:D.nx U H1:=Out.fl (D:=D) (fl:=.nx env) (E:=Er) h1 s1 U (re.ext e1)
    exact z
def kM (cn:Str):Aj:=λ_ st=>.err cn [] [] st
def bw {α:Type}:Res α->Res α
 | .err _ _ _ _=>.stuck
 | r=>r
def wC {α β:Type}{ρ:Ae}{H:Hp}{r:Res β}{f:β->Mo α}{good:List Addr->Hp->α->ae->Prop}{c5:List Addr->Hp->β->ae->Prop}{E E':XK}(h:Out K mg ρ H ((bw r).bind f) good E) (g:∀ai H' x st,Ext ρ H ai H'->aY K mg ai H' st->Out K mg ai H' (f x st) good E->c5 ai H' x st):Out K mg ρ H r c5 E':=by
 cases r with
 | ok x st=>exact λai H' e s=>g ai H' x st e s (Out.ext h e)
 | err=>exact h.elim
 | stuck=>exact h.elim
def kT (ks:Ad) (ps:An):PV->Mo PV
 | .str z,st=>br ((ks.zip ps).lookup z) st
 | _,_=>.stuck
def KdF (X:Cx) (name:Str) (ks:Ad) (ps:An) (full:Bool):Prop:=∃O,X.mg name=some (.ref O)/\KD X O/\(∀z q,(ks.zip ps).lookup z=some q->∃u v,nsIn X.K O z=some (some u)/\RelV v u/\∀ρ H,R X.K X.mg ρ H q v)/\(full=true->∀z,(ks.zip ps).lookup z=none->nsIn X.K O z=some none)
def Fq {name:Str} {ks:Ad} {ps:An} {full:Bool} (F:KdF X name ks ps full) (hb:ME X Er b fb) (hs:dI b:=by exact λ_ _=>rfl) (hg:Gl X name:=by rfl) (hd:(name==("__debug__" : Str))=false:=by decide):ME X Er (.Subscript (.Name name p) b pos) (jz (kT ks ps) fb):=by
 obtain ⟨O,hm,kd,hl,_⟩:=F
 refine PE.weak (si Ea (oi (v:=.ref O) hg hm rfl hd) hb hs) λU H Q ⟨env,st,ρ,re,rs,h⟩=>⟨env,st,ρ,re,rs,h.then λaf H1 x ao e1 s1 h1 v rv=>?_⟩
 cases x with
 | str z =>
  cases rv
  obtain ⟨q,hq,h1⟩:=wc h1
  obtain ⟨u,v,h2,h3,h4⟩:=hl z q hq
  exact ⟨O,z,u,v,rfl,rfl,kd,h2,h3,h1.now s1 _ (h4 _ _)⟩
 | _=>exact h1.elim
def kU (neg:Bool) (ks:Ad) (ps:An) (full:Bool):PV->Mo PV
 | .str z,st=>if ((ks.zip ps).lookup z).isSome=true\/full=true then .ok (.bl (neg.xor ((ks.zip ps).lookup z).isSome)) st else .stuck
 | _,_=>.stuck
def Fs {name:Str}{ks:Ad}{ps:An}{full:Bool}{O:Addr}(hl:∀z q,(ks.zip ps).lookup z=some q->∃u v,nsIn X.K O z=some (some u)/\RelV v u/\∀ρ H,R X.K X.mg ρ H q v) (hf:full=true->∀z,(ks.zip ps).lookup z=none->nsIn X.K O z=some none) {z:Str}(h:((ks.zip ps).lookup z).isSome=true\/full=true):∃r,nsIn X.K O z=some r/\r.isSome=((ks.zip ps).lookup z).isSome:=by
 cases hq:(ks.zip ps).lookup z with
 | some q=>obtain ⟨u,v,h2,_⟩:=hl z q hq;exact ⟨_,h2,rfl⟩
 | none =>
  rw [hq] at h
  rcases h with h|h
  ·cases h
  ·exact ⟨none,hf h z hq,rfl⟩
def Ft {name:Str} {ks:Ad} {ps:An} {full:Bool} (F:KdF X name ks ps full) (ha:ME X Er a fa) (hg:Gl X name:=by rfl) (hd:(name==("__debug__" : Str))=false:=by decide) (hk:behindInMarks .NotIn (.Name name p)=false:=by with_unfolding_all rfl):MT X Er (.Compare a [.NotIn] [.Name name p] pos) (mB (jz (kU true ks ps full) fa)):=by
 obtain ⟨O,hm,kd,hl,hf⟩:=F
 refine PT.weak (rE Eb ha (oi (v:=.ref O) hg hm rfl hd) hk) λU H Q h=>?_
 obtain ⟨env,st,ρ,re,rs,h⟩:=pf h
 refine ⟨env,st,ρ,re,rs,h.then λaf H1 x ao e1 s1 h1 v rv=>?_⟩
 cases x with
 | str z =>
  cases rv
  obtain ⟨q,h1⟩:=Out.ifp h1
  obtain ⟨r,h2,h3⟩:=Fs (name:=name) hl hf q
  have:=Out.now h1 s1 _ rfl
  exact ⟨O,z,r,rfl,rfl,kd,h2,by rw [h3];simpa using this⟩
 | _=>exact h1.elim
def iS:Am
 | .ref n,y,st=>z0 st n λxs=>if xs.length<lim then .ok .non (st.set n (.lst (xs++[y]))) else .stuck
 | _,_,_=>.stuck
def kW:Am
 | .ref n,.ref k,st=>z0 st n λxs=>z0 st k λys=>if xs.length+ys.length<=lim then .ok .non (st.set n (.lst (xs++ys))) else .stuck
 | _,_,_=>.stuck
def R.refL {ρ:Ae}{H:Hp}{st:ae}{n:Nat}{xs:An}{v:V}(s:aY K mg ρ H st) (r:R K mg ρ H (.ref n) v) (h:st[n]?=some (.lst xs)):∃a vs,v=.ref a/\ρ[n]?=some a/\H a=some (.lst vs)/\Rs K mg ρ H xs vs:=by
 obtain ⟨a,rfl,ha⟩:=r
 obtain ⟨vs,h1,h2⟩:=s.addr h ha
 exact ⟨a,vs,rfl,ha,h1,h2⟩
def gw:PV->Mo PV
 | .ref n,st=>z0 st n λ_=>.ok (.ref n) st
 | _,_=>.stuck
def jn (op:Am) (fo fv:Ai):Ai:=λenv st=>(fo env st).bind λo ao=>(gw o ao).bind λo ao=>(fv env ao).bind λy aA=>op o y aA
def pO {α:Type}{ρ:Ae}{H:Hp}{x:PV}{st:ae}{f:PV->Mo α}{good:List Addr->Hp->α->ae->Prop}(h:Out K mg ρ H ((gw x st).bind f) good Er):∃n xs,x=.ref n/\st[n]?=some (.lst xs)/\Out K mg ρ H (f (.ref n) st) good Er:=by
 cases x with
 | ref n =>
  unfold gw z0 at h
  cases hn:st[n]? with
  | none=>simp only [hn] at h;exact h.elim
  | some so =>
   cases so with
   | lst xs=>simp only [hn] at h;exact ⟨n,xs,rfl,hn,h⟩
   | _=>simp only [hn] at h;exact h.elim
 | _=>exact h.elim
def zkX {aW:Pos} (ho:ME X Er o fo) (he:ME X Er e fa) (cj:attributeBase o "append" X.env (eval o X.env)=eval o X.env:=by rfl)
  (eM:((backTo aW (starEach [e] X.env)).all (λx=>!x.1)&&(backToKw aW (keywordEach [] X.env)).all (λx=>x.1.isSome)&&decide ([e].length+([]:List Keyword).length+(if ([]:List Keyword).isEmpty then 0 else 1)<30))=true:=by rfl)
  (ck:(apos.endLine==aW.line)=true:=by rfl) (hs:starEach [e] X.env=(false,eval e X.env)::starEach [] X.env:=by rfl) (bu:(backTo aW (starEach [] X.env)).any (·.1)=false:=by rfl):ME X Er (.Call (.Attribute o "append" apos) [e] [] aW) (jn iS fo fa) :=
 PE.weak (oG PySem.F.plainAttrs_list PySem.F.slot_list_append PySem.F.type_list_append zjl ho (mi he mh hs) cj eM ck hs bu) λU H Q ⟨env,st,ρ,re,rs,h⟩=>⟨env,st,ρ,re,rs,h.then λaf H1 x ao e1 s1 h1 v rv=>by
  obtain ⟨n,xs,rfl,hn,h1⟩:=pO h1
  obtain ⟨p,vs,rfl,hp,k1,k2⟩:=R.refL s1 rv hn
  refine ⟨.inl ⟨rfl,vs,a3.of k1⟩,env,ao,af,re.ext e1,s1,h1.then λar H2 y aA e2 s2 h2 w rw=>?_⟩
  obtain ⟨mX,dg,h2⟩:=yO h2
  obtain ⟨c,h2⟩:=Out.ifp h2
  obtain ⟨p',dj,e3,fQ,k3,k4⟩:=R.refL s2 (R.ext e2 _ rv) dg
  cases e3
  have ew:Ext ar H2 ar (upd H2 p (.lst (dj++[w]))):=Ext.write k3 rfl
  refine ⟨p,dj,w,rfl,rfl,k3,?_,h2 ar _ ew (s2.write fQ ew ⟨dj++[w],yx,Rs.ext ew _ (k4.append ⟨w,[],rfl,rw,rfl⟩)⟩) _ rfl⟩
  rw [<-k4.len,sizeLine_eq];have:mX.length<1000000:=c;omega⟩
def zkY {aW:Pos} (ho:ME X Er o fo) (he:ME X Er e fa) (cj:attributeBase o "extend" X.env (eval o X.env)=eval o X.env:=by rfl)
  (eM:((backTo aW (starEach [e] X.env)).all (λx=>!x.1)&&(backToKw aW (keywordEach [] X.env)).all (λx=>x.1.isSome)&&decide ([e].length+([]:List Keyword).length+(if ([]:List Keyword).isEmpty then 0 else 1)<30))=true:=by rfl)
  (ck:(apos.endLine==aW.line)=true:=by rfl) (hs:starEach [e] X.env=(false,eval e X.env)::starEach [] X.env:=by rfl) (bu:(backTo aW (starEach [] X.env)).any (·.1)=false:=by rfl):ME X Er (.Call (.Attribute o "extend" apos) [e] [] aW) (jn kW fo fa) :=
 PE.weak (oG PySem.F.plainAttrs_list PySem.F.slot_list_extend PySem.F.type_list_extend zd3 ho (mi he mh hs) cj eM ck hs bu) λU H Q ⟨env,st,ρ,re,rs,h⟩=>⟨env,st,ρ,re,rs,h.then λaf H1 x ao e1 s1 h1 v rv=>by
  obtain ⟨n,xs,rfl,hn,h1⟩:=pO h1
  obtain ⟨p,vs,rfl,hp,k1,k2⟩:=R.refL s1 rv hn
  refine ⟨.inl ⟨rfl,vs,a3.of k1⟩,env,ao,af,re.ext e1,s1,h1.then λar H2 y aA e2 s2 h2 w rw=>?_⟩
  cases y with
  | ref m =>
   obtain ⟨mX,dg,h2⟩:=yO h2
   obtain ⟨Fu,pP,h2⟩:=yO h2
   obtain ⟨c,h2⟩:=Out.ifp h2
   obtain ⟨p',dj,e3,fQ,k3,k4⟩:=R.refL s2 (R.ext e2 _ rv) dg
   cases e3
   obtain ⟨q,e_,rfl,uc,k5,k6⟩:=R.refL s2 rw pP
   have ew:Ext ar H2 ar (upd H2 p (.lst (dj++e_))):=Ext.write k3 rfl
   exact ⟨p,q,dj,e_,rfl,rfl,k3,k5,by rw [<-k4.len,<-k6.len];exact yJ c,h2 ar _ ew (s2.write fQ ew ⟨dj++e_,yx,Rs.ext ew _ (k4.append k6)⟩) _ rfl⟩
  | _=>exact h2.elim⟩
end
def endOf:Fl->Mo PV
 | .rt v,st=>.ok v st
 | .nx _,st=>.ok .non st
 | _,_=>.stuck
def yz (np nN:Nat) (g:Aj):Al:=λxs st=>if xs.length=np then (g (xs.map some++List.replicate (nN-np) none) st).bind endOf else .stuck
section
variable {P:Program}{w:World}{K:Frag}{mg:Ab}{base:Heap}
abbrev mY (P:Program) (w:World) (K:Frag) (mg:Ab) (base:Heap) (N:Ad) (qual:Str) (scope:Scope) (f:Addr) (cd:Value) (A:Around) (outer:List Env) (s:Shared) (H:Hp) (E:XK):Cx :=
 (cI (bW P w) P w K mg base N qual scope f cd A outer s H E).wish (XA (cI (bW P w) P w K mg base N qual scope f cd A outer s H E) E)
def Fv {N:Ad}{np:Nat}{ρ:Ae}{H:Hp}{xs:An}{vs:List V}(r:Rs K mg ρ H xs vs) (h:xs.length=np):a7 K mg ρ H (xs.map some++List.replicate (N.length-np) none) (L2.start N vs):=by
 have hl:=r.len
 refine ⟨by simp [L2.start,<-hl,h],λi x hx=>?_⟩
 by_cases hi:i<xs.length
 ·rw [jj (by simpa using hi)] at hx
  simp only [jp] at hx
  cases hq:xs[i]? with
  | none=>rw [hq] at hx;cases hx
  | some y =>
   rw [hq] at hx
   cases hx
   obtain ⟨v,hv,rv⟩:=r.get hq
   refine ⟨v,?_,rv⟩
   unfold L2.start
   rw [jj (by simp;omega)]
   simp [hv]
 ·rw [jd (by simpa using hi)] at hx
  rw [List.getElem?_replicate] at hx
  split at hx<;>cases hx
def mZ {x qual:Str}{sm:Stmt}{f:Addr}{fd:FuncData}{N ps:Ad}{k:Nat}{g:Aj}(F:cW K x qual sm f fd) (S:aR N ps (zL sm))
  (hb:∀(aV:Value) (A:Around) (outer:List Env) (s:Shared) (H:Hp) (E:XK),a5 k (A.deeper (PyProof.Rows.envOfC qual (zL sm) s.heap.objs.size f aV))->dz (mY P w K mg base N qual (zL sm) f aV A outer s H E) E (yT sm) g) :
  a_ P w K mg base (bW P w) (k+1) f fd ps (fw K mg (yz ps.length N.length g)):=by
 refine F.okT S (λvs H Q E h=>?_) λaV A outer s H vs Q E hr h=>⟨_,hb aV A outer s H E hr,?_⟩
 ·obtain ⟨xs,st,ρ,r,_,h⟩:=h
  obtain ⟨hl,_⟩:=Out.ifp h
  rw [<-r.len];exact hl
 ·obtain ⟨xs,st,ρ,r,rs,h⟩:=h
  obtain ⟨hl,h⟩:=Out.ifp h
  refine ⟨_,st,ρ,Fv r hl,rs,h.then λaf H1 fl ao e1 s1 h1=>?_⟩
  cases fl with
  | rt v=>exact λu ru=>Out.now (x:=v) h1 s1 u ru
  | nx e=>exact λah _=>Out.now (x:=PV.non) h1 s1 _ rfl
  | _=>exact h1.elim
def Fw {x:Str}{f:Addr}{fd:FuncData}{ps:Ad}{k:Nat}{m:Al}{sm:Stmt}{qual nm:Str}(hm:mg x=some (.ref f)) (F:cW K nm qual sm f fd) (hb:Binds K fd ps []) (h:a_ P w K mg base (bW P w) k f fd ps (fw K mg m)):cq P w K mg base x k m:=⟨f,fd,ps,hm,F.kp,hb,h⟩
end
section
variable {X:Cx}{Er:XK}{P:Program}{w:World}{K:Frag}{mg:Ab}{base:Heap}{pos:Pos}{x:Str}{st:Stmt}
def zy {k:Nat}{A:Around}(hr:a5 k A):A.units+200<cLine:=by have:=hr.un;omega
def kX:Aj:=λ_ _=>.stuck
def zeM:MS X Er st kX:=PS.weak Bu λD U H ⟨env,st,ρ,re,rs,h⟩=>h
def FnF (K:Frag) (mg:Ab) (x:Str) (sm:Stmt) (ps:Ad):Prop:=∃f fd,mg x=some (.ref f)/\cW K x x sm f fd/\Binds K fd ps []
def MtF (K:Frag) (mg:Ab) (c name qual:Str) (sm:Stmt) (ps:Ad):Prop:=∃C f fd,mg c=some (.ref C)/\dG K C/\Meth K C name f/\cW K name qual sm f fd/\Binds K fd ps []
def NwF (K:Frag) (mg:Ab) (c qual:Str) (sm:Stmt) (ps:Ad):Prop:=∃C f fd,mg c=some (.ref C)/\Mk K C f/\cW K "__init__" qual sm f fd/\Binds K fd ps []
def ud (K:Frag) (mg:Ab) (c fld qual:Str) (sm:Stmt):Prop:=∃C f fd,mg c=some (.ref C)/\n5 K C f/\gP K C fld/\cW K "__init__" qual sm f fd/\Binds K fd ["self", fld] []
def FnF.ok {sm:Stmt}{N ps:Ad}{k:Nat}{g:Aj}(h:FnF K mg x sm ps) (S:aR N ps (zL sm))
  (hb:∀(f:Addr) (aV:Value) (A:Around) (outer:List Env) (s:Shared) (H:Hp) (E:XK),a5 k (A.deeper (PyProof.Rows.envOfC x (zL sm) s.heap.objs.size f aV))->dz (mY P w K mg base N x (zL sm) f aV A outer s H E) E (yT sm) g) :
  cq P w K mg base x (k+1) (yz ps.length N.length g):=by
 obtain ⟨f,fd,hm,F,b⟩:=h
 exact Fw hm F b (mZ F S (hb f))
def MtF.ok {c name qual:Str}{sm:Stmt}{N ps:Ad}{k:Nat}{g:Aj}(h:MtF K mg c name qual sm ps) (S:aR N ps (zL sm))
  (hb:∀(f:Addr) (aV:Value) (A:Around) (outer:List Env) (s:Shared) (H:Hp) (E:XK),a5 k (A.deeper (PyProof.Rows.envOfC qual (zL sm) s.heap.objs.size f aV))->dz (mY P w K mg base N qual (zL sm) f aV A outer s H E) E (yT sm) g) :
  gQ P w K mg base c name (k+1) (yz ps.length N.length g):=by
 obtain ⟨C,f,fd,hm,cl,mt,F,b⟩:=h
 exact ⟨C,f,fd,ps,hm,cl,mt,b,mZ F S (hb f)⟩
def NwF.ok {c qual:Str}{sm:Stmt}{N ps:Ad}{k:Nat}{g:Aj}(h:NwF K mg c qual sm ps) (S:aR N ps (zL sm))
  (hb:∀(f:Addr) (aV:Value) (A:Around) (outer:List Env) (s:Shared) (H:Hp) (E:XK),a5 k (A.deeper (PyProof.Rows.envOfC qual (zL sm) s.heap.objs.size f aV))->dz (mY P w K mg base N qual (zL sm) f aV A outer s H E) E (yT sm) g) :
  pN P w K mg base c (k+1) (yz ps.length N.length g):=by
 obtain ⟨C,f,fd,hm,mk,F,b⟩:=h
 exact ⟨C,f,fd,ps,hm,mk,b,mZ F S (hb f)⟩
def ud.ok {c fld qual:Str} {sm:Stmt} (h:ud K mg c fld qual sm) (S:aR ["self", fld] ["self", fld] (zL sm))
  (hb:∀(C f:Addr) (aV:Value) (A:Around) (outer:List Env) (s:Shared) (H:Hp) (E:XK),gP K C fld->bM (cI (bW P w) P w K mg base ["self", fld] qual (zL sm) f aV A outer s H E) (yT sm) (DT K (lY 0) (lY 1) fld)) :
  EN P w K mg base c fld:=by
 obtain ⟨C,f,fd,hm,M,xc,F,b⟩:=h
 refine ⟨C,f,fd,hm,M,F.okX S (λvs H Q E h=>?_) (λaV A outer s H vs Q E hr h=>⟨_,hb C f aV A outer s H E xc,?_⟩),b⟩
 ·obtain ⟨a,t,y,rfl,_⟩:=h;rfl
 ·obtain ⟨a,t,y,rfl,ha,q⟩:=h
  exact ⟨y,rfl,.ref a,rfl,a,C,t,rfl,ha,xc,λd hd=>q d hd⟩
def iT {p:Addr} {oc:Value} {od:Option Addr} {its:Array Value} {n:Nat} {sl:Array (Option Value)} {xs:An} {vs:List V} (hl:K.lookup p=some ⟨oc,od,.seq its n,sl⟩) (hc:oc=.type "tuple") (hz:its.size<=1000) (hv:Vals vs its.toList) (hr:∀ρ H,Rs K mg ρ H xs vs):∀ρ H,R K mg ρ H (.tup xs) (.ref p) :=
 fun ρ H=>⟨p,vs,rfl,.inr ⟨_,its,n,hl,hc,rfl,by rw [sizeLine_eq];omega,hv⟩,hr ρ H⟩
def js:bootBuiltins "len" = some (.builtin "len"):=by decide +kernel
def wW:bootBuiltins "isinstance" = some (.builtin "isinstance"):=by decide +kernel
def Fx:bootBuiltins "int" = some (.type "int"):=by decide +kernel
def ue:bootBuiltins "str" = some (.type "str"):=by decide +kernel
def wD:bootBuiltins "tuple" = some (.type "tuple"):=by decide +kernel
def uf:bootBuiltins "dict" = some (.type "dict"):=by decide +kernel
def Fy:bootBuiltins "list" = some (.type "list"):=by decide +kernel
end
def cq.mono {P:Program}{w:World}{K:Frag}{mg:Ab}{base:Heap}{x:Str}{j k:Nat}{m:Al}(h:cq P w K mg base x j m) (pQ:j<=k):cq P w K mg base x k m:=by
 obtain ⟨f,fd,ps,h1,h2,h3,h4⟩:=h
 exact ⟨f,fd,ps,h1,h2,h3,h4.mono pQ⟩
def gQ.mono {P:Program}{w:World}{K:Frag}{mg:Ab}{base:Heap}{c x:Str}{j k:Nat}{m:Al}(h:gQ P w K mg base c x j m) (pQ:j<=k):gQ P w K mg base c x k m:=by
 obtain ⟨C,f,fd,ps,h1,h2,h3,h4,h5⟩:=h
 exact ⟨C,f,fd,ps,h1,h2,h3,h4,h5.mono pQ⟩
def fU (K:Frag):Sp:=λvs H Q _=>∃(a:Addr) (ns:List Int),vs=[.ref a]/\a3 K H a (ns.map V.int)/\Only H/\ns.length<=63/\∀H',Q (.bl true) H'
def ug {K:Frag}{mg:Ab}{ρ:Ae}{H:Hp}:∀ns:List Int,Rs K mg ρ H (ns.map PV.int) (ns.map V.int)
 | []=>rfl
 | n::ns=>⟨_,_,rfl,rfl,ug ns⟩
def Fz {K:Frag}{H:Hp}{a:Addr}{vs:List V}(h:a3 K H a vs) (o:Only H):fR K H a vs:=by
 rcases h with (h|⟨ob,h⟩)|h
 ·rcases o a with z|⟨ob,xs,z⟩
  ·rw [h] at z;cases z
  ·rw [h] at z;cases z
 ·exact .inl ⟨ob,h⟩
 ·exact .inr h
def FA {P:Program}{w:World}{K:Frag}{mg:Ab}{base:Heap}{k:Nat}{f:Addr}{fd:FuncData}{ps:Ad}{m:Al}(F:a_ P w K mg base (bW P w) k f fd ps (fw K mg m)) (h:∀ns:List Int,ns.length<=63->∃st,m [.frl (ns.map PV.int)] []=.ok (.bl true) st):a_ P w K mg base (bW P w) k f fd ps (fU K) :=
 F.imp λvs H Q E ⟨a,ns,e,hs,ho,hl,q⟩=>by
  subst e
  obtain ⟨st,hm⟩:=h ns hl
  refine ⟨[.frl (ns.map PV.int)],[],[],⟨_,[],rfl,⟨a,_,rfl,Fz hs ho,ug ns⟩,rfl⟩,⟨rfl,List.nodup_nil,λn so e=>by simp at e⟩,?_⟩
  rw [hm]
  intro ai H' _ _ v rv
  cases rv
  exact q H'
def walkM {l:PySem.W.OpenLaw}{k:Nat}{x:Str}{q:Program}{loose:Ad}{XP:(Ab)->Heap->Prop}{YP:World->Heap->Prop}{d:DefRec}{K:Params->PySem.W.Frag}(hn:l.most=some 63) (kr:d.params.defaults=[]) (hr:a5 k callerA)
  (hY:∀(w:World) (h:Heap),YP w h->(K w.params).In h)
  (F:∀(w:World) (mg:Ab) (fa:Addr) (h:Heap),(K w.params).In h->h.Ns mainGlobals mg->mg d.name=some (.ref fa) ->
   ∃fd:FuncData,(∀(s:Shared) (u:Value),BindsTo s fd ⟨[u],[]⟩ [(x,u)])/\∀base:Heap,(K w.params).In base->base.Ns mainGlobals mg->a_ l.prog w (K w.params) mg base (bW l.prog w) k fa fd [x] (fU (K w.params))) :
  PySem.W.WalkO q loose XP YP l.row.toRowW d [] (λf vs=>PySem.call f vs) :=
 L2.zju (n:=63) (k:=k) (x:=x) (CX:=λw=>bW l.prog w) (sp:=λw=>fU (K w.params)) hn (by decide) kr hr hY F (λ_ _ a ns hl ho hS=>⟨a,ns,rfl,hS,ho,hl,λ_=>rfl⟩) λw H s e s' ⟨_,_,_,_,_,_,_,_,_,_,_,_,_,_,_,z⟩=>z
section
variable {α β:Type}{env:zc}{st ao:ae}{fa fb fc fo fv:Ai}{fs:Ah}{ga gb:Ak}{g g':Aj}{op gy:Am}{o1:PV->Mo PV}{m:Al}
@[simp] def zD (a:α) (f:α->Mo β):(Res.ok a st).bind f=f a st:=(rfl)
@[simp] def KI (f:α->Mo β):(Res.stuck:Res α).bind f=.stuck:=(rfl)
@[simp] def KJ (p:Prop) [Decidable p] (a b:Res α) (f:α->Mo β):(if p then a else b).bind f=if p then a.bind f else b.bind f:=by split<;>rfl
@[simp] def FC (i:Nat):zd i env st=(match env[i]? with|some (some x)=>.ok x st|_=>.stuck):=(rfl)
@[simp] def KL (x:PV):mC x env st=.ok x st:=(rfl)
@[simp] def FD:ze op fa fb env st=(fa env st).bind λx ao=>(fb env ao).bind λy aA=>op x y aA:=(rfl)
@[simp] def FE:jz o1 fa env st=(fa env st).bind o1:=(rfl)
@[simp] def FF:mB fa env st=(fa env st).bind gs:=(rfl)
@[simp] def uh (b:Bool):gs (.bl b) st=.ok b st:=(rfl)
@[simp] def uk:yE ga gb env st=(ga env st).bind λc ao=>if c=true then gb env ao else .ok false ao:=(rfl)
@[simp] def uo:jO ga gb env st=(ga env st).bind λc ao=>if c=true then .ok true ao else gb env ao:=(rfl)
@[simp] def FG:iQ ga env st=(ga env st).bind λc ao=>.ok (!c) ao:=(rfl)
@[simp] def FH:kN fa fb env st=(fa env st).bind λx ao=>(gs x ao).bind λc aA=>if c=true then fb env aA else .ok (.bl false) aA:=(rfl)
@[simp] def KN:zn env st=.ok [] st:=(rfl)
@[simp] def FI:zf fa fs env st=(fa env st).bind λx ao=>(fs env ao).bind λxs aA=>.ok (x::xs) aA:=(rfl)
@[simp] def FJ:zS fs env st=(fs env st).bind λxs ao=>if xs.length<=lim then .ok (.tup xs) ao else .stuck:=(rfl)
@[simp] def FK:yU fs env st=(fs env st).bind λxs ao=>if xs.length<=lim then .ok (.ref ao.length) (ao++[.lst xs]) else .stuck:=(rfl)
@[simp] def FL (fl fu:zc->Mo (Option Int)):jB fa fl fu env st=(fa env st).bind λx ao=>(fl env ao).bind λl aA=>(fu env aA).bind λu a4=>kQ x l u a4:=(rfl)
@[simp] def KO:cP env st=.ok none st:=(rfl)
@[simp] def FN:bC fa env st=(fa env st).bind pL:=(rfl)
@[simp] def FP (i:Int):pL (.int i) st=.ok (some i) st:=(rfl)
@[simp] def FQ:zu m fs env st=(fs env st).bind m:=(rfl)
@[simp] def KP (C:Int->Int->Bool) (f:Int->Int->Int) (i j:Int):opI C f (.int i) (.int j) st=if C i j=true then .ok (.int (f i j)) st else .stuck:=(rfl)
@[simp] def KQ (f:Int->Int->Bool) (i j:Int):kP f (.int i) (.int j) st=.ok (.bl (f i j)) st:=(rfl)
@[simp] def KR (i j:Int):z8 (.int i) (.int j) st=.ok (.int (i+j)) st:=(rfl)
@[simp] def FT (x y:Str):z8 (.str x) (.str y) st=if x.length+y.length<=lim then .ok (.str (x++y)) st else .stuck:=(rfl)
@[simp] def KS (x:PV):br (some x) st=.ok x st:=(rfl)
@[simp] def uq (xs:An) (l u:Option Int):kQ (.tup xs) l u st=.ok (.tup (bS xs l u)) st:=(rfl)
@[simp] def FU (xs:An) (l u:Option Int):kQ (.frl xs) l u st=.ok (.ref st.length) (st++[.lst (bS xs l u)]):=(rfl)
@[simp] def KU (x y:PV):zQ x y st=if plain x=true/\plain y=true/\dep x<=150 then .ok (.bl (bg x y)) st else .stuck:=(rfl)
@[simp] def KW (x y:PV):wR x y st=if plain x=true/\plain y=true/\dep x<=150 then .ok (.bl (!bg x y)) st else .stuck:=(rfl)
@[simp] def FV:zW env st=.ok (.nx env) st:=(rfl)
@[simp] def ur:zA g g' env st=(g env st).bind (eB g'):=(rfl)
@[simp] def FW:eB g (.nx env) st=g env st:=(rfl)
@[simp] def FX (x:PV):eB g (.rt x) st=.ok (.rt x) st:=(rfl)
@[simp] def FY (i:Nat):zZ i fa env st=(fa env st).bind λx ao=>.ok (.nx (env.set i (some x))) ao:=(rfl)
@[simp] def FZ:jC fa env st=(fa env st).bind λ_ ao=>.ok (.nx env) ao:=(rfl)
@[simp] def F0:zP fa env st=(fa env st).bind λx ao=>.ok (.rt x) ao:=(rfl)
@[simp] def uu:zT ga g g' env st=(ga env st).bind λc ao=>if c=true then g env ao else g' env ao:=(rfl)
@[simp] def F1 (x:PV):endOf (.rt x) st=.ok x st:=(rfl)
@[simp] def KY (e:zc):endOf (.nx e) st=.ok .non st:=(rfl)
@[simp] def iU:jm fa env st=(fa env st).bind c9:=(rfl)
@[simp] def pR (src:zc->Mo Sq) (gt:PV->zc->Option zc):we src gt g env st=(src env st).bind λq ao=>kS gt g q env ao:=(rfl)
@[simp] def F2 (gt:PV->zc->Option zc) (xs:An):kS gt g (.im xs) env st=forL gt g xs env st:=(rfl)
@[simp] def KZ (gt:PV->zc->Option zc):forL gt g [] env st=.ok (.nx env) st:=(rfl)
@[simp] def K0 (x:PV) (xs:An):bo (x::xs)=(Mi.plain x&&bo xs):=(rfl)
@[simp] def K1 (x:PV) (xs:An):cU (x::xs)=max (dep x) (cU xs):=(rfl)
@[simp] def wX (a:α):bw (Res.ok a st)=.ok a st:=(rfl)
@[simp] def K2:c7 .non=true:=(rfl)
def yp {n:Nat}{xs:An}(h:st[n]?=some (.lst xs)) (k:List PV->Res α):z0 st n k=k xs:=by unfold z0;rw [h]
def uv {n:Nat}{c:Str}{ks:Ad}{xs:An}(h:st[n]?=some (.ins c ks xs)) (k:Str->List Str->List PV->Res α):jb st n k=k c ks xs:=by unfold jb;rw [h]
@[simp] def K3 (xs:An) (k:List PV->Res α):z0 (st++[.lst xs]) st.length k=k xs:=yp (by simp) k
def F3 {name:Str}{tab:Str->Option (Al)}{n:Nat}{c:Str}{ks:Ad}{xs:An}{m:Al}(h:st[n]?=some (.ins c ks xs)) (hk:name∉ks) (ht:tab c=some m) (k:Nat->(Al)->Res PV):dN name tab (.ref n) st k=k n m:=by
 unfold dN
 simp only [uv h,zC hk,ht]
@[simp] def F4 (f:Str) (i x:Str->Bool) (n:Nat):gR f i x (.ref n) st=jb st n λc ks xs=>if i c=true then br ((ks.zip xs).lookup f) st else .stuck:=(rfl)
@[simp] def K4 (ks:Ad) (ps:An) (z:Str):kT ks ps (.str z) st=br ((ks.zip ps).lookup z) st:=(rfl)
@[simp] def K5 (f:Str) (i:Str->Bool):Mi.sFld f i fo fv env st=(fv env st).bind λx ao=>(fo env ao).bind λo aA=>(putAt f i x o aA).bind λ_ a4=>.ok (.nx env) a4:=(rfl)
@[simp] def F5:jn op fo fv env st=(fo env st).bind λo ao=>(gw o ao).bind λo ao=>(fv env ao).bind λy aA=>op o y aA:=(rfl)
@[simp] def F6 (n:Nat):gw (.ref n) st=z0 st n λ_=>.ok (.ref n) st:=(rfl)
@[simp] def F7 (a b:String):(Str.ofString a=Str.ofString b)↔a=b:=by
 constructor
 ·intro h
  rw [Str.ofString_eq_byList] at h
  have h1:(a.toList.map Char.toNat)=(b.toList.map Char.toNat):=by
   have:=congrArg (λz=>z.cps.toList) h
   simpa [Str.ofStringByList] using this
  apply String.ext_iff.mpr
  exact (List.map_inj_right (λc d e=>Char.toNat_inj.mp e)).mp h1
 ·intro h;rw [h]
def pS (n:Nat):bp ga g (n+1) env st=(ga env st).bind λc ao=>if c=true then (g env ao).bind λfl aA=>match fl with
   | .nx e=>bp ga g n e aA
   | .ct e=>bp ga g n e aA
   | .bk e=>.ok (.nx e) aA
   | .rt v=>.ok (.rt v) aA
  else .ok (.nx env) ao:=rfl
@[simp] def K6 (f:Str) (i:Str->Bool) (x:PV) (n:Nat):Mi.putAt f i x (.ref n) st=jb st n λc ks xs=>if i c=true/\ks.length<1000 then .ok () (st.set n (.ins c (putK f x ks xs).1 (putK f x ks xs).2)) else .stuck:=(rfl)
end
section
variable {K:Frag}{mg:Ab}{h:Heap}{x:Str}{f C:Addr}{oc:Value}{od an:Option Addr}{dH:Array (Option Value)}{kV doc pm aV ct:Value}{sm:Stmt}{ps:Ad}
def zbA (X:K.In h) (G:h.Ns mainGlobals mg) (a:nsIn K mainGlobals x=some (some (.ref f))) (l:K.lookup f=some ⟨oc,od,.func (fnOf x x (jM sm) (yT sm) (zL sm) .none kV doc pm an aV ct),dH⟩) (c:codeIn K aV x=true) (k:keepIn K (.ref f)=true)
  (b:∀(kV doc pm:Value) (an:Option Addr) (aV ct:Value) (us:Af),us.length=ps.length->bindArgs (fnOf x x (jM sm) (yT sm) (zL sm) .none kV doc pm an aV ct) ⟨us,[]⟩=pure (ps.zip us)):FnF K mg x sm ps :=
 ⟨f,_,mg_of X G a,iJ l c k,(iJ l c k).binds b⟩
def zlw {c name qual:Str} (X:K.In h) (G:h.Ns mainGlobals mg) (aC:nsIn K mainGlobals c=some (some (.ref C))) (pg:plainGet K C Str.empty=true) (hd:hasDictIn K C=true) (po:plainOver K C=true) (sa:findIn K (.ref C) "__setattr__" = some (some (.builtin "object.__setattr__")))
  (a:findIn K (.ref C) name=some (some (.ref f))) (i:isFn K (.ref f)=true) (l:K.lookup f=some ⟨oc,od,.func (fnOf name qual (jM sm) (yT sm) (zL sm) .none kV doc pm an aV ct),dH⟩) (cd:codeIn K aV qual=true) (k:keepIn K (.ref f)=true)
  (b:∀(kV doc pm:Value) (an:Option Addr) (aV ct:Value) (us:Af),us.length=ps.length->bindArgs (fnOf name qual (jM sm) (yT sm) (zL sm) .none kV doc pm an aV ct) ⟨us,[]⟩=pure (ps.zip us)):MtF K mg c name qual sm ps :=
 ⟨C,f,_,mg_of X G aC,⟨pg,hd,po,sa⟩,⟨a,i,k⟩,iJ l cd k,(iJ l cd k).binds b⟩
def zlx {c qual:Str}(X:K.In h) (G:h.Ns mainGlobals mg) (aC:nsIn K mainGlobals c=some (some (.ref C))) (mk:makesIn K C=true) (kc:keepIn K (.ref C)=true)
  (a:findIn K (.ref C) "__init__" = some (some (.ref f))) (i:isFn K (.ref f)=true) (l:K.lookup f=some ⟨oc,od,.func (fnOf "__init__" qual (jM sm) (yT sm) (zL sm) .none kV doc pm an aV ct),dH⟩) (cd:codeIn K aV qual=true) (k:keepIn K (.ref f)=true)
  (b:∀(kV doc pm:Value) (an:Option Addr) (aV ct:Value) (us:Af),us.length=ps.length->bindArgs (fnOf "__init__" qual (jM sm) (yT sm) (zL sm) .none kV doc pm an aV ct) ⟨us,[]⟩=pure (ps.zip us)):NwF K mg c qual sm ps :=
 ⟨C,f,_,mg_of X G aC,⟨mk,a,i,kc⟩,iJ l cd k,(iJ l cd k).binds b⟩
def zly {c fld:Str} (X:K.In h) (G:h.Ns mainGlobals mg) (aC:nsIn K mainGlobals c=some (some (.ref C))) (pg:plainGet K C Str.empty=true) (hd:hasDictIn K C=true) (po:plainOver K C=true) (sa:findIn K (.ref C) "__setattr__" = some (some (.builtin "object.__setattr__"))) (na:findIn K (.ref C) fld=some none) :
  ∃C,mg c=some (.ref C)/\dG K C/\cw K C fld:=⟨C,mg_of X G aC,⟨pg,hd,po,sa⟩,na⟩
def zlz {α:Type}{P:α->Prop}:∀p∈([]:List α),P p:=λ_ h=>nomatch h
def all_cons {α:Type}{P:α->Prop}{a:α}{l:List α}(h:P a) (t:∀p∈l,P p):∀p∈a::l,P p:=λp hp=>by
 rcases yv.mp hp with rfl|hp
 ·exact h
 ·exact t p hp
def uw {α β:Type} [BEq α] [LawfulBEq α] {a:α}{b:β}:∀{l:List (α×β)},l.lookup a=some b->(a,b)∈l
 | [],h=>by simp at h
 | (c,d)::l,h=>by
  rw [jf] at h
  split at h
  ·rename_i e;cases h;rw [eq_of_beq e];simp
  ·exact y9 _ (uw h)
def j4 {O t t2:Addr} {wd k1 k2 y:Str} {u1 u2:Tok} {n n2:Nat} {kY:Option Addr} {sl dX:Array (Option Value)} (X:K.In h) (G:h.Ns mainGlobals mg) (e:nsIn K O wd=some (some (.ref t))) (l1:K.lookup t=some ⟨.type "tuple", od,.seq #[.ref t2,.ref f] n,sl⟩)
  (l2:K.lookup t2=some ⟨.type "tuple", kY,.seq #[.str k1 u1,.str k2 u2] n2,dX⟩) (a:nsIn K mainGlobals y=some (some (.ref f))):∃u v,nsIn K O wd=some (some u)/\RelV v u/\∀ρ H,R K mg ρ H (.tup [.tup [.str k1,.str k2],.fn y]) v:=by
 refine ⟨_,.ref t,e,rfl,iT (xs:=[.tup [.str k1,.str k2],.fn y]) (vs:=[.ref t2,.ref f]) l1 rfl (by simp) (.cons rfl (.cons rfl .nil)) fun ρ H=>?_⟩
 exact ⟨_,_,rfl,iT (xs:=[.str k1,.str k2]) (vs:=[.str k1,.str k2]) l2 rfl (by simp) (.cons ⟨_,rfl⟩ (.cons ⟨_,rfl⟩ .nil)) (fun ρ H=>⟨_,_,rfl,rfl,_,_,rfl,rfl,rfl⟩) ρ H,_,_,rfl,⟨f,rfl,mg_of X G a⟩,rfl⟩
def zaO {O t t2:Addr} {wd k1 y:Str} {u1:Tok} {n n2:Nat} {kY:Option Addr} {sl dX:Array (Option Value)} (X:K.In h) (G:h.Ns mainGlobals mg) (e:nsIn K O wd=some (some (.ref t))) (l1:K.lookup t=some ⟨.type "tuple", od,.seq #[.ref t2,.ref f] n,sl⟩)
  (l2:K.lookup t2=some ⟨.type "tuple", kY,.seq #[.str k1 u1] n2,dX⟩) (a:nsIn K mainGlobals y=some (some (.ref f))):∃u v,nsIn K O wd=some (some u)/\RelV v u/\∀ρ H,R K mg ρ H (.tup [.tup [.str k1],.fn y]) v:=by
 refine ⟨_,.ref t,e,rfl,iT (xs:=[.tup [.str k1],.fn y]) (vs:=[.ref t2,.ref f]) l1 rfl (by simp) (.cons rfl (.cons rfl .nil)) fun ρ H=>?_⟩
 exact ⟨_,_,rfl,iT (xs:=[.str k1]) (vs:=[.str k1]) l2 rfl (by simp) (.cons ⟨_,rfl⟩ .nil) (fun ρ H=>⟨_,_,rfl,rfl,rfl⟩) ρ H,_,_,rfl,⟨f,rfl,mg_of X G a⟩,rfl⟩
end
def zlA {P:Program}{w:World}{K:Frag}{mg:Ab}{x y:Str}{sm:Stmt}{fa:Addr}{k:Nat}{m:Al}(h:FnF K mg x sm [y]) (hmg:mg x=some (.ref fa))
  (hb:∀(kV doc pm:Value) (an:Option Addr) (aV ct:Value) (u:Value),bindArgs (fnOf x x (jM sm) (yT sm) (zL sm) .none kV doc pm an aV ct) ⟨[u],[]⟩=pure [(y,u)])
  (hok:∀(f:Addr) (fd:FuncData),cW K x x sm f fd->∀base:Heap,a_ P w K mg base (bW P w) k f fd [y] (fw K mg m)) (hp:∀ns:List Int,ns.length<=63->∃st,m [.frl (ns.map PV.int)] []=.ok (.bl true) st) :
  ∃fd:FuncData,(∀(s:Shared) (u:Value),BindsTo s fd ⟨[u],[]⟩ [(y,u)])/\∀base:Heap,K.In base->base.Ns mainGlobals mg->a_ P w K mg base (bW P w) k fa fd [y] (fU K):=by
 obtain ⟨f,fd,hm,F,_⟩:=h
 rw [hmg] at hm
 cases hm
 refine ⟨fd,λs u=>?_,λbase _ _=>FA (hok fa fd F base) hp⟩
 obtain ⟨oc,od,kV,doc,pm,an,aV,ct,dH,rfl,_⟩:=F.ex
 exact .of_eq (hb kV doc pm an aV ct u)
def zlB {K:Frag}{mg:Ab}{h:Heap}{x:Str}(X:K.In h) (G:h.Ns mainGlobals mg) (a:nsIn K mainGlobals x=some none):mg x=none:=mg_none_of X G a
section
variable {X:Cx}{Er:XK}{K:Frag}{mg:Ab}{a b c e o:Expr}{es:List Expr}{pos p apos pos':Pos}{fa fb fc fo:Ai}{fs:Ah}
abbrev kz (ks:Ad) (vs:List V):List (Key×V):=(ks.map Sum.inr).zip vs
def kZ {z:Str}:∀{ks:Ad}{vs:List V},cm (kz ks vs) (Sum.inr z)=(ks.zip vs).lookup z
 | [],_=>by simp [kz,cm]
 | k::ks,[]=>by simp [kz,cm]
 | k::ks,v::vs=>by
  have ih:=kZ (z:=z) (ks:=ks) (vs:=vs)
  by_cases h:k=z
  ·subst h
   rw [show kz (k::ks) (v::vs)=(Sum.inr k,v)::kz ks vs from rfl,mw rfl]
   simp [jf]
  ·rw [show kz (k::ks) (v::vs)=(Sum.inr k,v)::kz ks vs from rfl,mx (by simpa using h),ih]
   have:(z==k)=false:=by simpa using λq=>h q.symm
   simp [jf,this]
def ux {z:Str}:∀{ks:Ad}{vs:List V},ks.length=vs.length->((kz ks vs).any λkv=>decide (kv.1=Sum.inr z))=ks.contains z
 | [],_,_=>by simp [kz]
 | k::ks,[],h=>by simp at h
 | k::ks,v::vs,h=>by
  have ih:=ux (z:=z) (ks:=ks) (vs:=vs) (by simpa using h)
  rw [show kz (k::ks) (v::vs)=(Sum.inr k,v)::kz ks vs from rfl,List.any_cons,ih,List.contains_cons]
  congr 1
  by_cases hz:k=z
  ·subst hz;simp
  ·have:(z==k)=false:=by simpa using λq=>hz q.symm
   simp [hz,this]
def repl {α:Type}(z:Str) (x:α):List Str->List α->List α
 | k::ks,y::ys=>(if k=z then x else y)::repl z x ks ys
 | _,ys=>ys
def jt (z:Str) (x:PV) (ks:Ad) (xs:An):List Str×List PV:=if ks.contains z=true then (ks,repl z x ks xs) else (ks++[z],xs++[x])
def uz {z:Str}{v:V}:∀{ks:Ad}{vs:List V},(kz ks vs).map (λkv=>if kv.1=Sum.inr z then (kv.1,v) else kv)=kz ks (repl z v ks vs)
 | [],_=>by simp [kz]
 | k::ks,[]=>by simp [kz,repl]
 | k::ks,w::vs=>by
  rw [show kz (k::ks) (w::vs)=(Sum.inr k,w)::kz ks vs from rfl,yC,uz,show repl z v (k::ks) (w::vs)=(if k=z then v else w)::repl z v ks vs from rfl,show ∀u us,kz (k::ks) (u::us)=(Sum.inr k,u)::kz ks us from λ_ _=>rfl]
  by_cases h:k=z
  ·subst h;simp
  ·rw [zC (by simpa using h),zC h]
def uA {ρ:Ae}{H:Hp}{z:Str}{x:PV}{v:V}(r:R K mg ρ H x v):∀{ks:Ad}{xs:An}{vs:List V},Rs K mg ρ H xs vs->Rs K mg ρ H (repl z x ks xs) (repl z v ks vs)
 | [],xs,vs,h=>by cases xs<;>cases vs<;>exact h
 | k::ks,[],vs,h=>by cases h;exact rfl
 | k::ks,y::ys,vs,h=>by
  obtain ⟨w,ws,rfl,h1,h2⟩:=h
  refine ⟨_,_,rfl,?_,uA r h2⟩
  split
  ·exact r
  ·exact h1
def uB {α:Type}{z:Str}{x:α}:∀{ks:Ad}{xs:List α},(repl z x ks xs).length=xs.length
 | [],xs=>by cases xs<;>rfl
 | k::ks,[]=>rfl
 | k::ks,y::ys=>by simp [repl,uB (ks:=ks)]
def uC {ρ:Ae}{H:Hp}{z:Str}{x:PV}{v:V}(r:R K mg ρ H x v) {ks:Ad}{xs:An}{vs:List V}(hl:ks.length=vs.length) (h:Rs K mg ρ H xs vs):∃ws,L2.putK (kz ks vs) (Sum.inr z) v=kz (jt z x ks xs).1 ws/\Rs K mg ρ H (jt z x ks xs).2 ws/\(jt z x ks xs).1.length=ws.length:=by
 unfold L2.putK jt
 rw [ux hl]
 by_cases hc:ks.contains z=true
 ·rw [zw hc,zw hc]
  exact ⟨repl z v ks vs,uz,uA r h,by rw [uB];exact hl⟩
 ·rw [zC hc,zC hc]
  refine ⟨vs++[v],?_,h.append ⟨v,[],rfl,r,rfl⟩,by simp [hl]⟩
  show _=(List.map Sum.inr (ks++[z])).zip (vs++[v])
  rw [i_,List.zip_append (by simpa using hl)]
  rfl
def pU:Ai:=λ_ st=>.ok (.ref st.length) (st++[.dic [] []])
def ze3:ME X Er (.Dict [] [] pos) pU:=PE.weak DG λU H Q ⟨env,st,ρ,re,rs,h⟩=>λq hq =>
 h (ρ++[q]) _ (Ext.push hq) (rs.push hq ⟨[],yx,rfl,rfl⟩) _ ⟨q,rfl,by rw [<-rs.len];simp⟩
def uD:Am
 | .ref n,.str z,st=>yY st n λks xs=>br ((ks.zip xs).lookup z) st
 | _,_,_=>.stuck
def zB:Am
 | .ref n,.str z,st=>uD (.ref n) (.str z) st
 | x,y,st=>pE x y st
def F8:R2:=λx y H Q=>∃a v,x=.ref a/\c4 H a y (some v)/\Q v H
def uE (hu:X.A.units+1<cLine):dY X F8:=by
 intro value slice pins s U H x y v u Q I rx ry h hs
 obtain ⟨a,w,rfl,g,q⟩:=h
 obtain rfl:v=Value.ref a:=rx
 exact PyProof.Rows.tail_any (DC I g) PySem.F.slot_dict_getitem.lookup (Dy hu I g ry λw' s' I' cY=>⟨w,H,I',cY,q⟩) hs
def R.refD {ρ:Ae}{H:Hp}{st:ae}{n:Nat}{ks:Ad}{xs:An}{v:V}(s:aY K mg ρ H st) (r:R K mg ρ H (.ref n) v) (h:st[n]?=some (.dic ks xs)):∃a vs,v=.ref a/\ρ[n]?=some a/\H a=some (.dK (kz ks vs))/\Rs K mg ρ H xs vs/\ks.length=vs.length:=by
 obtain ⟨a,rfl,ha⟩:=r
 obtain ⟨vs,h1,h2,h3⟩:=s.addr h ha
 exact ⟨a,vs,rfl,ha,h1,h2,h3⟩
def uF {H:Hp}{a:Addr}{ks:Ad}{vs:List V}{z:Str}(h:H a=some (.dK (kz ks vs))):c4 H a (.str z) ((ks.zip vs).lookup z):=by
 have g:=c4.k (k:=Sum.inr z) h
 rw [kZ] at g
 exact g
def ye (hu:X.A.units+200<cLine):iu X zB:=by
 obtain ⟨r,h1,h2⟩:=EB (X:=X)
 refine ⟨_,h1.or (uE (by omega)),fun ρ H st x y v w Q E s rx ry h=>?_⟩
 by_cases hx:∃n z,x=.ref n/\y=.str z
 ·obtain ⟨n,z,rfl,rfl⟩:=hx
  obtain ⟨ks,xs,e,h⟩:=pj (show Out X.K X.mg ρ H (yY st n λks xs=>br ((ks.zip xs).lookup z) st) (gV X.K X.mg Q) E from h)
  obtain ⟨q,hq,h⟩:=wc h
  obtain ⟨a,vs,rfl,_,k1,k2,_⟩:=R.refD s rx e
  cases ry
  obtain ⟨v,hv,rv⟩:=wB k2 hq
  refine .inr ⟨a,v,rfl,?_,h.now s _ rv⟩
  have g:=uF (z:=z) k1
  rw [hv] at g
  exact g
 ·refine .inl (h2 ρ H st x y v w Q E s rx ry ?_)
  have:zB x y st=pE x y st:=by
   unfold zB
   split
   ·rename_i n z;exact absurd ⟨n,z,rfl,rfl⟩ hx
   ·rfl
  rw [this] at h
  exact h
def wY (z x:PV):PV->Mo Unit
 | .ref n,st=>match z with
  | .str z=>yY st n λks xs=>if ks.length<lim then .ok () (st.set n (.dic (jt z x ks xs).1 (jt z x ks xs).2)) else .stuck
  | _=>.stuck
 | _,_=>.stuck
def jD (fo fi fv:Ai):Aj:=λenv st=>(fv env st).bind λx ao=>(fo env ao).bind λo aA=>(fi env aA).bind λz a4=>(wY z x o a4).bind λ_ k7=>.ok (.nx env) k7
def F9 {i value:Expr}{fi fv:Ai}(hu:X.A.units+200<cLine) (ho:ME X Er o fo) (hi:ME X Er i fi) (hv:ME X Er value fv) (hs:swapsWith value (some (.Subscript o i pos')) pos.line X.env=pure false:=by rfl):MS X Er (.Assign [.Subscript o i pos'] value pos) (jD fo fi fv) :=
 PS.weak (DE (by omega) ho hi hv hs) λD U H ⟨env,st,ρ,re,rs,h⟩=>⟨env,st,ρ,re,rs,h.then λaf H1 x ao e1 s1 h1 v rv=>⟨env,ao,af,re.ext e1,s1,h1.then λar H2 y aA e2 s2 h2 w rw=>⟨env,aA,ar,(re.ext e1).ext e2,s2,h2.then λak H3 zz a4 e3 s3 h3 u ru=>by
  cases y with
  | ref n =>
   cases zz with
   | str z =>
    cases hn:a4[n]? with
    | none=>simp only [wY,yY,hn] at h3;exact h3.elim
    | some so =>
     cases so with
     | lst _=>simp only [wY,yY,hn] at h3;exact h3.elim
     | ins _ _ _=>simp only [wY,yY,hn] at h3;exact h3.elim
     | fdi _ _=>simp only [wY,yY,hn] at h3;exact h3.elim
     | dit _ _=>simp only [wY,yY,hn] at h3;exact h3.elim
     | dic ks xs =>
      simp only [wY,yY,hn] at h3
      by_cases hc:ks.length<lim
      ·rw [zw hc] at h3
       obtain ⟨a,vs,e4,ha,k1,k2,k3⟩:=R.refD s3 (R.ext e3 _ rw) hn
       subst e4
       cases ru
       obtain ⟨ws,q1,q2,q3⟩:=uC (z:=z) (R.ext e3 x (R.ext e2 x rv)) k3 k2
       have hlen:(kz ks vs).length<sizeLine:=by
        have:(kz ks vs).length=ks.length:=by simp [kz,k3]
        rw [this,sizeLine_eq]
        have:ks.length<1000000:=hc
        omega
       have g:=e6.k (k:=Sum.inr z) (v:=v) k1 hlen
       have ew:Ext ak H3 ak (upd H3 a (.dK (L2.putK (kz ks vs) (Sum.inr z) v))):=Ext.write k1 rfl
       refine ⟨a,_,rfl,g,h3 ak _ ew (s3.write ha ew ⟨ws,by rw [yx,q1],Rs.ext ew _ q2,q3⟩) U ((((re.ext e1).ext e2).ext e3).ext ew)⟩
      ·rw [zC hc] at h3;exact h3.elim
   | _=>exact h3.elim
  | _=>exact h3.elim⟩⟩⟩
end
open Classical in
noncomputable def dO (K:Frag) (mg:Ab) (ρ:Ae) (H:Hp) (ys:An) (x:PV) (u:Value):Bool:=decide (∃y v,y∈ys/\R K mg ρ H y v/\RelV v u/\bg y x=true)
section
variable {X:Cx}{Er:XK}{K:Frag}{mg:Ab}{ρ:Ae}{pins:Ac}{U:L2.St}{H:Hp}{s:Shared}
def okIn (x:PV) (ys:An):Prop:=Mi.plain x=true/\bo ys=true/\cU ys<=150
instance (x:PV) (ys:An):Decidable (okIn x ys):=by unfold okIn;infer_instance
def Rs.mem:∀{xs:An}{vs:List V}{us:Af}{u:Value},Rs K mg ρ H xs vs->Vals vs us->u∈us->∃y v,y∈xs/\R K mg ρ H y v/\RelV v u
 | [],_,_,_,h,hv,hu=>by cases h;cases hv;cases hu
 | x::xs,_,_,u,h,hv,hu=>by
  obtain ⟨v,r,rfl,h1,h2⟩:=h
  cases hv with
  | cons r1 r2 =>
   rcases yv.mp hu with rfl|hu
   ·exact ⟨x,v,by simp,h1,r1⟩
   ·obtain ⟨y,w,q1,q2,q3⟩:=Rs.mem h2 r2 hu
    exact ⟨y,w,by simp [q1],q2,q3⟩
def Rs.mem':∀{xs:An}{vs:List V}{us:Af}{y:PV},Rs K mg ρ H xs vs->Vals vs us->y∈xs->∃u v,u∈us/\R K mg ρ H y v/\RelV v u
 | [],_,_,_,_,_,hy=>by cases hy
 | x::xs,_,_,y,h,hv,hy=>by
  obtain ⟨v,r,rfl,h1,h2⟩:=h
  cases hv with
  | cons r1 r2 =>
   rcases yv.mp hy with rfl|hy
   ·exact ⟨_,v,by simp,h1,r1⟩
   ·obtain ⟨u,w,q1,q2,q3⟩:=Rs.mem' h2 r2 hy
    exact ⟨u,w,by simp [q1],q2,q3⟩
def F_ {ys:An}{y:PV}(h:bo ys=true) (hy:y∈ys):Mi.plain y=true:=by
 obtain ⟨i,hi⟩:=List.getElem?_of_mem hy
 exact mL h hi
def Ga {ys:An}{y:PV}(hy:y∈ys):dep y<=cU ys:=by
 obtain ⟨i,hi⟩:=List.getElem?_of_mem hy
 exact pF hi
open Classical in
def uG (I:Inv X pins U H s) {A:Around}(hu:A.units+200<cLine) {ys:An}{vs:List V}{us:Af}{x:PV}{w:V}{v:Value}(ok:okIn x ys) (ry:Rs X.K mg ρ H ys vs) (rv:Vals vs us) (rx:R X.K mg ρ H x w) (rw:RelV w v) :
  (∀u∈us,SeqAt.EqAt A.in1 s u v (dO X.K mg ρ H ys x u))/\us.any (dO X.K mg ρ H ys x)=ys.any λy=>bg y x:=by
 obtain ⟨px,py,hd⟩:=ok
 have one:∀y v' u,y∈ys->R X.K mg ρ H y v'->RelV v' u->SeqAt.EqAt A.in1 s u v (bg y x):=λy v' u hy r1 r2 =>
  (pG I 150 y x A.in1 (yM (Ga hy) hd) (F_ py hy) px r1 rx r2 rw (by rw [mM];omega)).1
 refine ⟨λu uH=>?_,?_⟩
 ·obtain ⟨y,v',q1,q2,q3⟩:=Rs.mem ry rv uH
  by_cases h:∃y v,y∈ys/\R X.K mg ρ H y v/\RelV v u/\bg y x=true
  ·have e:dO X.K mg ρ H ys x u=true:=by simpa [dO] using h
   obtain ⟨y2,v2,z1,z2,z3,z4⟩:=h
   rw [e,<-z4]
   exact one y2 v2 u z1 z2 z3
  ·have e:dO X.K mg ρ H ys x u=false:=by unfold dO;exact yA h
   rw [e]
   have:bg y x=false:=by
    cases hq:bg y x with
    | false=>rfl
    | true=>exact absurd ⟨y,v',q1,q2,q3,hq⟩ h
   rw [<-this]
   exact one y v' u q1 q2 q3
 ·rw [Bool.eq_iff_iff]
  simp only [List.any_eq_true]
  constructor
  ·rintro ⟨u,uH,he⟩
   have h:∃y v,y∈ys/\R X.K mg ρ H y v/\RelV v u/\bg y x=true:=by unfold dO at he;exact of_decide_eq_true he
   obtain ⟨y,v',z1,_,_,z4⟩:=h
   exact ⟨y,z1,z4⟩
  ·rintro ⟨y,hy,he⟩
   obtain ⟨u,v',q1,q2,q3⟩:=Rs.mem' ry rv hy
   exact ⟨u,q1,by unfold dO;exact je ⟨y,v',hy,q2,q3,he⟩⟩
def yD (neg:Bool):Am
 | x,.tup ys,st=>if okIn x ys then .ok (.bl (neg.xor (ys.any λy=>bg y x))) st else .stuck
 | x,.frl ys,st=>if okIn x ys then .ok (.bl (neg.xor (ys.any λy=>bg y x))) st else .stuck
 | x,.ref n,st=>match st[n]?,x with
  | some (.lst ys),x=>if okIn x ys then .ok (.bl (neg.xor (ys.any λy=>bg y x))) st else .stuck
  | some (.dic ks xs),.str z=>.ok (.bl (neg.xor ((ks.zip xs).lookup z).isSome)) st
  | _,_=>.stuck
 | .str ⟨⟨[c]⟩⟩,.str z,st=>.ok (.bl (neg.xor (decide (c∈z.cps.toList)))) st
 | _,_,_=>.stuck
def pV (K:Frag) (mg:Ab) (neg:Bool):R2:=λv w H Q =>
 (∃ρ x ys vs p,okIn x ys/\w=.ref p/\(a3 K H p vs\/bt K H p vs)/\Rs K mg ρ H ys vs/\R K mg ρ H x v/\Q (.bl (neg.xor (ys.any λy=>bg y x))) H) \/
 (∃p o,w=.ref p/\c4 H p v o/\Q (.bl (neg.xor o.isSome)) H)\/∃(c:Nat) (z:Str),v=.str ⟨#[c]⟩/\w=.str z/\Q (.bl (neg.xor (decide (c∈z.cps.toList)))) H
def uI (hu:X.A.units+200<cLine):bf X (compareOp .In) (pV X.K X.mg false):=by
 intro pins s U H x y v u Q I rx ry h
 rcases h with ⟨ρ,a,ys,vs,p,ok,rfl,hq,uJ,ra,q⟩|⟨p,o,rfl,g,q⟩|⟨c,z,rfl,rfl,q⟩
 ·obtain rfl:u=Value.ref p:=ry
  rcases hq with hq|hq
  ·obtain ⟨its,r,pl,_⟩:=I.list hq
   obtain ⟨f1,f2⟩:=uG I hu ok uJ r ra rx
   refine SeqAt.in_listAt (dO X.K X.mg ρ H ys a) pl.isList (λw hw=>f1 w (by simpa using hw)) ⟨.bl _,H,I,rfl,?_⟩
   rw [show its.toArray.any (dO X.K X.mg ρ H ys a)=its.any (dO X.K X.mg ρ H ys a) by simp,f2]
   simpa using q
  ·obtain ⟨its,r,pl,_⟩:=I.tuple hq
   obtain ⟨f1,f2⟩:=uG I hu ok uJ r ra rx
   refine SeqAt.in_tupleAt (dO X.K X.mg ρ H ys a) pl (λw hw=>f1 w (by simpa using hw)) ⟨.bl _,H,I,rfl,?_⟩
   rw [show its.toArray.any (dO X.K X.mg ρ H ys a)=its.any (dO X.K X.mg ρ H ys a) by simp,f2]
   simpa using q
 ·obtain rfl:u=Value.ref p:=ry
  exact Dz (by omega) I g rx λs' I'=>⟨.bl o.isSome,H,I',rfl,by simpa using q⟩
 ·exact Dw pins s U H _ _ v u Q I rx ry ⟨c,z,rfl,rfl,by simpa using q⟩
def uK {neg:Bool}:d_ K mg (pV K mg neg) (yD neg):=by
 intro ρ H st x y v w Q E s rx ry h
 cases y with
 | tup ys =>
  obtain ⟨p,vs,rfl,k1,k2⟩:=ry
  obtain ⟨ok,h⟩:=Out.ifp (show Out K mg ρ H (if okIn x ys then .ok (.bl (neg.xor (ys.any λy=>bg y x))) st else .stuck) (gV K mg Q) E from by cases x<;>exact h)
  exact .inl ⟨ρ,x,ys,vs,p,ok,rfl,.inr k1,k2,rx,h.now s _ rfl⟩
 | frl ys =>
  obtain ⟨p,vs,rfl,k1,k2⟩:=ry
  obtain ⟨ok,h⟩:=Out.ifp (show Out K mg ρ H (if okIn x ys then .ok (.bl (neg.xor (ys.any λy=>bg y x))) st else .stuck) (gV K mg Q) E from by cases x<;>exact h)
  exact .inl ⟨ρ,x,ys,vs,p,ok,rfl,.inl k1.sq,k2,rx,h.now s _ rfl⟩
 | ref n =>
  cases hn:st[n]? with
  | none=>exfalso;cases x<;>(simp only [yD,hn] at h;exact h)
  | some so =>
   cases so with
   | lst ys =>
    obtain ⟨p,vs,rfl,_,k1,k2⟩:=R.refL s ry hn
    obtain ⟨ok,h⟩:=Out.ifp (show Out K mg ρ H (if okIn x ys then .ok (.bl (neg.xor (ys.any λy=>bg y x))) st else .stuck) (gV K mg Q) E from by cases x<;>(simp only [yD,hn] at h;exact h))
    exact .inl ⟨ρ,x,ys,vs,p,ok,rfl,.inl (a3.of k1),k2,rx,h.now s _ rfl⟩
   | dic ks xs =>
    obtain ⟨p,vs,rfl,_,k1,k2,k3⟩:=R.refD s ry hn
    cases x with
    | str z =>
     simp only [yD,hn] at h
     cases rx
     refine .inr (.inl ⟨p,_,rfl,uF k1,?_⟩)
     have e:((ks.zip vs).lookup z).isSome=((ks.zip xs).lookup z).isSome:=by
      cases hq:(ks.zip xs).lookup z with
      | some q=>obtain ⟨v,hv,_⟩:=wB k2 hq;rw [hv];rfl
      | none =>
       have:z∉ks:=by
        intro hz
        obtain ⟨i,hi⟩:=List.getElem?_of_mem hz
        have hl:i<xs.length:=by rw [k2.len,<-k3];exact (yf.mp hi).1
        have:=List.lookup_eq_none_iff.mp hq (z,xs[i]) (List.mem_iff_getElem?.mpr ⟨i,by simp [List.getElem?_zip_eq_some,hi,hl]⟩)
        simp at this
       rw [mQ this];rfl
     rw [e]
     exact h.now s _ rfl
    | _=>simp only [yD,hn] at h;exact h.elim
   | ins c ks xs=>exfalso;cases x<;>(simp only [yD,hn] at h;exact h)
   | fdi ks xs=>exfalso;cases x<;>(simp only [yD,hn] at h;exact h)
   | dit ks xs=>exfalso;cases x<;>(simp only [yD,hn] at h;exact h)
 | str z =>
  cases x with
  | str q =>
   obtain ⟨⟨l⟩⟩:=q
   match l,rx,h with
   | [c],rx,h=>cases rx;cases ry;exact .inr (.inr ⟨c,z,rfl,rfl,Out.now (x:=PV.bl _) h s _ rfl⟩)
   | [],rx,h=>exact h.elim
   | _::_::_,rx,h=>exact h.elim
  | _=>exact h.elim
 | non=>exfalso;cases x<;>exact h
 | bl _=>exfalso;cases x<;>exact h
 | int _=>exfalso;cases x<;>exact h
 | ty _=>exfalso;cases x<;>exact h
 | fn _=>exfalso;cases x<;>exact h
 | kd _ _=>exfalso;cases x<;>exact h
 | exo _ _ _=>exfalso;cases x<;>exact h
def zbB (hu:X.A.units+200<cLine):bK X .In (yD false):=⟨_,uI hu,uK⟩
end
section
variable {X:Cx}{Er:XK}{pos:Pos}
abbrev XN:XK:=λ_ _ _=>False
def Gb:j2 X XN:=λ_ _ _ _ _ _ _ _ _ q=>q.elim
def cQ (fe:Ai) (env:zc):List PV->Al
 | [],ys,st=>.ok (.ref st.length) (st++[.lst ys])
 | x::xs,ys,st=>(bw (fe (some x::env) st)).bind λy ao=>cQ fe env xs (ys++[y]) ao
def cG (fe:Ai) (env:zc) (n:Nat):Nat->Nat->Al
 | 0,_,_,_=>.stuck
 | m+1,i,ys,st=>z0 st n λxs=>match xs[i]? with
  | none=>.ok (.ref st.length) (st++[.lst ys])
  | some x=>(bw (fe (some x::env) st)).bind λy ao=>cG fe env n m (i+1) (ys++[y]) ao
def gU (fe:Ai) (env:zc):Sq->Mo PV
 | .im xs,st=>if xs.length<=lim then cQ fe env xs [] st else .stuck
 | .rf n,st=>cG fe env n (lim+1) 0 [] st
def jE (src:zc->Mo Sq) (fe:Ai):Ai:=λenv st=>(src env st).bind λq ao=>gU fe env q ao
def Rs.snoc {K:Frag}{mg:Ab}{ρ:Ae}{H:Hp}{x:PV}{v:V}(r:R K mg ρ H x v):∀{xs:An}{vs:List V},Rs K mg ρ H xs vs->Rs K mg ρ H (xs++[x]) (vs++[v])
 | [],_,h=>by cases h;exact ⟨v,[],rfl,r,rfl⟩
 | y::xs,_,h=>by
  obtain ⟨w,q,rfl,h1,h2⟩:=h
  exact ⟨w,q++[v],rfl,h1,Rs.snoc r h2⟩
def Gd {elt iter:Expr} {x:Str} {px:Pos} {scope:Scope} {src:zc->Mo Sq} {fe:Ai} {M:Ad} (hc:X.calm=true) (S:cf X.env.scope scope x) (eN:Hid scope M X.N) (bH:((".0" : Str)::x::M).Nodup)
  (hi:MI X Er (.Name x px) iter src) (he:∀cl C aa ag fp,ME (gj X M scope cl x C aa ag fp (λ_ _=>False)) XN elt fe)
  (hs:∀v,foldedSetIterable iter X.env v=pure v:=by intro _;rfl):ME X Er (.ListComp elt [⟨.Name x px,iter,[],0⟩] scope pos) (jE src fe) :=
 PE.weak (sR (te:=tM X.K X.mg XN fe) hc S eN bH hi (λcl C aa ag fp=>he cl C aa ag fp) hs) λU H Q ⟨env,st,ρ,re,rs,h⟩=>⟨env,st,ρ,re,rs,h.then λaq H0 q dA e0 s0 h0 J wk=>by
  cases q with
  | im xs =>
   obtain ⟨hl,h0⟩:=Out.ifp h0
   obtain ⟨w1,w2,w3⟩:=wk
   refine ⟨λi m ys H=>m=xs.length-i/\i<=xs.length/\ys.length=i/\∃ps st ρ,Rs X.K X.mg ρ H ps ys/\aY X.K X.mg ρ H st/\Ext aq H0 ρ H/\Out X.K X.mg ρ H (cQ fe env (xs.drop i) ps st) (gV X.K X.mg Q) Er,⟨xs.length,by simp,yX _,rfl,[],dA,aq,rfl,s0,Ext.refl,h0⟩,?_⟩
   rintro i m ys H ⟨rfl,hi,hy,ps,st,ρ,cv,rs,ex,h⟩
   by_cases a6:i<xs.length
   ·refine .inr ⟨w1 i ρ H ex a6,yJ (by omega),λv H' y=>?_⟩
    obtain ⟨x,hx,cF,s2,rx⟩:=w3 i ρ H st v H' ex rs a6 y
    have hd:xs.drop i=x::xs.drop (i+1):=by
     rw [jc a6]
     have:=(yf.mp hx).2
     rw [this]
    rw [hd] at h
    simp only [cQ] at h
    refine ⟨some x::env,st,ρ,(re.ext (e0.trans (ex.trans cF))).cons rx,s2,wC (Out.ext h cF) λak H3 y a4 e3 s3 h3 v ry=>⟨xs.length-(i+1),by omega,rfl,a6,by simp [hy],ps++[y],a4,ak,Rs.snoc ry (Rs.ext (cF.trans e3) ps cv),s3,(ex.trans cF).trans e3,h3⟩⟩
   ·have e:i=xs.length:=by omega
    subst e
    rw [List.drop_length] at h
    exact .inl ⟨w2 _ ρ H ex (zI _),yJ (by omega),λl hl=>Out.newList h rs cv hl⟩
  | rf n =>
   obtain ⟨a,ha,rfl⟩:=wk
   refine ⟨λi m ys H=>m+i=lim+1/\ys.length=i/\∃ps st ρ,Rs X.K X.mg ρ H ps ys/\aY X.K X.mg ρ H st/\Ext aq H0 ρ H/\ρ[n]?=some a/\Out X.K X.mg ρ H (cG fe env n m i ps st) (gV X.K X.mg Q) Er,⟨lim+1,rfl,rfl,[],dA,aq,rfl,s0,Ext.refl,ha,h0⟩,?_⟩
   rintro i m ys H ⟨hm,hy,ps,st,ρ,cv,rs,ex,ha,h⟩
   cases m with
   | zero=>exact h.elim
   | succ m =>
    obtain ⟨xs,hn,h⟩:=yO h
    obtain ⟨vs,hH,hR⟩:=rs.addr hn ha
    cases hx:xs[i]? with
    | none =>
     simp only [hx] at h
     have:vs.length<=i:=by rw [<-hR.len];exact iE.mp hx
     exact .inl ⟨⟨vs,a3.of hH,this⟩,yJ (by omega),λl hl=>Out.newList h rs cv hl⟩
    | some x =>
     simp only [hx] at h
     obtain ⟨v,hv,rv⟩:=hR.get hx
     refine .inr ⟨⟨vs,v,a3.of hH,hv⟩,yJ (by omega),λv' H' y=>?_⟩
     obtain ⟨e1,y⟩:=y
     subst e1
     have e2:=y vs (a3.of hH)
     rw [hv] at e2
     cases e2
     exact ⟨some x::env,st,ρ,(re.ext (e0.trans ex)).cons rv,rs,wC h λak H3 y a4 e3 s3 h3 v ry=>⟨m,jq m,by omega,by simp [hy],ps++[y],a4,ak,Rs.snoc ry (Rs.ext e3 ps cv),s3,ex.trans e3,e3.get ha,h3⟩⟩⟩
def pW {elt iter:Expr} {x:Str} {px:Pos} {scope:Scope} {src:zc->Mo Sq} {fe:Ai} {N:Ad} (hc:X.calm=true) (S:cf X.env.scope scope x) (eN:X.N=N) (bH:((".0" : Str)::x::N).Nodup)
  (hi:MI X Er (.Name x px) iter src) (he:∀cl C aa ag fp,ME (oP X scope cl x C aa ag fp (λ_ _=>False)) XN elt fe)
  (hs:∀v,foldedSetIterable iter X.env v=pure v:=by intro _;rfl):ME X Er (.ListComp elt [⟨.Name x px,iter,[],0⟩] scope pos) (jE src fe) :=
 Gd hc S Hid.refl (eN▸bH) hi he hs
end
section
variable {env:Env}{es:List Expr}{pos:Pos}
abbrev uL (e:Expr) (es:List Expr) (env:Env):Prop:=starEach (e::es) env=(false,eval e env)::starEach es env
def Ge {c j}:uL (.Constant c j pos) es env:=(rfl)
end
end Mi
namespace L2
open PySem PySem.Spec PyProof.Rows PySem.W
abbrev ZB (h:Heap) (z TI TO T:Addr) (f:Bool):Prop:=h.get? z=some { cls:=.type "zip", dict:=none,data:=.fields #[rawInt T,.bool f,.bool false,.ref TI,.ref TO],slots:=#[] }
section
variable {prog:Program}{w:World}{A:Around}{E:Aa}{s:Shared}{z TI TO T i1 i2 t1 t2:Addr}{k:Nat}{xs ys:Array Value}{x y a b:Value}{S1 S2:Nat->Heap->Prop}{f:Bool}{o:Obj}
end
structure ZS (z TI TO i1 i2 a b:Addr) (xs ys:Array Value) (k:Nat) (h:Heap):Prop where
 zi:(IsZip h z TI TO .none/\∃u v,IsPair h TO u v)\/∃T f o,ZB h z TI TO T f/\h.get? T=some o
 ti:IsPair h TI (.ref i1) (.ref i2)
 s1:tL i1 a xs k h
 s2:tL i2 b ys k h
section
variable {prog:Program}{w:World}{A:Around}{E:Aa}{s:Shared}{z TI TO i1 i2 a b:Addr}{k:Nat}{xs ys:Array Value}{x y:Value}
def ZS.type (st:ZS z TI TO i1 i2 a b xs ys k s.heap):s.TypeIs (.ref z) "zip" := by
 rcases st.zi with ⟨hz,_⟩|⟨T,f,o,hz,_⟩<;>exact ⟨_,hz,rfl⟩
end
def putAll (ps:List (Key×V)) (kvs:List (Key×V)):List (Key×V):=ps.foldl (λm p=>putK m p.1 p.2) kvs
structure Ap (d z TI TO i1 i2 a b:Addr):Prop where
 z:d≠z
 TI:d≠TI
 TO:d≠TO
 i1:d≠i1
 i2:d≠i2
 a:d≠a
 b:d≠b
section
variable {prog:Program}{w:World}{A:Around}{R:Result->Shared->Prop}{z TI TO i1 i2 a b d:Addr}{xs ys:Array Value}{keys:List Key}{vals:List V}
def ZS.keep {k:Nat}{h h':Heap}(st:ZS z TI TO i1 i2 a b xs ys k h) (P:Ap d z TI TO i1 i2 a b) (hs:Heap.SameBut d h h') (hd:∃o,h'.get? d=some o):ZS z TI TO i1 i2 a b xs ys k h':=by
 have up:∀c o,c≠d->h.get? c=some o->h'.get? c=some o:=λc o n e=>hs.extBut _ _ n e
 obtain ⟨⟨⟨o1,g1,r1⟩,⟨p1,e1,t1⟩⟩,⟨⟨o2,g2,r2⟩,⟨p2,e2,t2⟩⟩⟩:=And.intro st.s1 st.s2
 refine ⟨?_,up _ _ P.TI.symm st.ti,⟨⟨o1,up _ _ P.i1.symm g1,r1⟩,⟨p1,up _ _ P.a.symm e1,t1⟩⟩,⟨⟨o2,up _ _ P.i2.symm g2,r2⟩,⟨p2,up _ _ P.b.symm e2,t2⟩⟩⟩
 rcases st.zi with ⟨hz,u,v,pX⟩|⟨T,f,o,hz,hT⟩
 ·exact .inl ⟨up _ _ P.z.symm hz,u,v,up _ _ P.TO.symm pX⟩
 ·by_cases e:T=d
  ·obtain ⟨o',ho'⟩:=hd
   exact .inr ⟨T,f,o',up _ _ P.z.symm hz,by rw [e];exact ho'⟩
  ·exact .inr ⟨T,f,o,up _ _ P.z.symm hz,up _ _ e hT⟩
end
section
variable {prog:Program}{w:World}{A:Around}{E:Aa}{s:Shared}{z TI TO i1 i2 a b:Addr}{xs ys:Array Value}{keys:List Key}{vals:List V}
def ZS.push {k:Nat}{h h':Heap}(st:ZS z TI TO i1 i2 a b xs ys k h) (up:∀c o,h.get? c=some o->h'.get? c=some o):ZS z TI TO i1 i2 a b xs ys k h':=by
 obtain ⟨⟨⟨o1,g1,r1⟩,⟨p1,e1,t1⟩⟩,⟨⟨o2,g2,r2⟩,⟨p2,e2,t2⟩⟩⟩:=And.intro st.s1 st.s2
 refine ⟨?_,up _ _ st.ti,⟨⟨o1,up _ _ g1,r1⟩,⟨p1,up _ _ e1,t1⟩⟩,⟨⟨o2,up _ _ g2,r2⟩,⟨p2,up _ _ e2,t2⟩⟩⟩
 rcases st.zi with ⟨hz,u,v,pX⟩|⟨T,f,o,hz,hT⟩
 ·exact .inl ⟨up _ _ hz,u,v,up _ _ pX⟩
 ·exact .inr ⟨T,f,o,up _ _ hz,up _ _ hT⟩
end
end L2
namespace Mi
open PySem L2 PySem.W PySem.Spec
section
variable {X:Cx}{K:Frag}{mg:Ab}{Er:XK}{e o:Expr}{es:List Expr}{pos p apos:Pos}{k:Nat}{x:Str}{m:Al}{fs:Ah}{fo fa:Ai}
end
section
variable {X:Cx}{K:Frag}{mg:Ab}{Er:XK}{e o:Expr}{es:List Expr}{pos p apos:Pos}{fs:Ah}{fo fa:Ai}
def k9:PV->Mo PV
 | .ref n,st=>z0 st n λxs=>match xs[xs.length-1]? with
  | some y=>.ok y (st.set n (.lst xs.dropLast))
  | none=>.stuck
 | _,_=>.stuck
def Rs.dropLast:∀{ρ:Ae}{H:Hp}{xs:An}{vs:List V},Rs K mg ρ H xs vs->Rs K mg ρ H xs.dropLast vs.dropLast:=by
 intro ρ H xs vs h
 rw [List.dropLast_eq_take,List.dropLast_eq_take,h.len]
 exact h.take _
def zlH {aW:Pos} (ho:ME X Er o fo) (cj:attributeBase o "pop" X.env (eval o X.env)=eval o X.env:=by rfl) (ck:(apos.endLine==aW.line)=true:=by rfl):ME X Er (.Call (.Attribute o "pop" apos) [] [] aW) (jz k9 fo) :=
 PE.weak (C9 PySem.F.plainAttrs_list PySem.F.slot_list_pop PySem.F.type_list_pop De ho cj ck) λU H Q ⟨env,st,ρ,re,rs,h⟩=>⟨env,st,ρ,re,rs,h.then λaf H1 x ao e1 s1 h1 v rv=>by
  cases x with
  | ref n =>
   obtain ⟨xs,hn,h1⟩:=yO h1
   obtain ⟨a,vs,rfl,ha,k1,k2⟩:=R.refL s1 rv hn
   cases hy:xs[xs.length-1]? with
   | none=>simp only [hy] at h1;exact h1.elim
   | some y =>
    simp only [hy] at h1
    obtain ⟨w,hw,cY⟩:=k2.get hy
    have ew:Ext af H1 af (upd H1 a (.lst vs.dropLast)):=Ext.write k1 rfl
    refine ⟨.inl ⟨rfl,vs,a3.of k1⟩,a,vs,w,rfl,rfl,k1,by rw [<-k2.len];exact hw,h1 af _ ew (s1.write ha ew ⟨_,yx,Rs.ext ew _ k2.dropLast⟩) _ (R.ext ew y cY)⟩
  | _=>exact h1.elim⟩
def wf:List (Str×PV)->List Str->List PV->List Str×List PV
 | [],ks,xs=>(ks,xs)
 | q::r,ks,xs=>wf r (jt q.1 q.2 ks xs).1 (jt q.1 q.2 ks xs).2
def uM {ρ:Ae}{H:Hp}:∀{zs:Ad}{ys:An}{us:List V}{ks:Ad}{xs:An}{vs:List V},Rs K mg ρ H ys us->Rs K mg ρ H xs vs->ks.length=vs.length ->
  ∃ws,putAll ((zs.map Sum.inr:List Key).zip us) (kz ks vs)=kz (wf (zs.zip ys) ks xs).1 ws/\Rs K mg ρ H (wf (zs.zip ys) ks xs).2 ws/\(wf (zs.zip ys) ks xs).1.length=ws.length
 | [],ys,us,ks,xs,vs,_,h,hl=>⟨vs,rfl,h,hl⟩
 | z::zs,[],us,ks,xs,vs,hy,h,hl=>by
  cases hy
  exact ⟨vs,rfl,h,hl⟩
 | z::zs,y::ys,us,ks,xs,vs,hy,h,hl=>by
  obtain ⟨u,r,rfl,h1,h2⟩:=hy
  obtain ⟨ws,q1,q2,q3⟩:=uC (z:=z) h1 hl h
  obtain ⟨Gf,p1,p2,p3⟩:=uM (zs:=zs) h2 q2 q3
  refine ⟨Gf,?_,p2,p3⟩
  show putAll _ (L2.putK (kz ks vs) (Sum.inr z) u)=_
  rw [q1]
  exact p1
end
end Mi
namespace L2
open PySem PySem.Spec PyProof.Rows PySem.W
def uN (K:Frag) (a:Addr):It :=
 ⟨λi H=>∃xs x,a3 K H a xs/\xs[i]?=some x,
  λi H v H'=>∃T x,H T=none/\v=.ref T/\H'=upd H T (.tup [.int i,x])/\∀xs,a3 K H a xs->xs[i]?=some x,
  λi H=>∃xs,a3 K H a xs/\xs.length<=i⟩
def Gg (e it a:Addr) (k:Nat) (h:Heap):Prop:=(∃old,IsEnum h e it k old)/\h.IsListIter it a k
def Gh {X:Cx}{pins:Ac}{U:St}{H:Hp}{s:Shared}{a c:Addr}{xs:List V}(I:Inv X pins U H s) (hf:b0 X pins H c) (hq:a3 X.K H a xs):a≠c:=by
 rintro rfl
 rcases hq with q|⟨o,its,n,hl,_⟩
 ·rcases q with q|⟨ob,q⟩<;>(rw [hf.1] at q;cases q)
 ·have e:=I.ok.mod.kin _ _ hl
  rcases hf.2.2.2.1 with z|z
  ·exact I.ok.noex _ _ e z
  ·exact absurd (y1 (zY (I.ok.bs _ _ e).1) z) (Nat.lt_irrefl _)
def Gi {P:Program}{w:World}{K:Frag}{elts:List Expr}{kt:Nat}{pos:Pos}{e it a:Addr}(ne:e≠it):Turn P w K (.Tuple elts kt pos) (uN K a) [e,it] e (Gg e it a) where
 mem:=by simp
 obj:=λi h st c hc=>by
  obtain ⟨⟨old,he⟩,⟨o1,e1,_,d1⟩⟩:=st
  simp only [yv,List.not_mem_nil,or_false] at hc
  rcases hc with q|q<;>rw [q]
  ·exact ⟨_,he,λv z=>by cases z⟩
  ·exact ⟨_,e1,λv z=>by rw [d1] at z;cases z⟩
 keep:=λi h h' st k=>by
  obtain ⟨⟨old,he⟩,⟨o1,e1,r1⟩⟩:=st
  exact ⟨⟨old,k e (by simp) _ he⟩,⟨o1,k it (by simp) _ e1,r1⟩⟩
 item:=by
  intro X hP hw hK hc i pins s U H E I hf st hg
  subst hP hw hK
  obtain ⟨xs,x,hq,hx⟩:=hg
  obtain ⟨⟨old,he⟩,hit⟩:=st
  obtain ⟨its,rv,p,hz⟩:=I.list hq
  obtain ⟨u,hu,ru⟩:=rv.get hx
  have n1:∀c∈[e,it],a≠c:=λc h=>Gh I (hf c h) hq
  refine wpAny_pyNext_enum_item he hit p.isList (x:=u) (by simpa using hu) ne λh1 eo uO pT hsz kk=>⟨_,rfl,?_⟩
  refine wpAny_letOwnedTupleGo_enum (s:={ s with heap:=h1,toks:=s.toks+1 }) eo λh2 e2 sb=>?_
  have fr:H s.heap.objs.size=none:=I.hok.fresh (zI _)
  have up:∀c o,c≠e->h1.get? c=some o->h2.get? c=some o:=λc o n q=>sb.extBut _ _ n q
  have nz:s.heap.objs.size≠e:=Nat.ne_of_gt (zY he)
  have k2:∀c o,c∉[e,it]->s.heap.get? c=some o->h2.get? c=some o:=λc o nc q=>up c o (λz=>nc (by simp [z])) (kk c o (λz=>nc (by simp [z])) (λz=>nc (by simp [z])) q)
  refine ⟨.ref s.heap.objs.size,upd H s.heap.objs.size (.tup [.int i,x]),?_,rfl,⟨s.heap.objs.size,x,fr,rfl,rfl,λys hy=>by rw [I.list_inj hy hq];exact hx⟩,?_,λc cC=>?_⟩
  ·exact Inv.turnN (s:=s) (h':=h2) (t':=s.toks+1) I hf k2 (zI _) ⟨show 2<=sizeLine by decide,[.int i s.toks,u],.cons ⟨_,rfl⟩ (.cons ru .nil),_,up _ _ nz pT,rfl,_,rfl⟩
  ·refine ⟨⟨u,by rw [show ((i+1:Nat):Int)=(i:Int)+1 from rfl];exact e2⟩,let ⟨o,q,r⟩:=uO;⟨o,up _ _ ne.symm q,r⟩⟩
  ·have lt:∃o,s.heap.get? c=some o:=by
    simp only [yv,List.not_mem_nil,or_false] at cC
    rcases cC with q|q<;>rw [q]
    ·exact ⟨_,he⟩
    ·exact let ⟨o,q,_⟩:=hit;⟨o,q⟩
   obtain ⟨o,q⟩:=lt
   have z:c≠s.heap.objs.size:=yt (zY q)
   rw [zF z]
   exact (hf c cC).1
 done:=by
  intro X hP hw hK hc i pins s U H E I hf st hg
  subst hP hw hK
  obtain ⟨xs,hq,hx⟩:=hg
  obtain ⟨⟨old,he⟩,hit⟩:=st
  obtain ⟨its,rv,p,hz⟩:=I.list hq
  have hl:=rv.length
  refine wpAny_pyNext_enum_end (I.ok.hd hc) he hit p.isList (by simp;omega) λh' eb=>⟨rfl,?_⟩
  exact Inv.turnL (ch:=[e,it]) (t':=s.toks) I hf λc o nc q=>eb c o (λz=>nc (by simp [z])) q
 self:=λ_ _ _ _ _ st h=>by
  obtain ⟨⟨old,he⟩,_⟩:=st
  exact wpAny_pyIter_enum he h
def Gj:bootBuiltins "enumerate" = some (.type "enumerate"):=by decide +kernel
def Gk (K:Frag) (ta:TA):TI:=λU H R=>ta U H λvs H1=>∃a,vs=[.ref a]/\(∃xs,a3 K H1 a xs)/\R (uN K a) H1
def Gm {X:Cx} {elts:List Expr} {kt:Nat} {tp:Pos} {x:Expr} {ta:TA} {p pos:Pos} (hg:Gl X "enumerate") (hm:X.mg "enumerate" = none) (ha:PA X [x] ta) (hs:starEach [x] X.env=[(false,eval x X.env)]:=by rfl) :
  PI X (.Tuple elts kt tp) (.Call (.Name "enumerate" p) [x] [] pos) (Gk X.K ta):=by
 intro pins s U H R I h
 refine Call_ (kh I hg hm Gj (PyProof.Rows.callWith_type1 (aS (ha pos pins s U H _ I h) λus s1 ⟨vs,H1,I1,r1,q1⟩=>?_) hs rfl))
 obtain ⟨a,e,⟨xs,hq⟩,q⟩:=q1
 subst e
 obtain ⟨u,rfl,ru⟩:=r1.one
 obtain rfl:u=Value.ref a:=ru
 obtain ⟨its,_,p1,_⟩:=I1.list hq
 refine call_enumerate_list p1.isList λh' he hit hsz kk=>wpAny_pyIter_enum he ?_
 have ne:∀(n:Nat),n+1≠n:=λn z=>by omega
 refine ⟨_,[s1.heap.objs.size+1,s1.heap.objs.size],_,_,H1,rfl,I1.kept (t':=s1.toks) kk,Gi (ne _),⟨⟨_,he⟩,hit⟩,λc hc=>?_,q⟩
 have le:s1.heap.objs.size<=c:=by
  simp only [yv,List.not_mem_nil,or_false] at hc
  rcases hc with q|q<;>rw [q]<;>first|exact zI _|exact Nat.le_add_right _ _
 exact I1.fpOk le (I1.hok.fresh le)
end L2
namespace Mi
open PySem L2 PySem.W PySem.Spec
section
variable {X:Cx}{Er:XK}{pos:Pos}{cL:List Stmt}{gb:Aj}{fs:Ah}
def dP (g:PV->zc->Option zc) (body:Aj) (n:Nat):Nat->Nat->Aj
 | 0,_,_,_=>.stuck
 | m+1,i,env,st=>z0 st n λxs=>match xs[i]? with
  | none=>.ok (.nx env) st
  | some x=>match g (.tup [.int i,x]) env with
   | none=>.stuck
   | some bh=>(body bh st).bind λfl aA=>match fl with
    | .nx e=>dP g body n m (i+1) e aA
    | .ct e=>dP g body n m (i+1) e aA
    | .bk e=>.ok (.nx e) aA
    | .rt v=>.ok (.rt v) aA
def wE:List PV->Mo Nat
 | [.ref n],st=>z0 st n λ_=>.ok n st
 | _,_=>.stuck
def pY {α:Type}{K:Frag}{mg:Ab}{ρ:Ae}{H:Hp}{vs:An}{st:ae}{f:Nat->Mo α}{good:List Addr->Hp->α->ae->Prop}(h:Out K mg ρ H ((wE vs st).bind f) good Er):∃n xs,vs=[.ref n]/\st[n]?=some (.lst xs)/\Out K mg ρ H (f n st) good Er:=by
 unfold wE at h
 split at h
 ·rename_i n
  unfold z0 at h
  cases hn:st[n]? with
  | none=>simp only [hn] at h;exact h.elim
  | some so =>
   cases so with
   | lst xs=>simp only [hn] at h;exact ⟨n,xs,rfl,hn,h⟩
   | _=>simp only [hn] at h;exact h.elim
 ·exact h.elim
def k_ (fs:Ah) (g:PV->zc->Option zc) (body:Aj):Aj:=λenv st=>(fs env st).bind λvs ao=>(wE vs ao).bind λn ao=>dP g body n (lim+1) 0 env ao
def Gn {elts:List Expr} {kt:Nat} {tp p ip:Pos} {x:Expr} {gt:PV->zc->Option zc} (hp:PassesOwn (model X.prog X.w) X.A X.env X.xe) (hc:X.calm=true) (hm:X.mg "enumerate" = none) (ha:MA X Er [x] fs) (hg:MG X Er (.Tuple elts kt tp) gt) (hb:dz X Er cL gb)
  (Gp:Gl X "enumerate" := by rfl) (bV:starEach [x] X.env=[(false,eval x X.env)]:=by rfl) (hs:∀v,foldedSetIterable (.Call (.Name "enumerate" p) [x] [] ip) X.env v=pure v:=by intro _;rfl) :
  MS X Er (.For (.Tuple elts kt tp) (.Call (.Name "enumerate" p) [x] [] ip) cL [] pos) (k_ fs gt gb) :=
 PS.weak (oq hp hc (Gm Gp hm ha bV) hg hb hs) λD U H ⟨env,st,ρ,re,rs,h⟩=>⟨env,st,ρ,re,rs,h.then λaq H0 vs dA e0 s0 h0 us ru=>by
  obtain ⟨n,xs0,rfl,Gq,h0⟩:=pY h0
  obtain ⟨v,rfl,rv⟩:=ru.one
  obtain ⟨a,rfl,ha⟩:=rv
  obtain ⟨DL,Gr,K7⟩:=s0.addr Gq ha
  refine ⟨a,rfl,⟨_,a3.of Gr⟩,?_⟩
  refine ⟨λi m U H=>∃env st ρ,a7 X.K X.mg ρ H env U/\aY X.K X.mg ρ H st/\ρ[n]?=some a/\Out X.K X.mg ρ H (dP gt gb n m i env st) (gS X.K X.mg D) Er,⟨lim+1,env,dA,aq,re.ext e0,s0,ha,h0⟩,?_⟩
  rintro i m U H ⟨env,st,ρ,re,rs,ha,h⟩
  cases m with
  | zero=>exact h.elim
  | succ m =>
   obtain ⟨xs,hn,h⟩:=yO h
   obtain ⟨vs,hH,hR⟩:=rs.addr hn ha
   cases hx:xs[i]? with
   | none =>
    simp only [hx] at h
    have:vs.length<=i:=by rw [<-hR.len];exact iE.mp hx
    exact .inl ⟨⟨vs,a3.of hH,this⟩,Out.now (x:=Fl.nx env) h rs U re⟩
   | some x =>
    simp only [hx] at h
    obtain ⟨v,hv,rv⟩:=hR.get hx
    refine .inr ⟨⟨vs,v,a3.of hH,hv⟩,_,λah H' p'=>⟨m,jq m,p'⟩,λv' H' y=>?_⟩
    obtain ⟨T,x',hT,rfl,rfl,y⟩:=y
    have e2:=y vs (a3.of hH)
    rw [hv] at e2
    cases e2
    have ex:Ext ρ H ρ (upd H T (.tup [.int i,v])):=Ext.new hT
    cases hgx:gt (.tup [.int i,x]) env with
    | none=>simp only [hgx] at h;exact h.elim
    | some bh =>
     simp only [hgx] at h
     refine ⟨.tup [.int i,x],env,bh,ρ,⟨T,[.int i,v],rfl,.inl (.inl yx),_,_,rfl,rfl,_,_,rfl,R.ext ex x rv,rfl⟩,re.ext ex,hgx,λav r1=>⟨bh,st,ρ,r1,rs.new hT,Out.then (Out.ext h ex) λak H3 fl a4 e3 s3 h3=>?_⟩⟩
     cases fl with
     | nx e=>exact λaB r4=>⟨e,a4,ak,r4,s3,e3.get ha,h3⟩
     | ct e=>exact λaB r4=>⟨e,a4,ak,r4,s3,e3.get ha,h3⟩
     | bk e=>exact Out.fl (D:=D) (fl:=.nx e) (E:=Er) h3 s3
     | rt v=>exact Out.fl (D:=D) (fl:=.rt v) (E:=Er) h3 s3⟩
end
section
variable {X:Cx}{Er:XK}{pos:Pos}{fs:Ah}
end
end Mi
namespace L2
open PySem PySem.Spec PyProof.Rows PySem.W
def uP:∀{is:List Int}{its:Af},Vals (is.map V.int) its->(∀v∈its,∃a t,v=Value.int a t)/\numsOf its=is
 | [],_,.nil=>⟨λ_ h=>absurd h (by simp),rfl⟩
 | i::is,_,.cons r rs=>by
  obtain ⟨t,rfl⟩:=r
  obtain ⟨h1,h2⟩:=uP rs
  refine ⟨λv hv=>?_,by show i::numsOf _=_;rw [h2]⟩
  rcases yv.mp hv with q|q
  ·exact ⟨i,t,q⟩
  ·exact h1 v q
def Gs {X:Cx} (hc:X.calm=true):bj X (.builtin "sum") (λxs H Q=>∃(a:Addr) (is:List Int),xs=[V.ref a]/\a3 X.K H a (is.map V.int)/\Q (.int is.sum) H):=by
 intro pins s U H xs us Q I r h
 obtain ⟨a,is,rfl,hq,q⟩:=h
 obtain ⟨u,rfl,ru⟩:=r.one
 obtain rfl:u=Value.ref a:=ru
 obtain ⟨its,rv,p,hz⟩:=I.list hq
 obtain ⟨h1,h2⟩:=uP rv
 obtain ⟨ys,e⟩:=AllInts.items (vs:=its.toArray) (λv hv=>h1 v (by simpa using hv))
 have hl:=p.isList
 rw [e] at hl
 refine sum_intListG (I.ok.hd hc) hl λh' tk t' hk=>?_
 have es:preSum (numAt ys) ys.size=is.sum:=by
  rw [preSum_eq,List.take_of_length_le (by simp),<-nums_intItems,<-e]
  show (numsOf its).sum=_
  rw [h2]
 rw [es]
 exact ⟨.int is.sum,H,I.kept (t':=tk) hk,⟨_,rfl⟩,q⟩
def bB (z:Str) (n:Int):Str:=if n<1 then Str.empty else if (n==1||z.length==0)=true then z else ⟨(List.replicate n.toNat z.cps).foldl (·++·) #[]⟩
def uQ (c:Array Nat):∀(k:Nat) (a:Array Nat),((List.replicate k c).foldl (·++·) a).size=a.size+k*c.size
 | 0,a=>by simp
 | k+1,a=>by
  rw [List.replicate_succ,List.foldl_cons,uQ c k,Array.size_append,Nat.succ_mul]
  omega
def pZ (z:Str) (n:Int):(bB z n).length=n.toNat*z.length:=by
 unfold bB
 split
 ·rename_i h
  have:n.toNat=0:=by omega
  rw [this,Nat.zero_mul];rfl
 ·rename_i h
  split
  ·rename_i h2
   simp only [Bool.or_eq_true,beq_iff_eq] at h2
   rcases h2 with h2|h2
   ·subst h2;simp
   ·rw [h2];simp
  ·show ((List.replicate n.toNat z.cps).foldl (·++·) #[]).size=_
   rw [uQ]
   show 0+n.toNat*z.cps.size=_
   rw [Nat.zero_add];rfl
def uR:R2:=λx y H Q=>∃z n,x=.str z/\y=.int n/\(0<=n/\n<=1000/\z.length<=1000)/\Q (.str (bB z n)) H
def Gu {X:Cx}:bf X (binaryOp .Mult) uR:=by
 intro pins s U H x y v u Q I rx ry h
 obtain ⟨z,n,rfl,rfl,⟨h0,h1,h2⟩,q⟩:=h
 obtain ⟨t,rfl⟩:=rx
 obtain ⟨t',rfl⟩:=ry
 have hb:n.toNat*z.length<=1000000:=by
  have:n.toNat<=1000:=by omega
  calc n.toNat*z.length<=1000*1000:=Nat.mul_le_mul this h2
   _=1000000:=rfl
 have hsz:=sizeLine_eq
 refine PySem.P.mul_str (by rw [yA (by omega),yA (by omega)];rfl) (λha _=>?_) (λ_ _=>?_) ?_
 ·have:(2 ^ 63-1:Int)/n>=1000:=by
   rw [ge_iff_le,Int.le_ediv_iff_mul_le (by omega)]
   omega
  omega
 ·show decide _=false
  rw [decide_eq_false_iff_not]
  have:z.length*n.toNat<=1000000:=by rw [Nat.mul_comm];exact hb
  rw [sizeLine_eq];omega
 ·by_cases c1:n<1
  ·rw [zw c1]
   have e:bB z n=Str.empty:=by unfold bB;rw [zw c1]
   rw [e] at q
   exact ⟨by decide,.str Str.empty,H,I.tok _,⟨_,rfl⟩,q⟩
  ·rw [zC c1]
   by_cases c2:(n==1||z.length==0)=true
   ·rw [zw c2]
    have e:bB z n=z:=by unfold bB;rw [zC c1,zw c2]
    rw [e] at q
    exact ⟨.str z,H,I,⟨_,rfl⟩,q⟩
   ·rw [zC c2]
    have e:bB z n=⟨(List.replicate n.toNat z.cps).foldl (·++·) #[]⟩:=by unfold bB;rw [zC c1,zC c2]
    have hl:=pZ z n
    rw [e] at q hl
    exact ⟨by rw [hl,sizeLine_eq];omega,.str _,H,I.tok _,⟨_,rfl⟩,q⟩
end L2
namespace Mi
open PySem L2 PySem.W PySem.Spec
section
variable {X:Cx}{K:Frag}{mg:Ab}{Er:XK}{e o:Expr}{es:List Expr}{pos apos:Pos}{fs:Ah}{fo fa:Ai}
def ju:Am
 | .int i,.int j,st=>tS (.int i) (.int j) st
 | .str z,.int n,st=>if 0<=n/\n<=1000/\z.length<=1000 then .ok (.str (bB z n)) st else .stuck
 | _,_,_=>.stuck
def zaT:c6 X .Mult ju:=by
 obtain ⟨r,h1,h2⟩:=Et (X:=X)
 refine ⟨λx y H Q=>r x y H Q\/uR x y H Q,h1.or Gu,fun ρ H st x y v w Q E s rx ry h=>?_⟩
 cases x with
 | int i =>
  cases y with
  | int j=>exact .inl (h2 ρ H st (.int i) (.int j) v w Q E s rx ry h)
  | _=>exact h.elim
 | str z =>
  cases y with
  | int n =>
   obtain ⟨c,h⟩:=Out.ifp h
   cases rx;cases ry
   exact .inr ⟨z,n,rfl,rfl,c,Out.now (x:=PV.str (bB z n)) h s _ rfl⟩
  | _=>exact h.elim
 | _=>exact h.elim
def cS:List PV->Option (List Int)
 | []=>some []
 | .int i::r=>(cS r).map (i::·)
 | _::_=>none
def uS {ρ:Ae}{H:Hp}:∀{xs:An}{is:List Int}{vs:List V},cS xs=some is->Rs K mg ρ H xs vs->vs=is.map V.int
 | [],is,vs,e,h=>by cases e;cases h;rfl
 | .int i::r,is,vs,e,h=>by
  simp only [cS,Option.map_eq_some_iff] at e
  obtain ⟨ir,e1,rfl⟩:=e
  obtain ⟨v,r',rfl,h1,h2⟩:=h
  cases h1
  rw [uS e1 h2]
  rfl
 | .non::_,_,_,e,_=>by cases e
 | .bl _::_,_,_,e,_=>by cases e
 | .str _::_,_,_,e,_=>by cases e
 | .ty _::_,_,_,e,_=>by cases e
 | .tup _::_,_,_,e,_=>by cases e
 | .frl _::_,_,_,e,_=>by cases e
 | .ref _::_,_,_,e,_=>by cases e
 | .fn _::_,_,_,e,_=>by cases e
 | .kd _ _::_,_,_,e,_=>by cases e
 | .exo _ _ _::_,_,_,e,_=>by cases e
def p4:Al:=λvs st=>(wE vs st).bind λn st=>z0 st n λxs=>match cS xs with
 | some is=>.ok (.int is.sum) st
 | none=>.stuck
def Gv (hc:X.calm=true):bT X (.builtin "sum") p4:=⟨_,Gs hc,fun ρ H st xs vs Q E s r h=>by
 obtain ⟨n,ys,rfl,hn,h⟩:=pY h
 obtain ⟨bF,ke,h⟩:=yO h
 obtain ⟨v,rfl,rv⟩:=r.one
 obtain ⟨a,rfl,ha⟩:=rv
 obtain ⟨ws,hH,hR⟩:=s.addr ke ha
 cases hi:cS bF with
 | none=>simp only [hi] at h;exact h.elim
 | some is =>
  simp only [hi] at h
  have e:=uS hi hR
  subst e
  exact ⟨a,is,rfl,a3.of hH,Out.now (x:=PV.int is.sum) h s _ rfl⟩⟩
def Gw:bootBuiltins "sum" = some (.builtin "sum"):=by decide +kernel
def wF:Al
 | [.int i],st=>if i.natAbs.log2<1920 then .ok (.str (toString i)) st else .stuck
 | _,_=>.stuck
def uT:bT X (.type "str") wF:=⟨_,B4,fun ρ H st xs vs Q E s r h=>by
 unfold wF at h
 split at h
 ·rename_i i
  obtain ⟨c,h⟩:=Out.ifp h
  obtain ⟨v,rfl,rfl⟩:=r.one
  exact ⟨i,rfl,c,Out.now (x:=PV.str (toString i)) h s _ rfl⟩
 ·exact h.elim⟩
def Rs.reverse {ρ:Ae}{H:Hp}:∀{xs:An}{vs:List V},Rs K mg ρ H xs vs->Rs K mg ρ H xs.reverse vs.reverse
 | [],_,h=>by cases h;rfl
 | x::xs,_,h=>by
  obtain ⟨v,r,rfl,h1,h2⟩:=h
  rw [List.reverse_cons,List.reverse_cons]
  exact (Rs.reverse h2).append ⟨v,[],rfl,h1,rfl⟩
def lg:List Expr->Option (Ad)
 | []=>some []
 | .Constant (.str z) _ _::r=>(lg r).map (z::·)
 | _::_=>none
def p5 (zs:Ad):Ah:=λ_ st=>.ok (zs.map PV.str) st
def zfi:∀{es:List Expr}{zs:Ad},lg es=some zs->MA X Er es (p5 zs):=by
 intro es
 induction es with
 | nil=>intro zs h;cases h;exact zt
 | cons e r ih =>
  intro zs h
  cases e with
  | Constant c j p =>
   cases c with
   | str z =>
    simp only [lg,Option.map_eq_some_iff] at h
    obtain ⟨zr,h1,rfl⟩:=h
    exact tN zX (ih h1) Ge
   | _=>cases h
  | _=>cases h
end
section
variable {env:zc}{st:ae}{fa fb fo fi fv fe:Ai}{fs:Ah}{ft:Ak}{g:Aj}{src:zc->Mo Sq}
@[simp] def K8 (xs:An) (i:Int):zB (.tup xs) (.int i) st=br (cb xs i) st:=(rfl)
@[simp] def K9 (xs:An) (i:Int):zB (.frl xs) (.int i) st=br (cb xs i) st:=(rfl)
@[simp] def m3 (n:Nat) (i:Int):zB (.ref n) (.int i) st=z0 st n λxs=>br (cb xs i) st:=(rfl)
@[simp] def Gx (z:Str) (i:Int):zB (.str z) (.int i) st=if z.length<=lim then br ((cb z.cps.toList i).map λc=>.str ⟨#[c]⟩) st else .stuck:=(rfl)
@[simp] def p6:jE src fe env st=(src env st).bind λq ao=>gU fe env q ao:=(rfl)
@[simp] def Gy (xs:An):gU fe env (.im xs) st=if xs.length<=lim then cQ fe env xs [] st else .stuck:=(rfl)
@[simp] def uU:cD fs env st=(fs env st).bind wV:=(rfl)
@[simp] def Gz (j:Int):wV [.int j] st=if cR j=true then .ok (.im (nums 0 j.toNat)) st else .stuck:=(rfl)
@[simp] def GA (gt:PV->zc->Option zc):k_ fs gt g env st=(fs env st).bind λvs ao=>(wE vs ao).bind λn ao=>dP gt g n (lim+1) 0 env ao:=(rfl)
@[simp] def GB (n:Nat):wE [.ref n] st=z0 st n λ_=>.ok n st:=(rfl)
@[simp] def GC (i:Int):wF [.int i] st=if i.natAbs.log2<1920 then .ok (.str (toString i)) st else .stuck:=(rfl)
@[simp] def GD (i j:Int):ju (.int i) (.int j) st=if e9 i j=true then .ok (.int (i*j)) st else .stuck:=(rfl)
@[simp] def uV (z:Str) (n:Int):ju (.str z) (.int n) st=if 0<=n/\n<=1000/\z.length<=1000 then .ok (.str (bB z n)) st else .stuck:=(rfl)
@[simp] def K_ (vs:An):p4 vs st=(wE vs st).bind λn st=>z0 st n λxs=>match cS xs with|some is=>.ok (.int is.sum) st|none=>.stuck:=(rfl)
@[simp] def uW (neg:Bool) (x:PV) (ys:An):yD neg x (.tup ys) st=if okIn x ys then .ok (.bl (neg.xor (ys.any λy=>bg y x))) st else .stuck:=by unfold yD;cases x<;>rfl
@[simp] def m5 (n:Nat):wA [.ref n] st=z0 st n λxs=>.ok (.tup xs) st:=(rfl)
@[simp] def GF (n:Nat) (y:PV):iS (.ref n) y st=z0 st n λxs=>if xs.length<lim then .ok .non (st.set n (.lst (xs++[y]))) else .stuck:=(rfl)
end
def Pre (a b:ae):Prop:=∃d,b=a++d
def Pre.refl (st:ae):Pre st st:=⟨[],by simp⟩
def Pre.trans {a b c:ae}(h:Pre a b) (h':Pre b c):Pre a c:=by obtain ⟨d,rfl⟩:=h;obtain ⟨d',rfl⟩:=h';exact ⟨d++d',by simp⟩
def Pre.of (st d:ae):Pre st (st++d):=⟨d,rfl⟩
def Pre.get {a b:ae}(h:Pre a b) {n:Nat}{so:SO}(e:a[n]?=some so):b[n]?=some so:=by
 obtain ⟨d,rfl⟩:=h
 rw [jj (yf.mp e).1]
 exact e
def yq (st:ae) (so:SO):(st++[so])[st.length]?=some so:=by simp
def GG {fe:Ai}{env:zc}{f:PV->PV}{st:ae}{n:Nat}{xs:An}(hn:st[n]?=some (.lst xs)) (h:∀x∈xs,fe (some x::env) st=.ok (f x) st) :
  ∀(k i:Nat) (m:Nat) (ys:An),xs.length-i=k->i<=xs.length->k<m->cG fe env n m i ys st=.ok (.ref st.length) (st++[.lst (ys++(xs.drop i).map f)]):=by
 intro k
 induction k with
 | zero =>
  intro i m ys hk hi hm
  obtain ⟨m',rfl⟩:∃m',m=m'+1:=⟨m-1,by omega⟩
  have iN:i=xs.length:=by omega
  subst iN
  simp [cG,z0,hn]
 | succ k ih =>
  intro i m ys hk hi hm
  obtain ⟨m',rfl⟩:∃m',m=m'+1:=⟨m-1,by omega⟩
  have a6:i<xs.length:=by omega
  have e:xs[i]?=some xs[i]:=by simp [a6]
  simp only [cG,z0,hn,e,h xs[i] (jJ a6),wX,zD]
  rw [ih (i+1) m' _ (by omega) (by omega) (by omega),jc a6]
  rw [yC,iF,List.singleton_append]
def zl1 {K:Frag}{mg:Ab}{t:IsT}(hs:t.sub=λ_ _=>none) (hT:t.subT=λ_ _=>none) (hC:t.tyC=λ_ _=>none):IsF K mg t where
 s c B b h:=by rw [hs] at h;cases h
 tt c n b h:=by rw [hT] at h;cases h
 u T B b h:=by rw [hC] at h;cases h
 x c C h hm z:=by
  rcases z with ⟨B,b,z⟩|⟨n,b,z⟩
  ·rw [hs] at z;cases z
  ·rw [hT] at z;cases z
 i c C h hm z:=by
  rcases z with ⟨B,b,z⟩|⟨n,b,z⟩
  ·rw [hs] at z;cases z
  ·rw [hT] at z;cases z
section
variable {X:Cx}{Er:XK}{pos:Pos}
def wG:List (Ai)->Ah
 | [],_,st=>.ok [] st
 | f::r,env,st=>(f env st).bind λx ao=>(wG r env ao).bind λxs aA=>.ok (x::xs) aA
inductive ff (X:Cx) (Er:XK):List (Option Expr)->List Expr->List Str->List (Ai)->Prop
 | nil:ff X Er [] [] [] []
 | cons {z:Str} {j} {p:Pos} {v:Expr} {f:Ai} {ks:List (Option Expr)} {vs:List Expr} {zs:Ad} {fs:List (Ai)} (hv:ME X Er v f) (hr:ff X Er ks vs zs fs):ff X Er (some (.Constant (.str z) j p)::ks) (v::vs) (z::zs) (f::fs)
def ff.pps:∀{ks:List (Option Expr)}{vs:List Expr}{zs:Ad}{fs:List (Ai)},ff X Er ks vs zs fs->kL X pos ks vs ((zs.zip fs).map λq=>(tC (.str q.1),tM X.K X.mg Er q.2))
 | _,_,_,_,.nil=>DH
 | _,_,_,_,.cons hv hr=>DI ro hv hr.pps
def ff.len {ks:List (Option Expr)}{vs:List Expr}{zs:Ad}{fs:List (Ai)}(h:ff X Er ks vs zs fs):ks.length=vs.length/\zs.length=fs.length/\ks.length=zs.length/\ks.all (·.isSome)=true:=by
 induction h with
 | nil=>exact ⟨rfl,rfl,rfl,rfl⟩
 | cons hv hr ih=>exact ⟨by simp [ih.1],by simp [ih.2.1],by simp [ih.2.2.1],by simpa using ih.2.2.2⟩
def uX {K:Frag}{mg:Ab}:∀{zs:Ad}{fs:List (Ai)}{env:zc}{st:ae}{ρ:Ae}{H:Hp}{U:L2.St}{Q:List (V×V)->Hp->Prop},zs.length=fs.length->a7 K mg ρ H env U->aY K mg ρ H st ->
  Out K mg ρ H (wG fs env st) (λai H' xs aU=>∀vs,Rs K mg ai H' xs vs->Q ((zs.map V.str).zip vs) H') Er->mD ((zs.zip fs).map λq=>(tC (.str q.1),tM K mg Er q.2)) U H Q
 | [],[],env,st,ρ,H,U,Q,_,re,rs,h=>h.now rs [] rfl
 | z::zs,f::fs,env,st,ρ,H,U,Q,hl,re,rs,h=>by
  refine ⟨env,st,ρ,re,rs,Out.then h λaf H1 x ao e1 s1 h1 v rv=>?_⟩
  refine uX (env:=env) (st:=ao) (ρ:=af) (by simpa using hl) (re.ext e1) s1 (Out.then h1 λar H2 xs aA e2 s2 h2 vs ph=>?_)
  exact h2.now s2 (v::vs) ⟨v,vs,rfl,R.ext e2 x rv,ph⟩
 | [],_::_,_,_,_,_,_,_,hl,_,_,_=>by simp at hl
 | _::_,[],_,_,_,_,_,_,hl,_,_,_=>by simp at hl
def fV:Option SO->Bool
 | some (.dic [] [])=>true
 | _=>false
def iV (zs:Ad) (fs:List (Ai)):Ai:=λenv st=>(wG fs env (st++[.dic [] []])).bind λxs ao =>
 if fV ao[st.length]?=true then .ok (.ref st.length) (ao.set st.length (.dic (wf (zs.zip xs) [] []).1 (wf (zs.zip xs) [] []).2)) else .stuck
def GH {o:Option SO}(h:fV o=true):o=some (.dic [] []):=by
 unfold fV at h
 split at h
 ·rfl
 ·cases h
def uY:∀{zs:Ad}{vs:List V},(zs.map V.str).zip vs=((zs.map Sum.inr:List Key).zip vs).map λkv=>(kV kv.1,kv.2)
 | [],_=>rfl
 | _::_,[]=>rfl
 | z::zs,v::vs=>by simp only [yC,List.zip_cons_cons,uY (zs:=zs) (vs:=vs)];rfl
def GJ {keys:List (Option Expr)}{values:List Expr}{zs:Ad}{fs:List (Ai)}(h:ff X Er keys values zs fs) (h0:keys≠[]) (oX:keys.length<=15):ME X Er (.Dict keys values pos) (iV zs fs):=by
 obtain ⟨l1,l2,l3,l4⟩:=h.len
 exact PE.weak (DK h.pps l4 l1 h0 oX) λU H Q ⟨env,st,ρ,re,rs,ho⟩=>λp hp=>by
  have e0:Ext ρ H (ρ++[p]) (upd H p (.dK [])):=Ext.push hp
  have s0:aY X.K X.mg (ρ++[p]) (upd H p (.dK [])) (st++[.dic [] []]):=rs.push hp ⟨[],yx,rfl,rfl⟩
  have GK:(ρ++[p])[st.length]?=some p:=by rw [<-rs.len];simp
  refine uX l2 (re.ext e0) s0 (Out.then (Out.ext ho e0) λaf H1 xs ao e1 s1 h1 vs rv=>?_)
  obtain ⟨c,h1⟩:=Out.ifp h1
  have hd:=GH c
  have p7:=e1.get GK
  obtain ⟨ws,k1,k2,k3⟩:=s1.addr hd p7
  have ew:ws=[]:=by cases ws with|nil=>rfl|cons=>simp at k3
  subst ew
  refine ⟨k1,(zs.map Sum.inr:List Key).zip vs,uY,by rw [List.length_zip,ji];omega,?_⟩
  have eq:Ext af H1 af (upd H1 p (.dK (df [] ((zs.map Sum.inr:List Key).zip vs)))):=Ext.write k1 rfl
  obtain ⟨us,q1,q2,q3⟩:=uM (K:=X.K) (mg:=X.mg) (zs:=zs) (ks:=[]) (xs:=[]) (vs:=[]) rv rfl rfl
  exact h1 af _ eq (s1.write p7 eq ⟨us,by rw [yx];exact congrArg (λt=>some (HO.dK t)) q1,Rs.ext eq _ q2,q3⟩) _ ⟨p,rfl,p7⟩
def zcO:ff X Er [] [] [] []:=.nil
def zaU {z:Str}{j}{p:Pos}{v:Expr}{f:Ai}{ks:List (Option Expr)}{vs:List Expr}{zs:Ad}{fs:List (Ai)}(hv:ME X Er v f) (hr:ff X Er ks vs zs fs):ff X Er (some (.Constant (.str z) j p)::ks) (v::vs) (z::zs) (f::fs):=.cons hv hr
end
section
variable {X:Cx}
def iW:Al
 | [.int i,.int j],st=>.ok (.int (if j<i then j else i)) st
 | _,_=>.stuck
def GL (hc:X.calm=true):bT X (.builtin "min") iW:=⟨_,B3 hc,fun ρ H st xs vs Q E s r h=>by
 unfold iW at h
 split at h
 ·rename_i aU i j
  obtain ⟨v,w,rfl,r1,r2⟩:=r.two
  cases r1;cases r2
  exact ⟨i,j,rfl,Out.now (x:=PV.int (if j<i then j else i)) h s _ rfl⟩
 ·exact h.elim⟩
def GN:bootBuiltins "min" = some (.builtin "min"):=by decide +kernel
@[simp] def GO (i j:Int) (st:ae):iW [.int i,.int j] st=.ok (.int (if j<i then j else i)) st:=(rfl)
end
section
variable {X:Cx}
def GP:bf X (compareOp .Is) (λx y H Q=>∃a b,x=.bl a/\y=.bl b/\Q (.bl (a==b)) H):=by
 intro pins s U H x y v u Q I rx ry h
 obtain ⟨a,b,rfl,rfl,q⟩:=h
 cases rx;cases ry
 exact PyProof.Rows.is_bool ⟨.bl (a==b),H,I,rfl,q⟩
def GQ:bf X (compareOp .IsNot) (λx y H Q=>∃a b,x=.bl a/\y=.bl b/\Q (.bl (!(a==b))) H):=by
 intro pins s U H x y v u Q I rx ry h
 obtain ⟨a,b,rfl,rfl,q⟩:=h
 cases rx;cases ry
 exact PyProof.Rows.isnot_bool ⟨.bl (!(a==b)),H,I,rfl,q⟩
def lh:Am
 | .bl a,.bl b,st=>.ok (.bl (a==b)) st
 | x,y,st=>tT x y st
def p8:Am
 | .bl a,.bl b,st=>.ok (.bl (!(a==b))) st
 | x,y,st=>tU x y st
def zl8:bK X .Is lh:=by
 obtain ⟨r,h1,h2⟩:=Ez (X:=X)
 refine ⟨λx y H Q=>r x y H Q\/_,h1.or GP,fun ρ H st x y v w Q E s rx ry h=>?_⟩
 unfold lh at h
 split at h
 ·rename_i a b
  cases rx;cases ry
  exact .inr ⟨_,_,rfl,rfl,Out.now (x:=PV.bl (a==b)) h s _ rfl⟩
 ·exact .inl (h2 ρ H st _ _ v w Q E s rx ry h)
def zl9:bK X .IsNot p8:=by
 obtain ⟨r,h1,h2⟩:=EA (X:=X)
 refine ⟨λx y H Q=>r x y H Q\/_,h1.or GQ,fun ρ H st x y v w Q E s rx ry h=>?_⟩
 unfold p8 at h
 split at h
 ·rename_i a b
  cases rx;cases ry
  exact .inr ⟨_,_,rfl,rfl,Out.now (x:=PV.bl (!(a==b))) h s _ rfl⟩
 ·exact .inl (h2 ρ H st _ _ v w Q E s rx ry h)
end
def c_ (f:PV->PV->Option Bool):List PV->List PV->Option Bool
 | [],[]=>some true
 | x::xs,y::ys=>match f x y,c_ f xs ys with
  | some a,some b=>some (a&&b)
  | _,_=>none
 | _,_=>some false
def bL (f:PV->PV->Option Bool) (ks':Ad) (bF:An):List Str->List PV->Option Bool
 | k::ks,x::xs=>match (ks'.zip bF).lookup k with
  | none=>some false
  | some y=>match f x y,bL f ks' bF ks xs with
   | some a,some b=>some (a&&b)
   | _,_=>none
 | _,_=>some true
def uZ {f:PV->PV->Option Bool}:∀{xs ys:An}{b:Bool},c_ f xs ys=some b->∃e:Nat->Bool,(∀j x y,xs[j]?=some x->ys[j]?=some y->f x y=some (e j))/\((List.range (min xs.length ys.length)).all e&&xs.length==ys.length)=b
 | [],[],b,h=>by cases h;exact ⟨λ_=>true,λj x y h=>by simp at h,by simp⟩
 | [],y::ys,b,h=>by cases h;exact ⟨λ_=>true,λj x y h=>by simp at h,by simp⟩
 | x::xs,[],b,h=>by cases h;exact ⟨λ_=>true,λj x y _ h=>by simp at h,by simp⟩
 | x::xs,y::ys,b,h=>by
  simp only [c_] at h
  cases hf:f x y with
  | none=>rw [hf] at h;cases h
  | some a =>
   cases hr:c_ f xs ys with
   | none=>rw [hf,hr] at h;cases h
   | some c =>
    rw [hf,hr] at h
    cases h
    obtain ⟨e,h1,h2⟩:=uZ hr
    refine ⟨λj=>match j with|0=>a|j+1=>e j,λj u v hu hv=>?_,?_⟩
    ·cases j with
     | zero=>simp at hu hv;subst hu;subst hv;exact hf
     | succ j=>simp at hu hv;exact h1 j u v hu hv
    ·have e1:min (x::xs).length (y::ys).length=min xs.length ys.length+1:=by simp only [jx];omega
     have e2:((x::xs).length==(y::ys).length)=(xs.length==ys.length):=by
      rw [Bool.eq_iff_iff];simp
     rw [e1,e2,List.range_succ_eq_map,List.all_cons,List.all_map,<-h2,Bool.and_assoc]
     rfl
section
variable {X:Cx}{Er:XK}{K:Frag}{mg:Ab}{ρ:Ae}{pins:Ac}{U:L2.St}{H:Hp}{s:Shared}{st:ae}
def GR {ρ:Ae}(nd:ρ.Nodup) {n m:Nat}{a:Addr}(h:ρ[n]?=some a) (h':ρ[m]?=some a):n=m:=by
 obtain ⟨h1,h2⟩:=yf.mp h
 obtain ⟨h3,h4⟩:=yf.mp h'
 have pw:=List.pairwise_iff_getElem.mp nd
 rcases Nat.lt_trichotomy n m with c|c|c
 ·exact absurd (h2.trans h4.symm) (pw n m h1 h3 c)
 ·exact c
 ·exact absurd (h4.trans h2.symm) (pw m n h3 h1 c)
def u7 {f:PV->PV->Option Bool}(hf:∀x y v b,f x y=some b->R K mg ρ H x v->R K mg ρ H y v->b=true):∀{xs ys:An}{vs:List V}{b:Bool},c_ f xs ys=some b->Rs K mg ρ H xs vs->Rs K mg ρ H ys vs->b=true
 | [],[],vs,b,h,_,_=>by cases h;rfl
 | [],y::ys,vs,b,h,rx,ry=>by cases rx;obtain ⟨_,_,e,_⟩:=ry;cases e
 | x::xs,[],vs,b,h,rx,ry=>by cases ry;obtain ⟨_,_,e,_⟩:=rx;cases e
 | x::xs,y::ys,vs,b,h,rx,ry=>by
  obtain ⟨v,r,rfl,r1,r2⟩:=rx
  obtain ⟨v',r',e,r3,r4⟩:=ry
  cases e
  simp only [c_] at h
  cases h1:f x y with
  | none=>rw [h1] at h;cases h
  | some a =>
   cases h2:c_ f xs ys with
   | none=>rw [h1,h2] at h;cases h
   | some c =>
    rw [h1,h2] at h
    cases h
    rw [hf x y v a h1 r1 r3,u7 hf h2 r2 r4]
    rfl
def cu {f:PV->PV->Option Bool}(hf:∀x v b,f x x=some b->R K mg ρ H x v->b=true) {ks0:Ad}{xs0:An}:∀{ks:Ad}{xs:An}{vs:List V}{b:Bool},(∀k x,(k,x)∈ks.zip xs->(ks0.zip xs0).lookup k=some x)->bL f ks0 xs0 ks xs=some b->Rs K mg ρ H xs vs->b=true
 | [],xs,vs,b,_,h,_=>by cases xs<;>(cases h;rfl)
 | k::ks,[],vs,b,_,h,_=>by cases h;rfl
 | k::ks,x::xs,vs,b,hm,h,rx=>by
  obtain ⟨v,r,rfl,r1,r2⟩:=rx
  simp only [bL] at h
  rw [hm k x (by simp)] at h
  simp only at h
  cases h1:f x x with
  | none=>rw [h1] at h;cases h
  | some a =>
   cases h2:bL f ks0 xs0 ks xs with
   | none=>rw [h1,h2] at h;cases h
   | some c =>
    rw [h1,h2] at h
    cases h
    rw [hf x v a h1 r1,cu hf (λk' x' h'=>hm k' x' (by simp [h'])) h2 r2]
    rfl
def u9:∀{ks:Ad}{xs:An},ks.Nodup->∀k x,(k,x)∈ks.zip xs->(ks.zip xs).lookup k=some x
 | [],_,_,k,x,h=>by simp at h
 | _::_,[],_,k,x,h=>by simp at h
 | k0::ks,x0::xs,nd,k,x,h=>by
  rw [ja] at nd
  rw [List.zip_cons_cons] at h ⊢
  rcases yv.mp h with e|h'
  ·cases e;simp [jf]
  ·have hk:k∈ks:=(List.of_mem_zip h').1
   have ne:(k==k0)=false:=by
    simp only [beq_eq_false_iff_ne]
    intro e;subst e;exact nd.1 hk
   rw [jf,ne]
   exact u9 nd.2 k x h'
end
def dm (P:Program) (W:World) (A:Around) (s:Shared) (u u':Value) (b:Bool):Prop:=∀(E:Aa) (Q:Bool->Shared->Prop),Q b s->wpAny (model P W) A (eqBool u u') Q E s
def bU (P:Program) (W:World) (A:Around) (s:Shared) (u u':Value) (b:Bool):Prop:=∀(E Q:Aa),Q (.bool b) s->wpAny (model P W) A (richCompare .Eq u u') Q E s
section
variable {P:Program}{W:World}{A:Around}{s:Shared}
def dm.of_refs {l b:Addr}{k:Bool}(lj:l≠b) (h:bU P W A s (.ref l) (.ref b) k):dm P W A s (.ref l) (.ref b) k:=λE Q hq=>by
 unfold eqBool
 refine jo (wpAny_ite_split (λdk=>absurd (by have:=eq_of_beq dk;injection this) lj) λ_=>?_)
 exact zq (h E _ (wu hq))
def GS {l b:Addr}{its aQ:Array Value}{n n2:Nat}{dd gI:Option Addr}{sl dX:Array (Option Value)}{e:Nat->Bool}{E Q:Aa}
  (hl:s.heap.get? l=some { cls:=.type "tuple", dict:=dd,data:=.seq its n,slots:=sl }) (hb:s.heap.get? b=some { cls:=.type "tuple", dict:=gI,data:=.seq aQ n2,slots:=dX })
  (he:∀j (h1:j<its.size) (h2:j<aQ.size),dm P W A.in1 s its[j] aQ[j] (e j)) (h:Q (.bool ((List.range (min its.size aQ.size)).all e&&its.size==aQ.size)) s) :
  wpAny (model P W) A.in1 (Builtin.«tuple.__eq__» ⟨[.ref l,.ref b],[]⟩) (λfin s'=>∃v,fin=.done (.ret v)/\Q v s') E s:=by
 obtain ⟨hp,g,d,tk,os⟩:=s
 have f2:=AutoSeq1.sub_tuple_tuple
 have hZ:(its.toList.zip aQ.toList).length=min its.size aQ.size:=by simp
 wp_walk using AutoSeq1.wpAny_loadPart' hl,AutoSeq1.wpAny_loadPart' hb,wpAny_forIn_list _ (λrest b s'=>b.1=none/\s'=⟨hp,g,d,tk,os⟩/\∃i,rest=(its.toList.zip aQ.toList).drop i/\Q (.bool (((List.range (min its.size aQ.size)).drop i).all e&&its.size==aQ.size)) ⟨hp,g,d,tk,os⟩) _
 case turn =>
  rintro ⟨y,x⟩ rest b s' ⟨p9,rfl,i,hz,hR⟩
  have a6:i<(its.toList.zip aQ.toList).length:=by
   rcases Nat.lt_or_ge i (its.toList.zip aQ.toList).length with h'|h'
   ·exact h'
   ·rw [ww h'] at hz;cases hz
  have hm:i<min its.size aQ.size:=hZ▸a6
  have h1:i<its.size:=by omega
  have h2:i<aQ.size:=by omega
  rw [jc a6] at hz
  injection hz with eU gW
  have hy:y=its[i]:=by have:=congrArg Prod.fst eU;simpa using this
  have hx:x=aQ[i]:=by have:=congrArg Prod.snd eU;simpa using this
  subst hy hx
  have hd:(List.range (min its.size aQ.size)).drop i=i::(List.range (min its.size aQ.size)).drop (i+1):=by simp [jc,hm]
  rw [hd,List.all_cons] at hR
  refine zq (he i h1 h2 _ _ ?_)
  cases hy:e i with
  | true =>
   rw [hy] at hR
   wp_walk
   exact ⟨rfl,rfl,i+1,gW,by simpa using hR⟩
  | false =>
   rw [hy] at hR
   wp_walk
   exact ⟨_,rfl,by simpa using hR⟩
 case fin =>
  rintro ⟨b1,b2⟩ s' ⟨p9,rfl,i,hz,hR⟩
  simp only at p9
  subst p9
  have GU:min its.size aQ.size<=i:=by
   rcases Nat.lt_or_ge i (its.toList.zip aQ.toList).length with h'|h'
   ·rw [jc h'] at hz;cases hz
   ·exact hZ▸h'
  rw [ww (by simpa using GU)] at hR
  wp_walk
  exact ⟨_,rfl,by simpa [Builtin.Tuple.tupleCompareSizes] using hR⟩
 case h=>exact ⟨rfl,rfl,0,rfl,by simpa using h⟩
def bU.tuples {l b:Addr}{its aQ:Array Value}{e:Nat->Bool}(hl:s.heap.IsTuple l its) (hb:s.heap.IsTuple b aQ) (hu:A.units<cLine)
  (he:∀j (h1:j<its.size) (h2:j<aQ.size),dm P W A.in1 s its[j] aQ[j] (e j)):bU P W A s (.ref l) (.ref b) ((List.range (min its.size aQ.size)).all e&&its.size==aQ.size):=λE Q h=>by
 obtain ⟨⟨cls,dd,data,sl⟩,ho,hc,n,hd⟩:=id hl
 obtain ⟨⟨nZ,gI,data2,dX⟩,ho2,eK,n2,hd2⟩:=id hb
 simp only at hc hd eK hd2
 subst hc hd eK hd2
 refine wpAny_richCompare_same_room (op:=.Eq) ⟨_,ho,rfl⟩ ⟨_,ho2,rfl⟩ F.slot_tuple_eq (j7 F.slot_tuple_eq ⟨_,ho,rfl⟩ F.entry_tuple_eq (GS (Q:=λv s'=>v ≠ .notImplemented/\Q v s') ho ho2 he (show Value.bool ((List.range (min its.size aQ.size)).all e&&its.size==aQ.size)≠Value.notImplemented/\Q (.bool ((List.range (min its.size aQ.size)).all e&&its.size==aQ.size)) s from ⟨(λx=>nomatch x),h⟩)) (F.args_tuple_eq_2 _ _)) hu
end
section
variable {X:Cx}{Er:XK}{K:Frag}{mg:Ab}{ρ:Ae}{pins:Ac}{U:L2.St}{H:Hp}{s:Shared}{st:ae}
def u_ {k:Str}{ks:Ad}{v:V}{vs:List V}{us:List (Key×Value)}(h:KV (kz (k::ks) (v::vs)) us):∃u r,us=(Sum.inr k,u)::r/\RelV v u/\KV (kz ks vs) r:=by
 cases h with
 | @cons p q ps qs h t =>
  obtain ⟨h1,h2⟩:=h
  obtain ⟨k',u⟩:=q
  have:k'=Sum.inr k:=h1.symm
  subst this
  exact ⟨u,qs,rfl,h2,t⟩
def va {f:Str}:∀{ks:Ad}{xs:An}{vs:List V},Rs K mg ρ H xs vs->(ks.zip xs).lookup f=none->(ks.zip vs).lookup f=none
 | [],_,_,_,_=>by simp
 | k::ks,[],_,r,_=>by cases r;simp
 | k::ks,y::xs,_,r,h=>by
  obtain ⟨v,r',rfl,h1,h2⟩:=r
  simp only [List.zip_cons_cons,jf] at h ⊢
  split at h
  ·cases h
  ·exact va h2 h
def GV {f:PV->PV->Option Bool}{G:Value->Value->Bool->Prop}(hf:∀x y v w u u' b,f x y=some b->R K mg ρ H x v->R K mg ρ H y w->RelV v u->RelV w u'->G u u' b) {xs ys:An}{vs ws:List V}{its aQ:Af}{e:Nat->Bool}(h2:Rs K mg ρ H xs vs) (h4:Rs K mg ρ H ys ws) (r1:Vals vs its) (r2:Vals ws aQ) (he:∀j x y,xs[j]?=some x->ys[j]?=some y->f x y=some (e j)) :
  ∀j (g1:j<its.toArray.size) (g2:j<aQ.toArray.size),G its.toArray[j] aQ.toArray[j] (e j):=by
 intro j g1 g2
 have l1:=h2.len
 have l2:=h4.len
 have l3:=r1.length
 have l4:=r2.length
 have k1:j<xs.length:=by rw [l1,l3];simpa using g1
 have k2:j<ys.length:=by rw [l2,l4];simpa using g2
 obtain ⟨v1,e1,pH⟩:=h2.get (zK k1)
 obtain ⟨v2,e2,pI⟩:=h4.get (zK k2)
 obtain ⟨u1,f1,pJ⟩:=r1.get e1
 obtain ⟨u2,f2,pK⟩:=r2.get e2
 have w1:its.toArray[j]=u1:=by
  obtain ⟨_,z⟩:=yf.mp f1
  simpa using z
 have w2:aQ.toArray[j]=u2:=by
  obtain ⟨_,z⟩:=yf.mp f2
  simpa using z
 rw [w1,w2]
 exact hf xs[j] ys[j] v1 v2 u1 u2 (e j) (he j _ _ (zK k1) (zK k2)) pH pI pJ pK
end
section
variable {X:Cx}{Er:XK}{K:Frag}{mg:Ab}
def cN:∀{ks:Ad}{us:Af},us.length=ks.length->(∀(j:Nat) v,us[j]?=some v->∃k,ks[j]?=some k/\∃t,v=Value.str k t)->Vals (ks.map V.str) us
 | [],[],_,_=>.nil
 | [],_::_,h,_=>by simp at h
 | _::_,[],h,_=>by simp at h
 | k::ks,u::us,h,hv=>by
  obtain ⟨k',e,t,ev⟩:=hv 0 u rfl
  simp at e
  subst e
  exact .cons ⟨t,ev⟩ (cN (by simpa using h) λj v e=>by simpa using hv (j+1) v (by simpa using e))
def GW (hc:X.calm=true):bj X (.type "list") (λxs H Q=>∃p ks vs,xs=[.ref p]/\H p=some (.dK (kz ks vs))/\ks.length=vs.length/\∀l,H l=none->Q (.ref l) (upd H l (.lst (ks.map V.str)))):=by
 intro pins s U H xs us Q I r h
 obtain ⟨p,ks,vs,rfl,hp,hl,q⟩:=h
 obtain ⟨u,rfl,rx⟩:=vals1 r
 cases rx
 obtain ⟨hz,lo,kv,gX,hd⟩:=jg I.hok (.inl hp)
 obtain ⟨ep,fW⟩:=hd.dictAt
 have lk:kv.length=ks.length:=by rw [<-gX.length];simp [kz,hl]
 have keys:kv.map (·.1)=ks.map Sum.inr:=by
  rw [<-gX.keys]
  simp [kz,hl,List.map_fst_zip]
 refine kdl_call (kdl_dict (knd:=a0 X.prog X.w) (kvs:=kv) (ep:=ep) lo) (I.ok.hd hc) fW (by rw [<-gX.length];exact hz) λh' tk bX c' hk hS iz=>?_
 have hv:Vals (ks.map V.str) bX.toList:=cN (by rw [Array.length_toList,iz.1,lk]) λj v e=>by
  obtain ⟨k,x,e1,e2⟩:=iz.2 j v (by rw [<-Array.getElem?_toList];exact e)
  have e3:(kv.map (·.1))[j]?=some k:=by rw [jp,e1];rfl
  rw [keys,jp] at e3
  cases e4:ks[j]? with
  | none=>rw [e4] at e3;cases e3
  | some k' =>
   rw [e4] at e3
   cases e3
   rcases jy (show cK (Sum.inr k') v=true from e2) with ⟨i,t,z,_⟩|⟨y,t,z,z'⟩
   ·cases z
   ·cases z;exact ⟨k',rfl,t,z'⟩
 exact ⟨.ref s.heap.objs.size,_,I.laid (t':=tk) hk (zI _) (show aX X.prog X.w _ h' _ (.lst (ks.map V.str)) from ⟨by rw [ji,<-lk,<-gX.length];exact hz,bX.toList,c',hv,by simpa using hS⟩),rfl,q _ I.fresh⟩
def wZ:Al:=λxs st=>match xs with
 | [.ref n]=>match st[n]? with
  | some (.dic ks _)=>.ok (.ref st.length) (st++[.lst (ks.map PV.str)])
  | _=>mO xs st
 | _=>mO xs st
def p_ {ρ:Ae}{H:Hp}:∀{ks:Ad},Rs K mg ρ H (ks.map PV.str) (ks.map V.str)
 | []=>rfl
 | k::ks=>⟨_,_,rfl,rfl,p_⟩
def GX (hc:X.calm=true):bT X (.type "list") wZ:=by
 obtain ⟨r,h1,h2⟩:=EK (X:=X)
 refine ⟨_,h1.or (GW hc),fun ρ H st xs vs Q E s rx h=>?_⟩
 by_cases hx:∃n ks ys,xs=[.ref n]/\st[n]?=some (.dic ks ys)
 ·obtain ⟨n,ks,ys,rfl,e⟩:=hx
  have h:Out X.K X.mg ρ H (.ok (.ref st.length) (st++[.lst (ks.map PV.str)])) (gV X.K X.mg Q) E:=by
   simpa only [wZ,e] using h
  obtain ⟨v,rfl,rv⟩:=Rs.one rx
  obtain ⟨a,vs,rfl,_,k1,_,k3⟩:=R.refD s rv e
  exact .inr ⟨a,ks,vs,rfl,k1,k3,λl hl=>Out.newList (xs:=ks.map PV.str) h s p_ hl⟩
 ·refine .inl (h2 ρ H st xs vs Q E s rx ?_)
  have:wZ xs st=mO xs st:=by
   unfold wZ
   split
   ·rename_i n
    split
    ·rename_i ks ys e;exact absurd ⟨n,ks,ys,rfl,e⟩ hx
    ·rfl
   ·rfl
  rw [this] at h
  exact h
def GY {ss:List Stmt}:dz X Er ss kX:=bM.weak Bv λD U H ⟨env,st,ρ,re,rs,h⟩=>h
end
section
variable {P:Program}{W:World}{A:Around}{s:Shared}{E:Aa}{K:Type} [DecidableEq K] {knd:KeyKind P W K}
def iX {d:Addr} {kv:List (K×Value)} {x:Value} {T:String} {name:Str} (sl:Slot "dict" name "dict.__eq__") (hd:s.heap.DictOf knd d kv) (hx:s.TypeIs x T) (hs:isSubtype (.type T) (.type "dict")=pure false) (Q:Aa) (h:Q .notImplemented s) :
  wpAny (model P W) A (call (.builtin "dict.__eq__") [.ref d,x]) Q E s:=by
 refine j7 sl hd.typeIs PySem.F.entry_dict_eq ?_ (PySem.F.args_dict_eq_2 _ _)
 show wpAny _ _ (Builtin.Dict.dictSlotArgs "__eq__" ⟨[.ref d,x],[]⟩ >>= _) _ _ s
 refine zq ?_
 unfold Builtin.Dict.dictSlotArgs
 refine zq (wpAny_notOrdered_dict hd.typeIs ?_)
 show wpAny _ _ (pure (Value.ref d,x)) _ _ s
 refine zE ?_
 refine zq (wpAny_isInstance hx hs ?_)
 simp only [Bool.not_false,jX]
 exact zq (wpAny_rule (zE ⟨_,rfl,h⟩))
def vb {d:Addr} {o:Obj} {b:Int} {u:Tok} {name:Str} (sl:Slot "int" name "int.__eq__") (ho:s.heap.get? d=some o) (hd:o.cls=.type "dict") {es:Array DictEntry} {ep:Nat} (hq':o.data=.dict es ep) (Q:Aa) (h:Q .notImplemented s) :
  wpAny (model P W) A (call (.builtin "int.__eq__") [.int b u,.ref d]) Q E s:=by
 refine j7 sl (typeIs_int s b u) PySem.F.entry_int_eq ?_ (PySem.F.args_int_eq_2 _ _)
 obtain ⟨hp,g,dd,tk,os⟩:=s
 obtain ⟨c,d1,d2,d3⟩:=o
 cases hd
 cases hq'
 wp_walk using AutoSeq1.wpAny_loadPart' ho,wpAny_load ho
 exact ⟨_,rfl,h⟩
def vc {d:Addr} {o:Obj} {b:Str} {u:Tok} {name:Str} (sl:Slot "str" name "str.__eq__") (ho:s.heap.get? d=some o) (hd:o.cls=.type "dict") {es:Array DictEntry} {ep:Nat} (hq':o.data=.dict es ep) (Q:Aa) (h:Q .notImplemented s) :
  wpAny (model P W) A (call (.builtin "str.__eq__") [.str b u,.ref d]) Q E s:=by
 refine j7 sl (typeIs_str s b u) PySem.F.entry_str_eq ?_ (PySem.F.args_str_eq_2 _ _)
 obtain ⟨hp,g,dd,tk,os⟩:=s
 obtain ⟨c,d1,d2,d3⟩:=o
 cases hd
 cases hq'
 wp_walk using AutoSeq1.wpAny_loadPart' ho,wpAny_load ho
 exact ⟨_,rfl,h⟩
def vd {d t:Addr} {o ot:Obj} {its:Array Value} {n:Nat} {name:Str} (sl:Slot "tuple" name "tuple.__eq__") (ht:s.heap.get? t=some ot) (hc:ot.cls=.type "tuple") (hq:ot.data=.seq its n) (ho:s.heap.get? d=some o) (hd:o.cls=.type "dict") {es:Array DictEntry} {ep:Nat} (hq':o.data=.dict es ep) (Q:Aa) (h:Q .notImplemented s) :
  wpAny (model P W) A (call (.builtin "tuple.__eq__") [.ref t,.ref d]) Q E s:=by
 refine j7 sl ⟨_,ht,hc⟩ PySem.F.entry_tuple_eq ?_ (PySem.F.args_tuple_eq_2 _ _)
 obtain ⟨hp,g,dd,tk,os⟩:=s
 obtain ⟨c,d1,d2,d3⟩:=o
 obtain ⟨c',La,Lb,Lc⟩:=ot
 cases hd
 cases hq'
 cases hc
 cases hq
 have f1:=PySem.F.sub_dict_tuple
 wp_walk using AutoSeq1.wpAny_loadPart' ht,AutoSeq1.wpAny_loadPart' ho
 exact ⟨_,rfl,h⟩
def dm.of_ref {d:Addr}{u':Value}{k:Bool}(lj:Value.ref d≠u') (h:bU P W A s (.ref d) u' k):dm P W A s (.ref d) u' k:=λE Q hq=>by
 unfold eqBool
 refine jo (wpAny_ite_split (λdk=>absurd (eq_of_beq dk) lj) λ_=>?_)
 exact zq (h E _ (wu hq))
def dm.of_num {d:Addr}{b:Int}{u:Tok}{k:Bool}(h:bU P W A s (.int b u) (.ref d) k):dm P W A s (.int b u) (.ref d) k:=λE Q hq=>by
 unfold eqBool
 refine jo (wpAny_ite_split (λdk=>absurd (eq_of_beq dk) nofun) λ_=>?_)
 exact zq (h E _ (wu hq))
def dm.of_txt {d:Addr}{b:Str}{u:Tok}{k:Bool}(h:bU P W A s (.str b u) (.ref d) k):dm P W A s (.str b u) (.ref d) k:=λE Q hq=>by
 unfold eqBool
 refine jo (wpAny_ite_split (λdk=>absurd (eq_of_beq dk) nofun) λ_=>?_)
 exact zq (h E _ (wu hq))
def bU.rec_num {d:Addr}{kv:List (K×Value)}(hd:s.heap.DictOf knd d kv) (b:Int) (u:Tok) (hu:A.units<cLine):bU P W A s (.ref d) (.int b u) false:=λE Q h=>by
 obtain ⟨o,es,ep,ho,hx,fg,_⟩:=id hd
 have ty:=hd.typeIs
 obtain ⟨o',ho',hc⟩:=id ty
 rw [ho] at ho'
 cases ho'
 exact SeqAt.rc_eq_decline_or (k:=false) ty (typeIs_int s b u) (by decide) PySem.F.sub_int_dict PySem.F.slot_dict_eq PySem.F.slot_int_eq_refl (iX PySem.F.slot_dict_eq hd (typeIs_int s b u) PySem.F.sub_int_dict) (vb PySem.F.slot_int_eq_refl ho hc fg)
  (λ_ hq=>wpAny_of_eq (rfl:isSame (.ref d) (.int b u)=pure false) hq) (.inr hu) h
def bU.num_rec {d:Addr}{kv:List (K×Value)}(hd:s.heap.DictOf knd d kv) (b:Int) (u:Tok) (hu:A.units<cLine):bU P W A s (.int b u) (.ref d) false:=λE Q h=>by
 obtain ⟨o,es,ep,ho,hx,fg,_⟩:=id hd
 have ty:=hd.typeIs
 obtain ⟨o',ho',hc⟩:=id ty
 rw [ho] at ho'
 cases ho'
 exact SeqAt.rc_eq_decline_or (k:=false) (typeIs_int s b u) ty (by decide) PySem.F.sub_dict_int PySem.F.slot_int_eq PySem.F.slot_dict_eq_refl (vb PySem.F.slot_int_eq ho hc fg) (iX PySem.F.slot_dict_eq_refl hd (typeIs_int s b u) PySem.F.sub_int_dict)
  (λ_ hq=>wpAny_of_eq (rfl:isSame (.int b u) (.ref d)=pure false) hq) (.inr hu) h
def bU.rec_txt {d:Addr}{kv:List (K×Value)}(hd:s.heap.DictOf knd d kv) (b:Str) (u:Tok) (hu:A.units<cLine):bU P W A s (.ref d) (.str b u) false:=λE Q h=>by
 obtain ⟨o,es,ep,ho,hx,fg,_⟩:=id hd
 have ty:=hd.typeIs
 obtain ⟨o',ho',hc⟩:=id ty
 rw [ho] at ho'
 cases ho'
 exact SeqAt.rc_eq_decline_or (k:=false) ty (typeIs_str s b u) (by decide) PySem.F.sub_str_dict PySem.F.slot_dict_eq PySem.F.slot_str_eq_refl (iX PySem.F.slot_dict_eq hd (typeIs_str s b u) PySem.F.sub_str_dict) (vc PySem.F.slot_str_eq_refl ho hc fg)
  (λ_ hq=>wpAny_of_eq (rfl:isSame (.ref d) (.str b u)=pure false) hq) (.inr hu) h
def bU.txt_rec {d:Addr}{kv:List (K×Value)}(hd:s.heap.DictOf knd d kv) (b:Str) (u:Tok) (hu:A.units<cLine):bU P W A s (.str b u) (.ref d) false:=λE Q h=>by
 obtain ⟨o,es,ep,ho,hx,fg,_⟩:=id hd
 have ty:=hd.typeIs
 obtain ⟨o',ho',hc⟩:=id ty
 rw [ho] at ho'
 cases ho'
 exact SeqAt.rc_eq_decline_or (k:=false) (typeIs_str s b u) ty (by decide) PySem.F.sub_dict_str PySem.F.slot_str_eq PySem.F.slot_dict_eq_refl (vc PySem.F.slot_str_eq ho hc fg) (iX PySem.F.slot_dict_eq_refl hd (typeIs_str s b u) PySem.F.sub_str_dict)
  (λ_ hq=>wpAny_of_eq (rfl:isSame (.str b u) (.ref d)=pure false) hq) (.inr hu) h
def iY {d t:Addr}{kv:List (K×Value)}{its:Array Value}(hd:s.heap.DictOf knd d kv) (ht:s.heap.IsTuple t its):d≠t:=λe=>by
 subst e
 obtain ⟨o,ho,hc⟩:=hd.typeIs
 obtain ⟨o2,ho2,eK,_⟩:=ht
 rw [ho] at ho2
 cases ho2
 rw [hc] at eK
 exact absurd eK (by simp)
def bU.rec_row {d t:Addr}{kv:List (K×Value)}{its:Array Value}(hd:s.heap.DictOf knd d kv) (ht:s.heap.IsTuple t its) (hu:A.units<cLine):bU P W A s (.ref d) (.ref t) false:=λE Q h=>by
 have ne:=iY hd ht
 obtain ⟨o,es,ep,ho,hx,fg,_⟩:=id hd
 have ty:=hd.typeIs
 obtain ⟨o',ho',hc⟩:=id ty
 rw [ho] at ho'
 cases ho'
 obtain ⟨ot,fX,gY,n,qc⟩:=id ht
 exact SeqAt.rc_eq_decline_or (k:=false) ty ⟨_,fX,gY⟩ (by decide) PySem.F.sub_tuple_dict PySem.F.slot_dict_eq PySem.F.slot_tuple_eq_refl (iX PySem.F.slot_dict_eq hd ⟨_,fX,gY⟩ PySem.F.sub_tuple_dict) (vd PySem.F.slot_tuple_eq_refl fX gY qc ho hc fg)
  (λ_ hq=>wpAny_isSame_ref_other ne ho fX (by rw [hc];simp) hq) (.inr hu) h
def bU.row_rec {d t:Addr}{kv:List (K×Value)}{its:Array Value}(hd:s.heap.DictOf knd d kv) (ht:s.heap.IsTuple t its) (hu:A.units<cLine):bU P W A s (.ref t) (.ref d) false:=λE Q h=>by
 have ne:=iY hd ht
 obtain ⟨o,es,ep,ho,hx,fg,_⟩:=id hd
 have ty:=hd.typeIs
 obtain ⟨o',ho',hc⟩:=id ty
 rw [ho] at ho'
 cases ho'
 obtain ⟨ot,fX,gY,n,qc⟩:=id ht
 exact SeqAt.rc_eq_decline_or (k:=false) ⟨_,fX,gY⟩ ty (by decide) PySem.F.sub_dict_tuple PySem.F.slot_tuple_eq PySem.F.slot_dict_eq_refl (vd PySem.F.slot_tuple_eq fX gY qc ho hc fg) (iX PySem.F.slot_dict_eq_refl hd ⟨_,fX,gY⟩ PySem.F.sub_tuple_dict)
  (λ_ hq=>SeqAt.wpAny_isSame_ref_other' ne.symm fX ho (by rw [hc];simp) hq) (.inr hu) h
inductive bZ (P:Program) (W:World) (A:Around) (s:Shared) (kb:List (K×Value)):List (K×Value)->Bool->Prop
 | nil:bZ P W A s kb [] true
 | miss {k:K} {v:Value} {r:List (K×Value)} (h:valueAt kb k=none):bZ P W A s kb ((k,v)::r) false
 | hit {k:K} {v y:Value} {r:List (K×Value)} {e b:Bool} (h:valueAt kb k=some y) (he:dm P W A s v y e) (hr:bZ P W A s kb r b):bZ P W A s kb ((k,v)::r) (e&&b)
def bZ.inv {kb r:List (K×Value)}{k:K}{v:Value}{b:Bool}(h:bZ P W A s kb ((k,v)::r) b):(valueAt kb k=none/\b=false)\/∃y e c,valueAt kb k=some y/\dm P W A s v y e/\bZ P W A s kb r c/\b=(e&&c):=by
 cases h with
 | miss h=>exact .inl ⟨h,rfl⟩
 | hit h he hr=>exact .inr ⟨_,_,_,h,he,hr,rfl⟩
def m6 {nm:String}{a b:Addr}{ka kb:List (K×Value)}{r:Bool}{Q:Bool->Shared->Prop}(la:(a==sysModules)=false) (lb:(b==sysModules)=false) (da:s.heap.DictOf knd a ka) (db:s.heap.DictOf knd b kb)
  (hits:ka.length=kb.length->bZ P W A s kb ka r) (h:Q (ka.length==kb.length&&r) s):wpAny (model P W) A (Builtin.Dict.samePairs nm a b) Q E s:=by
 obtain ⟨oa,ea,na,ga,_,qa,ha,pa,_⟩:=da
 obtain ⟨ob,eb,nb,gb,_,qb,hb,pb,_⟩:=db
 have za:ka.length=ea.size:=by rw [<-pa.length];exact Array.length_toList
 have zb:kb.length=eb.size:=by rw [<-pb.length];exact Array.length_toList
 have look:∀k,findBy knd.is eb k=valueAt kb k:=λk=>by
  rw [<-pb.find k]
  clear zb pb hb qb gb
  obtain ⟨l⟩:=eb
  simp [findBy]
 rw [za,zb] at h
 unfold Builtin.Dict.samePairs Builtin.Dict.showsAll
 rw [zC (by rw [la];decide),zC (by rw [lb];decide)]
 refine zq (zE (zq (zE (zq (wpAny_dictEntries ga qa ?_)))))
 dsimp only
 refine zq (wpAny_dictEntries gb qb ?_)
 by_cases hz:ea.size=eb.size
 ·have h':Q r s:=by simpa [hz] using h
  have hh:=hits (by rw [za,zb];exact hz)
  rw [zC (by rw [hz];simp)]
  refine zq (wpAny_dictEpoch ga qa (zq ?_))
  rw [Std.Legacy.Range.forIn_eq_forIn_range']
  simp only [Std.Legacy.Range.size,Nat.sub_zero,Nat.add_sub_cancel,Nat.div_one]
  refine wpAny_forIn_list _ (λrest q s'=>s'=s/\q=(none,())/\∃i,rest=List.range' i (ea.size-i)/\i<=ea.size/\bZ P W A s kb (ka.drop i) r) _ ?_ ?_ _ _ ⟨rfl,rfl,0,by simp,yX _,hh⟩
  ·rintro x rest q s' ⟨rfl,rfl,i,hr,hi,hp⟩
   have lt:i<ea.size:=by
    rcases Nat.lt_or_ge i ea.size with c|c
    ·exact c
    ·rw [Nat.sub_eq_zero_of_le c] at hr;simp at hr
   have e0:ea.size-i=(ea.size-(i+1))+1:=by omega
   rw [e0,List.range'_succ] at hr
   injection hr with hx gW
   subst hx
   refine zq (wpAny_dictEntries ga qa ?_)
   rw [Array.getElem?_eq_getElem lt]
   have lt':x<ka.length:=by rw [za];exact lt
   obtain ⟨k,v,fY⟩:∃k v,ka[x]=(k,v):=⟨_,_,rfl⟩
   have qd:ka.drop x=(k,v)::ka.drop (x+1):=by rw [<-fY];exact jc lt'
   obtain ⟨fA,ll⟩:=pa.get? (i:=x) (e:=ea[x]) (k:=k) (v:=v) (by rw [Array.getElem?_toList];exact Array.getElem?_eq_getElem lt) (by rw [zK lt',fY])
   obtain ⟨k',qe,hs⟩:=ha ea[x] (Array.getElem_mem lt)
   rw [knd.inj _ _ _ qe fA] at hs
   rw [qd] at hp
   show wpAny _ _ (holding [ea[x].key,ea[x].val] _ >>= _) _ _ _
   rw [hs]
   refine zq (jo (zq (wpAny_dictFind_of fA gb qb hb ?_)))
   cases hj:eb.findIdx? λe=>knd.is k e.key with
   | none =>
    have hn:valueAt kb k=none:=by rw [<-look k,findBy_of_findIdx?,hj]
    rcases hp.inv with ⟨_,er⟩|⟨y,_,_,hy,_⟩
    ·rw [er] at h'
     refine zE ?_
     show wpAny _ _ (if (!false)=true then _ else _) _ _ _
     rw [zw (by decide)]
     exact zE (zE h')
    ·rw [hn] at hy;exact nomatch hy
   | some j =>
    obtain ⟨jl,_,_⟩:=Array.findIdx?_eq_some_iff_getElem.mp hj
    have md:valueAt kb k=some eb[j].val:=by
     rw [<-look k,findBy_of_findIdx?,hj]
     simp [Array.getElem?_eq_getElem jl]
    refine zq (wpAny_dictEntries gb qb ?_)
    rw [Array.getElem?_eq_getElem jl]
    rcases hp.inv with ⟨hn,_⟩|⟨y,e,c,hy,he,ve,er⟩
    ·rw [md] at hn;exact nomatch hn
    ·have ey:eb[j].val=y:=Option.some.inj (md.symm.trans hy)
     rw [<-ey,<-ll] at he
     refine jo (he _ _ ?_)
     cases e with
     | false =>
      rw [er,Bool.false_and] at h'
      show wpAny _ _ (if (!false)=true then _ else _) _ _ _
      rw [zw (by decide)]
      exact zE (zE h')
     | true =>
      rw [Bool.true_and] at er
      rw [<-er] at ve
      show wpAny _ _ (if (!true)=true then _ else _) _ _ _
      rw [zC (by decide)]
      refine zq (wpAny_dictEpoch ga qa ?_)
      rw [zC (by simp)]
      exact zE ⟨rfl,rfl,x+1,gW,lt,ve⟩
  ·rintro q s' ⟨rfl,rfl,i,hr,hi,hp⟩
   have GZ:i=ea.size:=by
    rcases Nat.lt_or_ge i ea.size with c|c
    ·have e:ea.size-i=(ea.size-(i+1))+1:=by omega
     rw [e,List.range'_succ] at hr;exact nomatch hr
    ·omega
   refine zE ?_
   rw [GZ,<-za,List.drop_length] at hp
   cases hp
   exact h'
 ·rw [zw (by simpa using hz)]
  have hf:(ea.size==eb.size)=false:=by simpa using hz
  rw [hf,Bool.false_and] at h
  exact zq (wpAny_rule (zE h))
def bU.recs {a b:Addr}{ka kb:List (K×Value)}{r:Bool}(la:(a==sysModules)=false) (lb:(b==sysModules)=false) (da:s.heap.DictOf knd a ka) (db:s.heap.DictOf knd b kb) (hu:A.units<cLine)
  (hits:ka.length=kb.length->bZ P W A.in1 s kb ka r):bU P W A s (.ref a) (.ref b) (ka.length==kb.length&&r):=λE Q h=>by
 refine wpAny_richCompare_same_room (op:=.Eq) da.typeIs db.typeIs PySem.F.slot_dict_eq (j7 PySem.F.slot_dict_eq da.typeIs PySem.F.entry_dict_eq ?_ (PySem.F.args_dict_eq_2 _ _)) hu
 show wpAny _ _ (Builtin.Dict.dictSlotArgs "__eq__" ⟨[.ref a,.ref b],[]⟩ >>= _) _ _ s
 refine zq ?_
 unfold Builtin.Dict.dictSlotArgs
 refine zq (wpAny_notOrdered_dict da.typeIs ?_)
 show wpAny _ _ (pure (Value.ref a,Value.ref b)) _ _ s
 refine zE (zq (wpAny_isInstance (T := "dict") db.typeIs PySem.F.sub_dict_dict ?_))
 simp only [Bool.not_true,Bool.false_eq_true,if_false]
 refine zq (zE (zq (zE (zq (m6 la lb da db hits ?_)))))
 refine zE ⟨_,rfl,(λx=>nomatch x),?_⟩
 simpa using h
end
section
variable {P:Program}{W:World}
end
def dB:Option SO->Bool
 | some (.dic _ _)=>true
 | _=>false
def bx (st:ae):PV->Option Nat
 | .int _=>some 0
 | .str _=>some 1
 | .tup _=>some 2
 | .ref a=>if dB st[a]?=true then some 3 else none
 | _=>none
def d6 (f:PV->PV->Option Bool):Option SO->Option SO->Option Bool
 | some (.dic ks xs),some (.dic ks' bF)=>if ks.Nodup/\ks.length=xs.length then if ks.length=ks'.length then bL f ks' bF ks xs else some false else none
 | _,_=>none
def dc:Option Nat->Option Nat->Option Bool
 | some i,some j=>if i=j then none else some false
 | _,_=>none
def eqT (st:ae):Nat->PV->PV->Option Bool
 | 0,_,_=>none
 | n+1,x,y=>match x,y with
  | .int a,.int b=>some (a==b)
  | .str a,.str b=>some (a==b)
  | .tup xs,.tup ys=>c_ (eqT st n) xs ys
  | .ref a,.ref b=>d6 (eqT st n) st[a]? st[b]?
  | x,y=>dc (bx st x) (bx st y)
section
variable {X:Cx}{Er:XK}{K:Frag}{mg:Ab}{ρ:Ae}{pins:Ac}{U:L2.St}{H:Hp}{s:Shared}{st:ae}
inductive Kn (K:Frag) (mg:Ab) (ρ:Ae) (H:Hp) (st:ae):PV->V->Nat->Prop
 | num (i:Int):Kn K mg ρ H st (.int i) (.int i) 0
 | txt (z:Str):Kn K mg ρ H st (.str z) (.str z) 1
 | row {xs:An} {a:Addr} {vs:List V} (h:bt K H a vs) (r:Rs K mg ρ H xs vs):Kn K mg ρ H st (.tup xs) (.ref a) 2
 | rec_ {n:Nat} {a:Addr} {ks:Ad} {xs:An} {vs:List V} (e:st[n]?=some (.dic ks xs)) (ha:ρ[n]?=some a) (h:H a=some (.dK (kz ks vs))) (r:Rs K mg ρ H xs vs) (l:ks.length=vs.length):Kn K mg ρ H st (.ref n) (.ref a) 3
def Kn.of (S:aY K mg ρ H st) {x:PV}{v:V}{i:Nat}(r:R K mg ρ H x v) (h:bx st x=some i):Kn K mg ρ H st x v i:=by
 cases x with
 | int j=>cases h;cases r;exact .num j
 | str z=>cases h;cases r;exact .txt z
 | tup xs=>cases h;obtain ⟨a,vs,rfl,h1,h2⟩:=r;exact .row h1 h2
 | ref n =>
  simp only [bx] at h
  split at h
  ·rename_i hd
   cases h
   cases e:st[n]? with
   | none=>rw [e] at hd;cases hd
   | some so =>
    cases so with
    | dic ks xs =>
     obtain ⟨a,vs,rfl,ha,k1,k2,k3⟩:=R.refD S r e
     exact .rec_ e ha k1 k2 k3
    | lst _=>rw [e] at hd;cases hd
    | ins _ _ _=>rw [e] at hd;cases hd
    | fdi _ _=>rw [e] at hd;cases hd
    | dit _ _=>rw [e] at hd;cases hd
  ·cases h
 | _=>cases h
def G0 (I:Inv X pins U H s) {x y:PV}{v:V}{i j:Nat}(hx:Kn X.K mg ρ H st x v i) (hy:Kn X.K mg ρ H st y v j):i=j:=by
 cases hx with
 | num=>cases hy;rfl
 | txt=>cases hy;rfl
 | row h1 r1 =>
  cases hy with
  | row=>rfl
  | rec_ e ha h2 =>
   obtain ⟨_,_,kv,_,d⟩:=jg I.hok (.inl h2)
   obtain ⟨its,_,p,_⟩:=I.tuple h1
   exact absurd rfl (iY d p)
 | rec_ e ha h2 =>
  cases hy with
  | rec_=>rfl
  | row h1 r1 =>
   obtain ⟨_,_,kv,_,d⟩:=jg I.hok (.inl h2)
   obtain ⟨its,_,p,_⟩:=I.tuple h1
   exact absurd rfl (iY d p)
def G1 (I:Inv X pins U H s) {x y:PV}{v w:V}{u u':Value}{i j:Nat}{A:Around}(hx:Kn X.K mg ρ H st x v i) (hy:Kn X.K mg ρ H st y w j) (rv:RelV v u) (rw:RelV w u') (cO:i≠j) (hu:A.units<cLine):dm X.prog X.w A s u u' false/\bU X.prog X.w A s u u' false:=by
 cases hx with
 | num a =>
  obtain ⟨t,rfl⟩:=rv
  cases hy with
  | num=>exact absurd rfl cO
  | txt b=>obtain ⟨t',rfl⟩:=rw;exact ⟨λE Q q=>SeqAt.EqAt.int_str a t b t' _ _ E Q q,λE Q q=>SeqAt.RcAt.int_str a t b t' _ _ E Q q⟩
  | row h1 r1 =>
   cases rw
   obtain ⟨its,_,p,_⟩:=I.tuple h1
   exact ⟨λE Q q=>SeqAt.EqAt.int_tuple a t p hu _ _ E Q q,λE Q q=>SeqAt.RcAt.int_tuple a t p hu _ _ E Q q⟩
  | rec_ e ha h2 =>
   cases rw
   obtain ⟨_,_,kv,_,d⟩:=jg I.hok (.inl h2)
   exact ⟨.of_num (.num_rec d a t hu),.num_rec d a t hu⟩
 | txt a =>
  obtain ⟨t,rfl⟩:=rv
  cases hy with
  | txt=>exact absurd rfl cO
  | num b=>obtain ⟨t',rfl⟩:=rw;exact ⟨λE Q q=>SeqAt.EqAt.str_int a t b t' _ _ E Q q,λE Q q=>SeqAt.RcAt.str_int a t b t' _ _ E Q q⟩
  | row h1 r1 =>
   cases rw
   obtain ⟨its,_,p,_⟩:=I.tuple h1
   exact ⟨λE Q q=>SeqAt.EqAt.str_tuple a t p hu _ _ E Q q,λE Q q=>SeqAt.RcAt.str_tuple a t p hu _ _ E Q q⟩
  | rec_ e ha h2 =>
   cases rw
   obtain ⟨_,_,kv,_,d⟩:=jg I.hok (.inl h2)
   exact ⟨.of_txt (.txt_rec d a t hu),.txt_rec d a t hu⟩
 | row h0 r0 =>
  cases rv
  obtain ⟨its,_,p,_⟩:=I.tuple h0
  cases hy with
  | row=>exact absurd rfl cO
  | num b=>obtain ⟨t',rfl⟩:=rw;exact ⟨λE Q q=>SeqAt.EqAt.tuple_int b t' p hu _ _ E Q q,λE Q q=>SeqAt.RcAt.tuple_int b t' p hu _ _ E Q q⟩
  | txt b=>obtain ⟨t',rfl⟩:=rw;exact ⟨λE Q q=>SeqAt.EqAt.tuple_str b t' p hu _ _ E Q q,λE Q q=>SeqAt.RcAt.tuple_str b t' p hu _ _ E Q q⟩
  | rec_ e ha h2 =>
   cases rw
   obtain ⟨_,_,kv,_,d⟩:=jg I.hok (.inl h2)
   have ne:=iY d p
   exact ⟨.of_ref (λz=>ne (by injection z with z;exact z.symm)) (.row_rec d p hu),.row_rec d p hu⟩
 | rec_ e0 Ld h0 =>
  cases rv
  obtain ⟨_,_,kv,_,d⟩:=jg I.hok (.inl h0)
  cases hy with
  | rec_=>exact absurd rfl cO
  | num b=>obtain ⟨t',rfl⟩:=rw;exact ⟨.of_ref nofun (.rec_num d b t' hu),.rec_num d b t' hu⟩
  | txt b=>obtain ⟨t',rfl⟩:=rw;exact ⟨.of_ref nofun (.rec_txt d b t' hu),.rec_txt d b t' hu⟩
  | row h1 r1 =>
   cases rw
   obtain ⟨its,_,p,_⟩:=I.tuple h1
   have ne:=iY d p
   exact ⟨.of_ref (λz=>ne (by injection z)) (.rec_row d p hu),.rec_row d p hu⟩
def G3 {a b:Option Nat}{k:Bool}(h:dc a b=some k):∃i j,a=some i/\b=some j/\i≠j/\k=false:=by
 unfold dc at h
 split at h
 ·split at h
  ·cases h
  ·rename_i i j c;cases h;exact ⟨i,j,rfl,rfl,c,rfl⟩
 ·cases h
inductive iZ (st:ae) (f:PV->PV->Option Bool):PV->PV->Bool->Prop
 | num (a b:Int):iZ st f (.int a) (.int b) (a==b)
 | txt (a b:Str):iZ st f (.str a) (.str b) (a==b)
 | row {xs ys:An} {k:Bool} (h:c_ f xs ys=some k):iZ st f (.tup xs) (.tup ys) k
 | rec_ {a b:Nat} {k:Bool} (h:d6 f st[a]? st[b]?=some k):iZ st f (.ref a) (.ref b) k
 | apart {x y:PV} {i j:Nat} (hx:bx st x=some i) (hy:bx st y=some j) (h:i≠j):iZ st f x y false
def zfw {n:Nat}{x y:PV}{k:Bool}(h:eqT st (n+1) x y=some k):iZ st (eqT st n) x y k:=by
 unfold eqT at h
 split at h
 ·cases h;exact .num _ _
 ·cases h;exact .txt _ _
 ·exact .row h
 ·exact .rec_ h
 ·obtain ⟨i,j,h1,h2,h3,rfl⟩:=G3 h
  exact .apart h1 h2 h3
def vf {f:PV->PV->Option Bool}{a b:Option SO}{k:Bool}(h:d6 f a b=some k):∃ks xs ks' bF,a=some (.dic ks xs)/\b=some (.dic ks' bF)/\ks.Nodup/\ks.length=xs.length/\((ks.length=ks'.length/\bL f ks' bF ks xs=some k)\/(ks.length≠ks'.length/\k=false)):=by
 unfold d6 at h
 split at h
 ·rename_i ks xs ks' bF
  split at h
  ·rename_i c
   split at h
   ·rename_i c';exact ⟨_,_,_,_,rfl,rfl,c.1,c.2,.inl ⟨c',h⟩⟩
   ·rename_i c';cases h;exact ⟨_,_,_,_,rfl,rfl,c.1,c.2,.inr ⟨c',rfl⟩⟩
  ·cases h
 ·cases h
def vg (I:Inv X pins U H s) (S:aY X.K mg ρ H st):∀(n:Nat) (x y:PV) (v:V) (b:Bool),eqT st n x y=some b->R X.K mg ρ H x v->R X.K mg ρ H y v->b=true:=by
 intro n
 induction n with
 | zero=>intro x y v b h;cases h
 | succ n ih =>
  intro x y v b h rx ry
  cases zfw h with
  | num a c=>cases rx;cases ry;simp
  | txt a c=>cases rx;cases ry;simp
  | row h0 =>
   obtain ⟨a,vs,rfl,h1,h2⟩:=rx
   obtain ⟨a',ws,e,h3,h4⟩:=ry
   cases e
   have:=I.tuple_inj h1 h3
   subst this
   exact u7 (λx y v b=>ih x y v b) h0 h2 h4
  | @rec_ i j _ h0 =>
   obtain ⟨a,rfl,h1⟩:=rx
   obtain ⟨a',e,h2⟩:=ry
   cases e
   obtain rfl:=GR S.nd h1 h2
   obtain ⟨ks,xs,ks',bF,e1,e2,nd,hl,hc⟩:=vf h0
   rw [e1] at e2
   cases e2
   obtain ⟨vs,_,k2,_⟩:=S.addr e1 h1
   rcases hc with ⟨_,hc⟩|⟨hc,_⟩
   ·exact cu (λx v b e r=>ih x x v b e r r) (u9 nd) hc k2
   ·exact absurd rfl hc
  | apart hx hy cO=>exact absurd (G0 I (Kn.of S rx hx) (Kn.of S ry hy)) cO
def vh {A:Around}{f:PV->PV->Option Bool}(hf:∀x y v w u u' b,f x y=some b->R K mg ρ H x v->R K mg ρ H y w->RelV v u->RelV w u'->dm X.prog X.w A s u u' b) {ks':Ad}{bF:An}{ws:List V}{kb:List (Key×Value)}(r':Rs K mg ρ H bF ws) (qf:KV (kz ks' ws) kb) :
  ∀{ks:Ad} {xs:An} {vs:List V} {ka:List (Key×Value)} {b:Bool},ks.length=vs.length->Rs K mg ρ H xs vs->KV (kz ks vs) ka->bL f ks' bF ks xs=some b->bZ X.prog X.w A s kb ka b
 | [],xs,[],ka,b,_,_,kv,h=>by
  have:b=true:=by cases xs<;>(cases h;rfl)
  subst this
  cases kv
  exact .nil
 | [],xs,_::_,ka,b,hl,_,_,_=>by simp at hl
 | k::ks,xs,[],ka,b,hl,_,_,_=>by simp at hl
 | k::ks,xs,v::vs,ka,b,hl,r,kv,h=>by
  obtain ⟨u,Le,rfl,ru,G4⟩:=u_ kv
  cases xs with
  | nil=>cases r
  | cons x xs =>
   obtain ⟨v',Lf,e,r1,r2⟩:=r
   cases e
   simp only [bL] at h
   have hv:=qf.val (Sum.inr k)
   rw [kZ] at hv
   cases hl2:(ks'.zip bF).lookup k with
   | none =>
    rw [hl2] at h
    cases h
    rw [va r' hl2] at hv
    cases hu:valueAt kb (Sum.inr k) with
    | none=>exact .miss hu
    | some _=>rw [hu] at hv;exact (show False from hv).elim
   | some y =>
    rw [hl2] at h
    simp only at h
    cases h1:f x y with
    | none=>rw [h1] at h;cases h
    | some a =>
     cases h2:bL f ks' bF ks xs with
     | none=>rw [h1,h2] at h;cases h
     | some c =>
      rw [h1,h2] at h
      cases h
      obtain ⟨w,hw,cY⟩:=wB r' hl2
      rw [hw] at hv
      cases hu:valueAt kb (Sum.inr k) with
      | none=>rw [hu] at hv;exact (show False from hv).elim
      | some u' =>
       rw [hu] at hv
       exact .hit hu (hf x y v w u u' a h1 r1 cY ru hv) (vh hf r' qf (by simpa using hl) r2 G4 h2)
def G5 (I:Inv X pins U H s) (S:aY X.K mg ρ H st):∀(n:Nat) (x y:PV) (v w:V) (u u':Value) (b:Bool) (A:Around),eqT st n x y=some b->R X.K mg ρ H x v->R X.K mg ρ H y w->RelV v u->RelV w u'->A.units+n<cLine ->
  dm X.prog X.w A s u u' b/\bU X.prog X.w A s u u' b:=by
 intro n
 induction n with
 | zero=>intro x y v w u u' b A h;cases h
 | succ n ih =>
  intro x y v w u u' b A h rx ry rv rw hu
  cases zfw h with
  | num a c=>cases rx;cases ry;obtain ⟨t,rfl⟩:=rv;obtain ⟨t',rfl⟩:=rw;exact ⟨λE Q q=>SeqAt.EqAt.int_int a t c t' _ _ E Q q,λE Q q=>SeqAt.RcAt.int_int a t c t' _ _ E Q q⟩
  | txt a c=>cases rx;cases ry;obtain ⟨t,rfl⟩:=rv;obtain ⟨t',rfl⟩:=rw;exact ⟨λE Q q=>SeqAt.EqAt.str_str a t c t' _ _ E Q q,λE Q q=>SeqAt.RcAt.str_str a t c t' _ _ E Q q⟩
  | row h0 =>
   obtain ⟨a,vs,rfl,h1,h2⟩:=id rx
   obtain ⟨a',ws,rfl,h3,h4⟩:=id ry
   cases rv
   cases rw
   obtain ⟨its,r1,p1,_⟩:=I.tuple h1
   obtain ⟨aQ,r2,p2,_⟩:=I.tuple h3
   obtain ⟨e,he,hb⟩:=uZ h0
   have it:=GV (G:=dm X.prog X.w A.in1 s) (λx y v w u u' b e r1 r2 r3 r4=>(ih x y v w u u' b A.in1 e r1 r2 r3 r4 (by rw [mM];omega)).1) h2 h4 r1 r2 he
   have eb:((List.range (min its.toArray.size aQ.toArray.size)).all e&&its.toArray.size==aQ.toArray.size)=b:=by
    rw [h2.len,h4.len,r1.length,r2.length] at hb
    simpa using hb
   have rc:bU X.prog X.w A s (.ref a) (.ref a') b:=by
    rw [<-eb]
    exact bU.tuples (show s.heap.IsTuple a its.toArray from p1) (show s.heap.IsTuple a' aQ.toArray from p2) (by omega) it
   refine ⟨?_,rc⟩
   by_cases dk:a=a'
   ·subst dk
    rw [vg I S (n+1) _ _ _ _ h rx ry]
    exact λE Q q=>SeqAt.EqAt.same _ _ _ E Q q
   ·exact .of_refs dk rc
  | @rec_ i j _ h0 =>
   obtain ⟨a,rfl,h1⟩:=id rx
   obtain ⟨a',rfl,h2⟩:=id ry
   cases rv
   cases rw
   obtain ⟨ks,xs,ks',bF,e1,e2,nd,hl,hc⟩:=vf h0
   obtain ⟨vs,k1,k2,k3⟩:=S.addr e1 h1
   obtain ⟨ws,k4,k5,k6⟩:=S.addr e2 h2
   obtain ⟨_,s1,ka,vi,da⟩:=jg I.hok (.inl k1)
   obtain ⟨_,s2,kb,vj,db⟩:=jg I.hok (.inl k4)
   have la:ka.length=ks.length:=by rw [<-vi.length];simp [kz,k3]
   have lb:kb.length=ks'.length:=by rw [<-vj.length];simp [kz,k6]
   have both:bU X.prog X.w A s (.ref a) (.ref a') b:=by
    rcases hc with ⟨m7,hc⟩|⟨m7,rfl⟩
    ·have hits:ka.length=kb.length->bZ X.prog X.w A.in1 s kb ka b:=λ_=>vh (λx y v w u u' b e r1 r2 r3 r4=>(ih x y v w u u' b A.in1 e r1 r2 r3 r4 (by rw [mM];omega)).1) k5 vj k3 k2 vi hc
     have ky:(ka.length==kb.length&&b)=b:=by rw [la,lb,m7];simp
     rw [<-ky]
     exact bU.recs s1 s2 da db (by omega) hits
    ·have ky:(ka.length==kb.length&&true)=false:=by rw [la,lb];simpa using m7
     rw [<-ky]
     exact bU.recs s1 s2 da db (by omega) λz=>absurd (by rw [<-la,<-lb];exact z) m7
   refine ⟨?_,both⟩
   by_cases dk:a=a'
   ·subst dk
    rw [vg I S (n+1) _ _ _ _ h rx ry]
    exact λE Q q=>SeqAt.EqAt.same _ _ _ E Q q
   ·exact .of_refs dk both
  | apart hx hy cO=>exact G1 I (Kn.of S rx hx) (Kn.of S ry hy) rv rw cO (by omega)
def wg:Am:=λx y st=>match eqT st 150 x y with
 | some b=>.ok (.bl b) st
 | none=>.stuck
def G6 (K:Frag) (mg:Ab):R2:=λv w H Q=>∃ρ st x y b,aY K mg ρ H st/\eqT st 150 x y=some b/\R K mg ρ H x v/\R K mg ρ H y w/\Q (.bl b) H
def G7 (hu:X.A.units+200<cLine):bf X (compareOp .Eq) (G6 X.K X.mg):=by
 intro pins s U H x y v u Q I rx ry h
 obtain ⟨ρ,st,a,b,k,S,e,ra,rb,q⟩:=h
 exact (G5 I S 150 a b x y v u k X.A e ra rb rx ry (by omega)).2 _ _ ⟨.bl k,H,I,rfl,q⟩
def zfA (hu:X.A.units+200<cLine):bK X .Eq wg:=⟨_,G7 hu,fun ρ H st x y v w Q E s rx ry h=>by
 unfold wg at h
 cases e:eqT st 150 x y with
 | none=>rw [e] at h;exact h.elim
 | some b=>rw [e] at h;exact ⟨ρ,st,x,y,b,s,e,rx,ry,h.now s _ rfl⟩⟩
end
section
variable {X:Cx}{Er:XK}{K:Frag}{mg:Ab}{ρ:Ae}{pins:Ac}{U:L2.St}{H:Hp}{s:Shared}{st:ae}{o:Expr}{fo:Ai}{apos aW p0 Kp:Pos}
open Classical in
noncomputable def Kq (K:Frag) (mg:Ab) (ρ:Ae) (H:Hp) (st:ae) (ys:An) (x:PV) (u:Value):Bool:=decide (∃y v,y∈ys/\R K mg ρ H y v/\RelV v u/\eqT st 150 y x=some true)
open Classical in
end
end Mi
namespace L2
open PySem PySem.Spec PyProof.Rows
def G8 (iy:Nat) (wi:TI) (te:TE):TS:=λD U H=>wi U H λJ H1=>gK J te U (λv H2=>D.nx (U.set iy (some v)) H2) H1
def G9 {X:Cx} {elt iter:Expr} {x y:Str} {px pos pos' cA:Pos} {scope:Scope} {wi:TI} {te:TE} {M:Ad} {iy:Nat} (hc:X.calm=true) (S:cf X.env.scope scope x) (eN:Hid scope M X.N) (bH:((".0" : Str)::x::M).Nodup)
  (hi:PI X (.Name x px) iter wi) (he:∀cl C aa ag fp,PE (gj X M scope cl x C aa ag fp (λ_ _=>False)) elt te) (fZ:X.N.Nodup) (f6:X.N[iy]?=some y) (hy:Loc X.env.scope y) (f7:X.fn y=true\/X.env.scope.names.lookup y=some .local)
  (f9:swapsWith (.ListComp elt [⟨.Name x px,iter,[],0⟩] scope pos) (some (.Name y pos')) cA.line X.env=pure true) (hs:∀v,foldedSetIterable iter X.env v=pure v:=by intro _;rfl):PS X (.Assign [.Name y pos'] (.ListComp elt [⟨.Name x px,iter,[],0⟩] scope pos) cA) (G8 iy wi te):=by
 intro pins s U H Dn I h
 have hN:(x::M).Nodup:=(ja.mp bH).2
 have kC:(".0" : Str)∉M:=λz=>(ja.mp bH).1 (y9 _ z)
 obtain ⟨cl,eP,bq,d0⟩:=oO X.env scope λp hp hf=>I.ok.has p.1 (.inl (S.free p hp hf))
 have eR:X.env.scope.kind=.function:=I.ok.kind
 rw [exec_Assign_Name_used _ _ _ _ f9]
 refine zq (wpAny_standAt ?_)
 rw [arm_evalThenUse_ListComp]
 refine zq (zq (wpAny_comprehension_free (Q:=λ_ s'=>wpAny (model X.prog X.w) X.A (pure ():Sem Unit) (λ_ s'=>wpAny (model X.prog X.w) X.A (pure .next:Sem Flow) (SP X pins Dn) X.xe s') X.xe s') (use:=some (assign (.Name y pos') X.env)) rfl hs eP S.kind (λy hy hl=>(S.names y hy hl).1) ?_))
 refine aS (hi pins s U H _ I h) λv s1 h1=>aS h1 λki aa h2=>?_
 obtain ⟨it,fp,tn,J,H2,e,I2,T,aA,f2,W,⟨m0,w0⟩,turn⟩:=h2
 subst e
 refine wt (wpAny_newFunctionEnv S.ncell (by intro y hy;simp at hy) (λau ay aw=>?_) S.kind)
 dsimp only at ay aw ⊢
 generalize hH2:aa.heap.push { cls:=.type "list", dict:=none,data:=.seq ([]:Af).toArray }=G2 at ay aw ⊢
 have hC:G2.objs.size=aa.heap.objs.size+1:=by rw [<-hH2,Heap.size_push]
 have di:aa.heap.objs.size≠G2.objs.size:=by rw [hC];exact yt (jq _)
 have n4:aa.heap.objs.size<=G2.objs.size:=by rw [hC];exact Nat.le_succ _
 have old:∀b o,aa.heap.get? b=some o->au.get? b=some o:=λb o e=>by
  have hb:b≠G2.objs.size:=by rw [hC];exact yt (Nat.lt_succ_of_lt (zY e))
  exact aw.extBut b o hb (z7 _ (hH2▸z7 _ e))
 have cy:au.get? aa.heap.objs.size=some { cls:=.type "list", data:=.seq (#[]:Array Value) 0 }:=aw.extBut _ _ di (z7 _ (hH2▸yR _ rfl))
 generalize hD:aa.heap.objs.size=D at *
 generalize hCC:G2.objs.size=C at *
 have bY:∀{b:Nat} {o:Obj},aa.heap.get? b=some o->b<D:=λe=>by rw [<-hD];exact zY e
 have nofr:∀b,D<=b->b∉b_ X.stack:=λb hb z=>by
  rcases yv.mp (I2.stkSub b z) with q|q
  ·exact oJ I2.lt hD hb q
  ·exact I2.nofs (by rw [hD];exact hb) q
 let E':Aa:=notedBy (model X.prog X.w) X.A (compEnvC scope cl C X.env) λe s'=>compPost (model X.prog X.w) X.A X.xe (some (assign (.Name y pos') X.env)) (λ_ s'=>wpAny (model X.prog X.w) X.A (pure ():Sem Unit) (λ_ s'=>wpAny (model X.prog X.w) X.A (pure .next:Sem Flow) (SP X pins Dn) X.xe s') X.xe s') (.ref D) C (.error e) s'
 let Y:Cx:=gj X M scope cl x C aa H2 fp E'
 have bI:∀b∈fp,b0 X pins H2 b:=f2
 have eS:Y.Ok:=by
  refine ⟨I2.ok.mod,S.kind,I2.ok.glob,I2.ok.blt,(by show aa.heap.objs.size<=C;omega),λy z c h1 h2=>?_,λy hy=>?_,λy c hf=>?_,I2.ok.hd,I2.ok.frames,.inl rfl,λb hb=>?_,I2.bs,yM I2.ok.bsz I2.sz,λb o hb hx=>?_,λb hb hx=>?_,I2.stack,I2.stkFree⟩
  ·exact I2.ok.inj y z c (bq y c h1) (bq z c h2)
  ·exact d0 y (oQ S eR hy)
  ·cases hf
  ·refine ⟨λz=>?_,λy c hy=>(bI b hb).2.2.2.2.1 y c (bq y c hy)⟩
   obtain ⟨o,ho,_⟩:=T.obj 0 _ aA b hb
   exact jN (bY ho) hC z
  ·rcases (bI b hx).2.2.2.1 with z|z
   ·exact I2.ok.noex b o hb z
   ·exact oK (zY hb) I2.ok.bsz z
  ·rcases yv.mp (I2.stkSub b hx) with q|q
   ·exact (bI b hb).2.1 q
   ·exact (bI b hb).2.2.1 q
 have cE:∀{s':Shared} {H':Hp} {o:Obj},s'.heap.get? D=some o->H' D=none->(∀v,o.data ≠ .cell v)->∀p∈[(D,o)],s'.heap.get? p.1=some p.2/\H' p.1=none/\p.1≠Y.env.locals/\p.1∉Y.fs/\∀v,p.2.data ≠ .cell v:=λ{s' H' o} e1 e2 e3 p hp=>by
  have ep:p=(D,o):=by simpa using hp
  subst ep
  exact ⟨e1,e2,di,nofr D (zI _),e3⟩
 have I0:Inv Y [(D,{ cls:=.type "list", data:=.seq (#[]:Array Value) 0 })] (none::U) H2 { aa with heap:=au,toks:=aa.toks+([]:List (Str×Value)).length }:=by
  have fresh:∀b,D<=b->H2 b=none:=λb hb=>I2.hok.fresh (by rw [hD];exact hb)
  refine ⟨eS,rfl,I2.bare,Un.kept old,⟨_,ay,λi y v e1 e2 e3=>?_⟩,λy c hy=>?_,fresh C (by omega),λy c hy=>I2.freeC y c (bq y c hy),λp hp=>cE cy (fresh D (zI _)) (λv z=>by cases z) p hp,I2.hok.kept old,?_⟩
  ·cases i with
   | zero=>simp at e2
   | succ i =>
    have gk:M[i]?=some y:=by simpa [Y,gj] using e1
    have kD:X.N[i]?=some y:=by
     rcases eN.get gk with q|q
     ·exact q
     ·refine absurd ?_ q
      rcases e3 with e3|e3|e3<;>(obtain ⟨k0,hm,_⟩:=wa e3;exact jw.mpr ⟨_,hm,rfl⟩)
    have kE:U[i]?=some (some v):=by simpa using e2
    have eU:¬(y=x\/y = ".0"):=λz=>by
     have hm:=jY gk
     rcases z with z|z
     ·rw [z] at hm
      exact (ja.mp hN).1 hm
     ·rw [z] at hm
      exact kC hm
    have cZ:(y,NameKind.free)∈scope.names:=by
     rcases e3 with e3|e3|e3
     ·exact absurd (sL S e3) eU
     ·exact oQ S eR (.inl e3)
     ·exact oQ S eR (.inr e3)
    have gm:X.env.scope.names.lookup y=some .cell:=S.free _ cZ rfl
    obtain ⟨m,hn,hl⟩:=I2.loc
    obtain ⟨u,r,l⟩:=hl i y v kD kE (.inr (.inl gm))
    refine ⟨u,r,?_⟩
    rcases l with ⟨hk,_⟩|⟨_,c,gf,cX⟩
    ·have:X.env.kindOf y=some .cell:=gm
     rw [this] at hk;cases hk
    ·obtain ⟨c',cC⟩:=d0 y cZ
     have:=bq y c' cC
     rw [gf] at this
     cases this
     refine .inr ⟨?_,c,cC,?_⟩
     ·rcases e3 with e3|e3|e3
      ·exact absurd (sL S e3) eU
      ·exact .inl e3
      ·exact .inr e3
     ·obtain ⟨o,ho,hd⟩:=cX
      exact ⟨o,old c o ho,hd⟩
  ·obtain ⟨v,o,ho,hd⟩:=I2.cell y c (bq y c hy)
   exact ⟨v,o,old c o ho,hd⟩
  ·show (none::U).length=(x::M).length
   simp [I2.len,eN.1]
 have eV:∀{pl:Ac} {H':Hp},(∀p∈pl,p.1=D)->(∀b∈fp,H' b=none)->∀b∈fp,b0 Y pl H' b:=λ{pl H'} bu hn b hb=>by
  obtain ⟨o,ho,_⟩:=T.obj 0 _ aA b hb
  refine ⟨hn b hb,λz=>?_,?_,.inl hb,(eS.exf b hb).2,λp hp z=>?_⟩
  ·exact jN (bY ho) hC z
  ·exact eS.exfs b hb
  ·have hp':p∈pl:=by simpa [Y,gj] using hp
   exact oM (bY ho) (bu p hp') z
 have loop:codeAny (model X.prog X.w) X.A (.compLoop (.ListComp elt [⟨.Name x px,iter,[],0⟩] scope pos) 0 (.ref it) (.ref D) (compEnvC scope cl C X.env))
   (compPost (model X.prog X.w) X.A X.xe (some (assign (.Name y pos') X.env)) (λ_ s'=>wpAny (model X.prog X.w) X.A (pure ():Sem Unit) (λ_ s'=>wpAny (model X.prog X.w) X.A (pure .next:Sem Flow) (SP X pins Dn) X.xe s') X.xe s') (.ref D) C) { aa with heap:=au,toks:=aa.toks+([]:List (Str×Value)).length }:=by
  refine Dq (λn s'=>∃i ys H' its k,Inv Y [(D,{ cls:=.type "list", data:=.seq (its:Af).toArray k })] (none::U) H' s'/\Vals ys its/\tn i s'.heap/\(∀b∈fp,H' b=none)/\W i n ys H') ?_ m0
   ⟨0,[],H2,[],0,I0,.nil,T.keep 0 _ _ aA (λb hb o e=>old b o e),λb hb=>(bI b hb).1,w0⟩
  rintro n s3 ⟨i,ys,H3,its,k,I3,rv,a4,eG,w3⟩
  have c3:∀{o:Obj},∀p∈[(D,o)],p.1=D:=λ{o} p hp=>by
   have ep:p=(D,o):=by simpa using hp
   rw [ep]
  obtain ⟨gD,nD,_,_,_⟩:=I3.pin (D,_) (yb _ yL)
  rcases turn i n ys H3 w3 with ⟨stop,hz,q⟩|⟨go,hz,step⟩
  ·refine aS (T.done Y rfl rfl rfl hc i _ s3 _ H3 E' I3 (eV c3 eG) a4 stop) λr s4 ⟨hr,I4⟩=>?_
   subst hr
   obtain ⟨kF,eW,_,_,_⟩:=I4.pin (D,_) (yb _ yL)
   obtain ⟨m4,kG,_⟩:=id I4.loc
   have fin:∀h',Heap.SameBut C s4.heap h'->Inv X pins U (upd H3 D (.lst ys)) { s4 with heap:=h' }:=λh' bD=>by
    have dW:∀{b:Addr} {u:HO},H3 b=some u->b≠C:=λe z=>by
     have:H3 C=none:=I4.free
     rw [z,this] at e;cases e
    refine I2.call' (s':={ s4 with heap:=h' }) (ch:=fp) (H':=upd H3 D (.lst ys)) I4.os ?_ ?_ I4.bare λb hb=>⟨(bI b hb).2.2.2.1,(bI b hb).2.1,(bI b hb).2.2.2.2.1,(bI b hb).2.2.2.2.2⟩
    ·have B:=I4.base
     have eX:∀{b:Nat} {o:Obj},aa.heap.get? b=some o->b≠C:=λe z=>jN (bY e) hC z
     have eY:∀{b:Addr} {u:HO},H3 b=some u->b≠D:=λe z=>by rw [z,eW] at e;cases e
     refine ⟨λb o e nn hb hx=>(bD.2 b (eX e)).trans (B.keep b o e nn hb hx),λb o e nn hb hx=>?_,λb o e nn hx=>?_,λb o e hx=>?_,λb xs e=>?_,λb o u e=>?_,λb ps e=>?_⟩
     ·obtain ⟨sl,z⟩:=B.slot b o e nn hb hx
      exact ⟨sl,(bD.2 b (eX e)).trans z⟩
     ·have kH:b≠D:=yt (bY e)
      rw [zF kH]
      exact B.free b o e nn hx
     ·obtain ⟨o',z⟩:=B.there b o e hx
      exact ⟨o',(bD.2 b (eX e)).trans z⟩
     ·have z:=B.tups b xs e
      rw [zF (eY z)];exact z
     ·have z:=B.frzs b o u e
      rw [zF (eY z)];exact z
     ·obtain ⟨more,z⟩:=B.tbls b ps e
      exact ⟨more,by rw [zF (eY z)];exact z⟩
    ·intro a o e
     by_cases ha:a=D
     ·subst ha
      rw [yx] at e
      cases e
      exact ⟨hz,its,k,rv,(bD.2 _ di).trans kF⟩
     ·rw [zF ha] at e
      have cz:∀b u,H3 b=some u->(upd H3 D (.lst ys)) b=some u:=λb u z=>by
       have hb:b≠D:=λw=>by rw [w,eW] at z;cases z
       rw [zF hb];exact z
      refine (I4.hok a o e).stay (λb u hb z=>(bD.2 b ?_).trans z) (λb z=>cz b _ z) λb xs z=>cz b _ z
      rcases hb with hb|hb
      ·rw [hb];exact dW e
      ·exact dW hb
   have qg:C≠D:=λz=>di z.symm
   have IX:=fin s4.heap ⟨rfl,λ_ _=>rfl⟩
   obtain ⟨oC,eC,pC,gC,rC⟩:=id kG
   have lq:upd H3 D (.lst ys) C=none:=by rw [zF qg];exact I4.free
   have gZ:∀b o,aa.heap.get? b=some o->b≠C:=λb o e z=>jN (bY e) hC z
   have lr:C≠X.env.locals:=λz=>by
    obtain ⟨m2,dg,_⟩:=id I2.loc
    obtain ⟨o2,_,_,g2,_⟩:=dg
    exact gZ _ _ g2 z.symm
   have qh:C∉X.fs:=I2.nofs (by rw [hD];omega)
   have IP:Inv X (pins++[(C,oC)]) U (upd H3 D (.lst ys)) s4:=IX.pins_of λp hp=>by
    rcases j1.mp hp with hp|hp
    ·exact IX.pin p (yb _ hp)
    ·have ep:p=(C,oC):=by simpa using hp
     subst ep
     exact ⟨gC,lq,lr,qh,λv z=>by rw [rC.1] at z;cases z⟩
   show wpAny _ _ (assign (.Name y pos') X.env (.ref D)) _ _ s4
   have bV:wpAny (model X.prog X.w) X.A (assign (.Name y pos') X.env (.ref D)) (λ_ s5=>Inv X (pins++[(C,oC)]) (U.set iy (some (.ref D))) (upd H3 D (.lst ys)) s5) X.xe s4:=wpAny_assign_Name (lX IP fZ f6 hy (v:=.ref D) rfl (λs5 I5=>I5) f7)
   refine aS bV λ_ s5 I5=>?_
   have g5:=(I5.pin (C,oC) (yb _ (yb _ yL))).1
   refine ⟨m4,⟨oC,eC,pC,g5,rC⟩,λG_ bD=>zE (zE ⟨_,_,?_,q D eW⟩)⟩
   exact (I5.pins_of (pins':=pins) λp hp=>I5.pin p (yb _ (jI _ hp))).turned (it:=C) (t':=s5.toks) (λb o hb e=>(bD.2 b hb).trans e) lq lr
    (.inr (by have:=I2.sz;rw [hD] at this;omega)) (λa c ha z=>by
     obtain ⟨v',o',ho',_⟩:=I2.cell a c ha
     exact gZ _ _ ho' z) (λp hp=>gZ _ _ (I2.pin p hp).1)
  ·refine aS (T.item Y rfl rfl rfl hc i _ s3 _ H3 E' I3 (eV c3 eG) a4 go) λr s4 ⟨u,hr,h4⟩=>?_
   subst hr
   refine aS h4 λ_ s5 ⟨z,H5,I5,r5,y5,cM,gG⟩=>?_
   have gH:=I5.pinned (eV c3 gG) (T.obj _ _ cM)
   have eZ:PG Y (.Name x px) (j8 0):=wN (X:=Y) hN rfl (.inl (wv S.hx)) (.inr (wv S.hx))
   have kI:PE Y elt te:=PE.nox (X:=Y) (he cl C aa H2 fp)
   refine aS (eZ _ s5 (none::U) H5 z u (λah H'=>ah=some z::U/\H'=H5) gH r5 ⟨rfl,rfl⟩) λ_ s6 ⟨aE,H6,I6,e1,e2⟩=>?_
   subst e1 e2
   refine aS (kI _ s6 _ _ _ I6 (step z _ y5)) λuy s7 ⟨y,H7,I7,ry,m',hm,w7⟩=>?_
   obtain ⟨fO,d8,_,_,_⟩:=I7.pin (D,_) (yb _ (jI _ yL))
   refine wpAny_list_append_plain ⟨k,fO⟩ (λh' bu bD=>?_) (by rw [yr,<-rv.length];exact hz)
   obtain ⟨k',gn⟩:=bu
   have I8:Inv Y [] (some z::U) H7 { s7 with heap:=h' }:=(I7.pins_of (pins':=[]) (λp hp=>nomatch hp)).turned (it:=D) (t':=s7.toks) (λb o hb e=>(bD.2 b hb).trans e) d8 di
    (.inr (by show aa.heap.objs.size<=D;omega)) (λa c hy gM=>by
     obtain ⟨v',o',ho',_⟩:=I2.cell a c (bq a c hy)
     exact yt (bY ho') gM) (λp hp=>by simp [Y,gj] at hp)
   have I9:Inv Y [] (none::U) H7 { s7 with heap:=h' }:=I8.weak (by simp) λj v e=>by
    cases j with
    | zero=>simp at e
    | succ j=>simpa using e
   have bJ:∀b∈fp,∃o,s5.heap.get? b=some o/\s7.heap.get? b=some o/\H7 b=none:=λb hb=>by
    obtain ⟨o,e,_⟩:=T.obj _ _ cM b hb
    have q:=I7.pin (b,o) (yb _ (yb _ (wO hb e)))
    exact ⟨o,e,q.1,q.2.1⟩
   have kJ:∀b∈fp,b≠D:=λb hb=>by
    obtain ⟨o,ho,_⟩:=T.obj 0 _ aA b hb
    exact yt (bY ho)
   have eT:its.toArray.push uy=(its++[uy]).toArray:=by simp
   rw [eT] at gn
   refine ⟨m',hm,i+1,ys++[y],H7,its++[uy],k',I9.pins_of (cE gn d8 λv e=>by cases e),rv.append (.cons ry .nil),T.keep (i+1) _ _ cM λb hb o e=>?_,λb hb=>?_,w7⟩
   ·obtain ⟨o',e1,e2,_⟩:=bJ b hb
    rw [e] at e1
    cases e1
    exact (bD.2 b (kJ b hb)).trans e2
   ·obtain ⟨_,_,_,q⟩:=bJ b hb
    exact q
 exact codeAny_compStart_list loop (T.self X.A 0 _ _ _ (T.keep 0 _ _ aA (λb hb o e=>old b o e)) loop)
end L2
namespace Mi
open PySem L2 PySem.W PySem.Spec
section
variable {X:Cx}{Er:XK}{pos:Pos}
def vk (X:Cx) (Er:XK) (src:zc->Mo Sq):TI:=λU H R=>∃env st ρ,a7 X.K X.mg ρ H env U/\aY X.K X.mg ρ H st/\Out X.K X.mg ρ H (src env st) (λai H' q aU=>∀J,Walk X.K X.mg J ai H' q->R J H') Er
def Ha {src:zc->Mo Sq}{fe:Ai}(U:L2.St) (H:Hp) (Q:VK) (hh:tM X.K X.mg Er (jE src fe) U H Q):oR (vk X Er src) (tM X.K X.mg XN fe) U H Q:=by
 obtain ⟨env,st,ρ,re,rs,h⟩:=hh
 refine ⟨env,st,ρ,re,rs,h.then λaq H0 q dA e0 s0 h0 J wk=>?_⟩
 cases q with
 | im xs =>
  obtain ⟨hl,h0⟩:=Out.ifp h0
  obtain ⟨w1,w2,w3⟩:=wk
  refine ⟨λi m ys H=>m=xs.length-i/\i<=xs.length/\ys.length=i/\∃ps st ρ,Rs X.K X.mg ρ H ps ys/\aY X.K X.mg ρ H st/\Ext aq H0 ρ H/\Out X.K X.mg ρ H (cQ fe env (xs.drop i) ps st) (gV X.K X.mg Q) Er,⟨xs.length,by simp,yX _,rfl,[],dA,aq,rfl,s0,Ext.refl,h0⟩,?_⟩
  rintro i m ys H ⟨rfl,hi,hy,ps,st,ρ,cv,rs,ex,h⟩
  by_cases a6:i<xs.length
  ·refine .inr ⟨w1 i ρ H ex a6,yJ (by omega),λv H' y=>?_⟩
   obtain ⟨x,hx,cF,s2,rx⟩:=w3 i ρ H st v H' ex rs a6 y
   have hd:xs.drop i=x::xs.drop (i+1):=by
    rw [jc a6]
    have:=(yf.mp hx).2
    rw [this]
   rw [hd] at h
   simp only [cQ] at h
   refine ⟨some x::env,st,ρ,(re.ext (e0.trans (ex.trans cF))).cons rx,s2,wC (Out.ext h cF) λak H3 y a4 e3 s3 h3 v ry=>⟨xs.length-(i+1),by omega,rfl,a6,by simp [hy],ps++[y],a4,ak,Rs.snoc ry (Rs.ext (cF.trans e3) ps cv),s3,(ex.trans cF).trans e3,h3⟩⟩
  ·have e:i=xs.length:=by omega
   subst e
   rw [List.drop_length] at h
   exact .inl ⟨w2 _ ρ H ex (zI _),yJ (by omega),λl hl=>Out.newList h rs cv hl⟩
 | rf n =>
  obtain ⟨a,ha,rfl⟩:=wk
  refine ⟨λi m ys H=>m+i=lim+1/\ys.length=i/\∃ps st ρ,Rs X.K X.mg ρ H ps ys/\aY X.K X.mg ρ H st/\Ext aq H0 ρ H/\ρ[n]?=some a/\Out X.K X.mg ρ H (cG fe env n m i ps st) (gV X.K X.mg Q) Er,⟨lim+1,rfl,rfl,[],dA,aq,rfl,s0,Ext.refl,ha,h0⟩,?_⟩
  rintro i m ys H ⟨hm,hy,ps,st,ρ,cv,rs,ex,ha,h⟩
  cases m with
  | zero=>exact h.elim
  | succ m =>
   obtain ⟨xs,hn,h⟩:=yO h
   obtain ⟨vs,hH,hR⟩:=rs.addr hn ha
   cases hx:xs[i]? with
   | none =>
    simp only [hx] at h
    have:vs.length<=i:=by rw [<-hR.len];exact iE.mp hx
    exact .inl ⟨⟨vs,a3.of hH,this⟩,yJ (by omega),λl hl=>Out.newList h rs cv hl⟩
   | some x =>
    simp only [hx] at h
    obtain ⟨v,hv,rv⟩:=hR.get hx
    refine .inr ⟨⟨vs,v,a3.of hH,hv⟩,yJ (by omega),λv' H' y=>?_⟩
    obtain ⟨e1,y⟩:=y
    subst e1
    have e2:=y vs (a3.of hH)
    rw [hv] at e2
    cases e2
    exact ⟨some x::env,st,ρ,(re.ext (e0.trans ex)).cons rv,rs,wC h λak H3 y a4 e3 s3 h3 v ry=>⟨m,jq m,by omega,by simp [hy],ps++[y],a4,ak,Rs.snoc ry (Rs.ext e3 ps cv),s3,ex.trans e3,e3.get ha,h3⟩⟩
def Hb (i:Nat) {elt iter:Expr} {x y:Str} {px pos' cA:Pos} {scope:Scope} {src:zc->Mo Sq} {fe:Ai} {M:Ad} (hc:X.calm=true) (S:cf X.env.scope scope x) (eN:Hid scope M X.N) (bH:((".0" : Str)::x::M).Nodup)
  (hi:MI X Er (.Name x px) iter src) (he:∀cl C aa ag fp,ME (gj X M scope cl x C aa ag fp (λ_ _=>False)) XN elt fe) (fZ:X.N.Nodup) (f6:X.N[i]?=some y) (hy:Loc X.env.scope y) (f7:X.fn y=true\/X.env.scope.names.lookup y=some .local)
  (f9:swapsWith (.ListComp elt [⟨.Name x px,iter,[],0⟩] scope pos) (some (.Name y pos')) cA.line X.env=pure true) (hs:∀v,foldedSetIterable iter X.env v=pure v:=by intro _;rfl) :
  MS X Er (.Assign [.Name y pos'] (.ListComp elt [⟨.Name x px,iter,[],0⟩] scope pos) cA) (zZ i (jE src fe)) :=
 PS.weak (G9 (te:=tM X.K X.mg XN fe) hc S eN bH hi (λcl C aa ag fp=>he cl C aa ag fp) fZ f6 hy f7 f9 hs) λD U H ⟨env,st,ρ,re,rs,h⟩=>by
  refine Ha (X:=X) (Er:=Er) (src:=src) (fe:=fe) U H (λv H2=>D.nx (U.set i (some v)) H2) ⟨env,st,ρ,re,rs,h.then λaf H1 x ao e1 s1 h1 v rv=>?_⟩
  exact h1.now s1 (U.set i (some v)) ((re.ext e1).set i rv)
end
end Mi
namespace L2
open PySem PySem.Spec PyProof.Rows PySem.W
section
variable {X:Cx}{pins:Ac}{U:St}{H:Hp}{s:Shared}{a:Addr}{kvs:List (Key×V)}{o:Obj}
def Inv.freeze (I:Inv X pins U H s) (ha:H a=some (.dK kvs)) (ho:s.heap.get? a=some o):Inv X pins U (upd H a (.frz o (.dK kvs))) s:=by
 have mu:iG (H a):=by rw [ha];trivial
 have d:=I.hok a _ ha
 exact I.un (h':=s.heap) (t':=s.toks) (Un.write (e:=a) mu (.inl rfl) (λb u _ q=>q) ⟨o,ho⟩) (bA.write (e:=a) I.hok mu (.inl rfl) (λb u _ q=>q) ⟨o,ho⟩ ⟨ho,d⟩)
def Inv.young (I:Inv X pins U H s) (ha:H a=some (.dK kvs)):∀o u,X.H₀ a≠some (.frz o u):=λo u e=>by
 have:=I.base.frzs a o u e
 rw [ha] at this
 cases this
def Inv.thaw (I:Inv X pins U H s) (ha:H a=some (.frz o (.dK kvs))) (hy:∀o u,X.H₀ a≠some (.frz o u)):Inv X pins U (upd H a (.dK kvs)) s:=by
 have ne:∀b,H b=none->b≠a:=λb n z=>by rw [z,ha] at n;cases n
 have no:∀b u,H b=some u->(∀o k,u ≠ .frz o k)->b≠a:=λb u e n z=>by rw [z,ha] at e;cases e;exact n _ _ rfl
 refine ⟨I.ok,I.os,I.bare,⟨I.base.keep,I.base.slot,λb o e n hx=>?_,I.base.there,λb xs e=>?_,λb o u e=>?_,λb ps e=>?_⟩,I.loc,I.cell,?_,λx c e=>?_,λp hp=>?_,λb u e=>?_,I.len⟩
 ·have:=I.base.free b o e n hx
  rw [zF (ne b this)];exact this
 ·have:=I.base.tups b xs e
  rw [zF (no b _ this λ_ _=>nofun)];exact this
 ·have:=I.base.frzs b o u e
  rw [zF (λz=>hy o u (by rw [<-z];exact e))];exact this
 ·obtain ⟨m,this⟩:=I.base.tbls b ps e
  exact ⟨m,by rw [zF (no b _ this λ_ _=>nofun)];exact this⟩
 ·rw [zF (ne _ I.free)];exact I.free
 ·rw [zF (ne _ (I.freeC x c e))];exact I.freeC x c e
 ·obtain ⟨h1,h2,h3⟩:=I.pin p hp
  exact ⟨h1,by rw [zF (ne _ h2)];exact h2,h3⟩
 ·by_cases hb:b=a
  ·subst hb
   rw [yx] at e
   cases e
   exact (I.hok b _ ha).2
  ·rw [zF hb] at e
   exact (I.hok b u e).stay (λc v _ q=>q) (λc q=>by rw [zF (no c _ q λ_ _=>nofun)];exact q) λc xs q=>by rw [zF (no c _ q λ_ _=>nofun)];exact q
end
def vm (a:Addr) (o:Obj) (kvs:List (Key×V)):It :=
 ⟨λi H=>H a=some (.frz o (.dK kvs))/\i<kvs.length,λi H x H'=>H'=H/\∃kv,kvs[i]?=some kv/\x=kV kv.1,λi H=>H a=some (.frz o (.dK kvs))/\kvs.length<=i⟩
def Hc {k:Key}{u:Value}(h:cK k u=true):RelV (kV k) u:=by
 rcases jy h with ⟨i,t,rfl,rfl⟩|⟨y,t,rfl,rfl⟩
 ·exact ⟨t,rfl⟩
 ·exact ⟨t,rfl⟩
def vn {X:Cx}{pins:Ac}{U:St}{H:Hp}{s:Shared}{a:Addr}{o:Obj}{kvs:List (Key×V)}{es:Array DictEntry}{ep:Nat}(I:Inv X pins U H s) (ha:H a=some (.frz o (.dK kvs))) (hd:o.data=.dict es ep) :
  ∃vs,KV kvs vs/\s.heap.DictAt (a0 X.prog X.w) a vs ep:=by
 obtain ⟨ho,_,_,vs,r,o',lV,lW,e1,e2,e3,e4⟩:=I.hok a _ ha
 rw [ho] at e1
 cases e1
 rw [hd] at e3
 cases e3
 exact ⟨vs,r,o,es,ho,e2,hd,e4⟩
def Hd {P:Program}{w:World}{K:PySem.W.Frag}{tg:Expr}{a it:Addr}{o:Obj}{kvs:List (Key×V)}{es:Array DictEntry}{ep:Nat}(hd:o.data=.dict es ep):Turn P w K tg (vm a o kvs) [it] it (λi h=>h.IsKeyIter it a i kvs.length ep) where
 mem:=by simp
 obj:=λi h st b hb=>by
  have e:b=it:=by simpa using hb
  subst e
  obtain ⟨o,e,c,d⟩:=st
  exact ⟨o,e,λv z=>by rw [d] at z;cases z⟩
 keep:=λi h h' st k=>st.at λo e=>k it (by simp) o e
 item:=by
  intro X hP hw hK hc i pins s U H E I hf st hg
  subst hP hw hK
  obtain ⟨ha,hi⟩:=hg
  obtain ⟨vs,r,fW⟩:=vn I ha hd
  have hl:=r.length
  have hv:vs[i]?=some (vs[i]'(by omega)):=zK (by omega)
  have fY:kvs[i]?=some kvs[i]:=zK hi
  have hk:kvs[i].1=(vs[i]'(by omega)).1:=by
   have:=congrArg (λl:List Key=>l[i]?) r.keys
   simp only [jp,hv,fY,Option.map_some] at this
   exact Option.some.inj this
  obtain ⟨f0,f1,f2,f3,f4,f5⟩:=hf it (by simp)
  rw [hl] at st
  refine wpAny_pyNext_dict_item st fW (k:=(vs[i]'(by omega)).1) (v:=(vs[i]'(by omega)).2) hv λkey h' fA aU sb=>?_
  have I1:Inv X pins U H { s with heap:=h' }:=I.turned (t':=s.toks) (λb o hb e=>(sb.2 b hb).trans e) f0 f1 f3 f4 f5
  obtain ⟨o',e,c,d⟩:=id aU
  refine ⟨key,rfl,kj (s:={ s with heap:=h' }) e c d (by decide) ⟨kV kvs[i].1,H,I1,?_,⟨rfl,_,fY,rfl⟩,by rw [<-hl] at aU;exact aU,λb hb=>(hf b hb).1⟩⟩
  rw [hk]
  exact Hc fA
 done:=by
  intro X hP hw hK hc i pins s U H E I hf st hg
  subst hP hw hK
  obtain ⟨ha,hi⟩:=hg
  obtain ⟨vs,r,fW⟩:=vn I ha hd
  have hl:=r.length
  obtain ⟨f0,f1,f2,f3,f4,f5⟩:=hf it (by simp)
  rw [hl] at st
  exact wpAny_pyNext_dict_end (I.ok.hd hc) st fW (iE.mpr (by omega)) λh' eb=>⟨rfl,I.turned (t':=s.toks) (λb o hb e=>eb b o hb e) f0 f1 f3 f4 f5⟩
 self:=λ_ _ _ _ _ st h=>wpAny_pyIter_keyiter st h
def He (X:Cx) (tl:TE):TI:=λU H R=>tl U H λx H1=>∃a kvs,x=.ref a/\H1 a=some (.dK kvs)/\∀o,kvs.length<=sizeLine->(∀o u,X.H₀ a≠some (.frz o u))->R (vm a o kvs) (upd H1 a (.frz o (.dK kvs)))
def vo {X:Cx}{l tg:Expr}{tl:TE}(hl:PE X l tl):PI X tg l (He X tl):=by
 intro pins s U H R I h
 refine aS (hl pins s U H _ I h) λv s1 ⟨x,H1,I1,r1,a,kvs,e,ha,q⟩=>?_
 subst e
 cases r1
 obtain ⟨hz,lo,vs,r,o,es,ep,ho,hx,hd,hr⟩:=I1.hok a _ ha
 have I2:=I1.freeze ha ho
 have fr:∀b,s1.heap.objs.size<=b->(upd H1 a (.frz o (.dK kvs))) b=none:=λb hb=>I2.hok.fresh hb
 refine wpAny_pyIter_dict lo (show s1.heap.DictAt (a0 X.prog X.w) a vs ep from ⟨o,es,ho,hx,hd,hr⟩) ?_
 refine ⟨s1.heap.objs.size,[s1.heap.objs.size],_,_,_,rfl,I2.kept (t':=s1.toks) (λb o e=>z7 _ e),Hd hd,?_,λb hb=>?_,q o hz (I1.young ha)⟩
 ·rw [r.length]
  exact ⟨_,yR _ rfl,rfl,rfl⟩
 ·have e:b=s1.heap.objs.size:=by simpa using hb
  subst e
  exact I2.fpOk (zI _) (fr _ (zI _))
def n9 (X:Cx) (H:Hp) (G:Hp->Prop):Prop:=∃a o kvs,H a=some (.frz o (.dK kvs))/\(∀o u,X.H₀ a≠some (.frz o u))/\G (upd H a (.dK kvs))
def Hf {X:Cx}{st:Stmt}{t:TS}(h:PS X st t):PS X st (λD U H=>t ⟨λah H'=>n9 X H' (D.nx ah),λ_ _=>False,λ_ _=>False,λ_ _=>False⟩ U H):=by
 intro pins s U H D I q
 refine aS (h pins s U H _ I q) λf s1 q1=>?_
 cases f with
 | next =>
  obtain ⟨ah,H',I',a,o,kvs,ha,hy,q'⟩:=q1
  exact ⟨ah,_,I'.thaw ha hy,q'⟩
 | brk=>obtain ⟨_,_,_,q'⟩:=q1;exact q'.elim
 | cont=>obtain ⟨_,_,_,q'⟩:=q1;exact q'.elim
 | ret u=>obtain ⟨_,_,_,_,_,q'⟩:=q1;exact q'.elim
def Hg {X:Cx}{e:Expr}{t:TE}(h:PE X e t):PE X e (λU H Q=>t U H λv H'=>n9 X H' (Q v)):=by
 intro pins s U H Q I q
 refine aS (h pins s U H _ I q) λu s1 ⟨v,H',I',r,a,o,kvs,ha,hy,q'⟩=>?_
 exact ⟨v,_,I'.thaw ha hy,r,q'⟩
end L2
namespace Mi
open PySem L2 PySem.W PySem.Spec
section
variable {K:Frag}{mg:Ab}{ρ:Ae}{H:Hp}{a:Addr}{o:Obj}{kvs:List (Key×V)}{u:HO}
def lx (ha:H a=some (.frz o (.dK kvs))) {b:Addr}{w:HO}(h:H b=some w) (n:∀o k,w ≠ .frz o (.dK k)):upd H a u b=some w:=by
 rw [zF]
 ·exact h
 ·intro z;subst z;rw [ha] at h;cases h;exact n _ _ rfl
def vp (ha:H a=some (.frz o (.dK kvs))) {p:Addr}{xs:List V}(h:bt K H p xs):bt K (upd H a u) p xs:=by
 rcases h with (h|⟨o,h⟩)|h
 ·exact .inl (.inl (lx ha h (λ_ _=>nofun)))
 ·exact .inl (.inr ⟨o,lx ha h (λ_ _=>nofun)⟩)
 ·exact .inr h
def Hh (ha:H a=some (.frz o (.dK kvs))) {p:Addr}{xs:List V}(h:fR K H p xs):fR K (upd H a u) p xs:=by
 rcases h with ⟨o,h⟩|h
 ·exact .inl ⟨o,lx ha h (λ_ _=>nofun)⟩
 ·exact .inr h
mutual
def R.th (ha:H a=some (.frz o (.dK kvs))):∀(x:PV) {v:V},R K mg ρ H x v->R K mg ρ (upd H a u) x v
 | .non,_,h=>h
 | .bl _,_,h=>h
 | .int _,_,h=>h
 | .str _,_,h=>h
 | .ty _,_,h=>h
 | .tup xs,_,h=>by
  obtain ⟨a,vs,h1,h2,h3⟩:=h
  exact ⟨a,vs,h1,vp ha h2,Rs.th ha xs h3⟩
 | .frl xs,_,h=>by
  obtain ⟨a,vs,h1,h2,h3⟩:=h
  exact ⟨a,vs,h1,Hh ha h2,Rs.th ha xs h3⟩
 | .ref n,_,h=>h
 | .fn _,_,h=>h
 | .kd ks xs,_,h=>by
  obtain ⟨a,us,vs,h1,h2,h4,h3⟩:=h
  exact ⟨a,us,vs,h1,h2,h4,Rs.th ha xs h3⟩
 | .exo c ks xs,_,h=>by
  obtain ⟨a,C,d,vs,h1,h2,h3,h4,h5,h6⟩:=h
  exact ⟨a,C,d,vs,h1,h2,lx ha h3 (λ_ _=>nofun),lx ha h4 (λ_ _=>nofun),Rs.th ha xs h5,h6⟩
def Rs.th (ha:H a=some (.frz o (.dK kvs))):∀(xs:An) {vs:List V},Rs K mg ρ H xs vs->Rs K mg ρ (upd H a u) xs vs
 | [],_,h=>h
 | x::xs,_,h=>by
  obtain ⟨v,r,h1,h2,h3⟩:=h
  exact ⟨v,r,h1,R.th ha x h2,Rs.th ha xs h3⟩
end
def a7.th (ha:H a=some (.frz o (.dK kvs))) {env:zc}{U:L2.St}(h:a7 K mg ρ H env U):a7 K mg ρ (upd H a u) env U :=
 ⟨h.len,λi x hx=>let ⟨v,p,q⟩:=h.at_ i x hx;⟨v,p,R.th ha x q⟩⟩
def Hi (ha:H a=some (.frz o (.dK kvs))) {so:SO}{b:Addr}(ne:b≠a) (h:d9 K mg ρ H so b):d9 K mg ρ (upd H a u) so b:=by
 cases so with
 | lst xs=>obtain ⟨vs,h1,h2⟩:=h;exact ⟨vs,by rw [zF ne];exact h1,Rs.th ha xs h2⟩
 | dic ks xs=>obtain ⟨vs,h1,h2,h3⟩:=h;exact ⟨vs,by rw [zF ne];exact h1,Rs.th ha xs h2,h3⟩
 | ins c ks xs=>obtain ⟨C,dx,vs,h0,h1,h2,h3⟩:=h;exact ⟨C,dx,vs,h0,by rw [zF ne];exact h1,Rs.th ha xs h2,h3⟩
 | fdi ks xs=>obtain ⟨o,vs,h1,h2,h3⟩:=h;exact ⟨o,vs,by rw [zF ne];exact h1,Rs.th ha xs h2,h3⟩
 | dit ks xs=>obtain ⟨its,vs,h1,h2,h3,h4,h5⟩:=h;exact ⟨its,vs,by rw [zF ne];exact h1,h2,λx hx=>vp ha (h3 x hx),h4,Rs.th ha xs h5⟩
def aY.thaw {st:ae}{n:Nat}{ks:Ad}{xs:An}(s:aY K mg ρ H st) (hn:ρ[n]?=some a) (ha:H a=some (.frz o (.dK kvs))) (hs:st[n]?=some (.fdi ks xs)):aY K mg ρ (upd H a (.dK kvs)) (st.set n (.dic ks xs)):=by
 refine ⟨by simp [s.len],s.nd,λi iM e=>?_⟩
 rw [List.getElem?_set] at e
 by_cases cO:n=i
 ·subst cO
  rw [zw rfl] at e
  split at e
  ·cases e
   obtain ⟨o',vs,h1,h2,h3⟩:=s.addr hs hn
   rw [ha] at h1
   cases h1
   exact ⟨a,hn,vs,yx,Rs.th ha xs h2,h3⟩
  ·cases e
 ·rw [zC cO] at e
  obtain ⟨b,hb,q⟩:=s.at_ i iM e
  have ne:b≠a:=by
   intro z
   subst z
   obtain ⟨h1,h2⟩:=yf.mp hn
   obtain ⟨h3,h4⟩:=yf.mp hb
   have pw:=List.pairwise_iff_getElem.mp s.nd
   rcases Nat.lt_trichotomy n i with c|c|c
   ·exact pw n i h1 h3 c (h2.trans h4.symm)
   ·exact cO c
   ·exact pw i n h3 h1 c (h4.trans h2.symm)
  exact ⟨b,hb,Hi ha ne q⟩
def Ext.thawed {ai:Ae}{H':Hp}{w:HO}(ha:H a=some (.dK kvs)) (e:Ext ρ (upd H a (.frz o (.dK kvs))) ai H'):Ext ρ H ai (upd H' a w) :=
 ⟨e.pre,λb x h m=>by
  have ne:b≠a:=by intro z;subst z;rw [ha] at h;cases h;cases m
  rw [zF ne]
  exact e.imm b x (by rw [zF ne];exact h) m⟩
end
section
variable {X:Cx}{Er:XK}{pos:Pos}{o:Expr}{cL:List Stmt}{gb:Aj}{fo:Ai}{fs:Ah}
def w4 {α:Type}(v:PV) (st:ae) (f:Nat->List Str->List PV->Res α):Res α:=match v with
 | .ref n=>yY st n λks xs=>f n ks xs
 | _=>.stuck
def de {α:Type}(n:Nat) (st:ae) (f:ae->Res α):Res α:=match st[n]? with
 | some (.fdi ks xs)=>f (st.set n (.dic ks xs))
 | _=>.stuck
def vq {α:Type}{K:Frag}{mg:Ab}{ρ:Ae}{H:Hp}{st:ae}{v:PV}{k:Nat->List Str->List PV->Res α}{good:List Addr->Hp->α->ae->Prop}(h:Out K mg ρ H (w4 v st k) good Er):∃n ks xs,v=.ref n/\st[n]?=some (.dic ks xs)/\Out K mg ρ H (k n ks xs) good Er:=by
 unfold w4 at h
 split at h
 ·rename_i n
  obtain ⟨ks,xs,e,h⟩:=pj h
  exact ⟨n,ks,xs,rfl,e,h⟩
 ·exact h.elim
def vt {α:Type}{K:Frag}{mg:Ab}{ρ:Ae}{H:Hp}{st:ae}{n:Nat}{k:ae->Res α}{good:List Addr->Hp->α->ae->Prop}(h:Out K mg ρ H (de n st k) good Er):∃ks xs,st[n]?=some (.fdi ks xs)/\Out K mg ρ H (k (st.set n (.dic ks xs))) good Er:=by
 unfold de at h
 split at h
 ·rename_i ks xs e;exact ⟨ks,xs,e,h⟩
 ·exact h.elim
def vv {α β:Type}{K:Frag}{mg:Ab}{ρ:Ae}{H:Hp}{r:Res β}{f:β->Mo α}{good:List Addr->Hp->α->ae->Prop}(h:Out K mg ρ H ((bw r).bind f) good Er):∃x st,r=.ok x st/\Out K mg ρ H (f x st) good Er:=by
 cases r with
 | ok x st=>exact ⟨x,st,rfl,h⟩
 | err=>exact h.elim
 | stuck=>exact h.elim
def vw {α β:Type}{r:Res β}{f:β->Mo α}{x:α}{st:ae}(h:(bw r).bind f=.ok x st):∃y ao,r=.ok y ao/\f y ao=.ok x st:=by
 cases r with
 | ok y ao=>exact ⟨y,ao,rfl,h⟩
 | err=>cases h
 | stuck=>cases h
def dQ (g:PV->zc->Option zc) (body:Aj):List PV->zc->Mo zc
 | [],env,st=>.ok env st
 | x::xs,env,st=>match g x env with
  | none=>.stuck
  | some bh=>(bw (body bh st)).bind λfl aA=>match fl with
   | .nx e=>dQ g body xs e aA
   | .ct e=>dQ g body xs e aA
   | _=>.stuck
def m8 (fo:Ai) (g:PV->zc->Option zc) (body:Aj):Aj:=λenv st=>(fo env st).bind λv ao=>w4 v ao λn ks xs =>
 (bw (dQ g body (ks.map PV.str) env (ao.set n (.fdi ks xs)))).bind λe aA=>de n aA λa4=>.ok (.nx e) a4
def vx {ks:Ad}{vs:List V}{i:Nat}{kv:Key×V}(h:(kz ks vs)[i]?=some kv):∃k,ks[i]?=some k/\kV kv.1=.str k:=by
 unfold kz at h
 rw [List.getElem?_zip_eq_some] at h
 obtain ⟨h1,_⟩:=h
 rw [jp] at h1
 cases hk:ks[i]? with
 | none=>rw [hk] at h1;cases h1
 | some k =>
  rw [hk] at h1
  have:kv.1=Sum.inr k:=(Option.some.inj h1).symm
  exact ⟨k,rfl,by rw [this];rfl⟩
def zmx {tg:Expr}{gt:PV->zc->Option zc}(hp:PassesOwn (model X.prog X.w) X.A X.env X.xe) (hc:X.calm=true) (ho:ME X Er o fo) (hg:MG X Er tg gt) (hb:dz X Er cL gb)
  (hs:∀v,foldedSetIterable o X.env v=pure v:=by intro _;rfl):MS X Er (.For tg o cL [] pos) (m8 fo gt gb) :=
 PS.weak (Hf (oq hp hc (vo ho) hg hb hs)) λD U H ⟨env,st,ρ,re,rs,h⟩=>⟨env,st,ρ,re,rs,h.then λaq H0 x dA e0 s0 h0 v rv=>by
  obtain ⟨n,ks,xs,rfl,hn,h0⟩:=vq h0
  obtain ⟨a,vs,rfl,ha,k1,k2,k3⟩:=R.refD s0 rv hn
  refine ⟨a,kz ks vs,rfl,k1,λob hz hy=>?_⟩
  obtain ⟨e',aU,hr,h0⟩:=vv h0
  obtain ⟨ks',bF,ht,h0⟩:=vt h0
  have ew:Ext aq H0 aq (upd H0 a (.frz ob (.dK (kz ks vs)))):=Ext.write k1 rfl
  have hl:(kz ks vs).length=ks.length:=by simp [kz,k3]
  refine ⟨λi m U H=>m=ks.length-i/\i<=ks.length/\∃env st ρ,a7 X.K X.mg ρ H env U/\aY X.K X.mg ρ H st/\Ext aq (upd H0 a (.frz ob (.dK (kz ks vs)))) ρ H/\dQ gt gb ((ks.map PV.str).drop i) env st=.ok e' aU,
   ⟨ks.length,by simp,yX _,env,_,aq,(re.ext e0).ext ew,s0.write (so:=.fdi ks xs) ha ew ⟨ob,vs,yx,Rs.ext ew _ k2,k3⟩,Ext.refl,hr⟩,?_⟩
  rintro i m U H ⟨rfl,hi,env,st,ρ,re,rs,ex,h⟩
  have hf:H a=some (.frz ob (.dK (kz ks vs))):=ex.imm a _ yx rfl
  have qi:=ex.get ha
  by_cases a6:i<ks.length
  ·refine .inr ⟨⟨hf,by rw [hl];exact a6⟩,_,λah H' p'=>⟨ks.length-(i+1),by omega,rfl,a6,p'⟩,λv H' y=>?_⟩
   obtain ⟨rfl,kv,fY,rfl⟩:=y
   obtain ⟨k,hk,ev⟩:=vx fY
   have hd:(ks.map PV.str).drop i=.str k::(ks.map PV.str).drop (i+1):=by
    rw [jc (by simpa using a6)]
    have:=(yf.mp hk).2
    simp [this]
   rw [hd] at h
   simp only [dQ] at h
   cases hgx:gt (.str k) env with
   | none=>simp only [hgx] at h;cases h
   | some bh =>
    simp only [hgx] at h
    obtain ⟨fl,aA,qj,h⟩:=vw h
    refine ⟨.str k,env,bh,ρ,ev,re,hgx,λav r1=>⟨bh,st,ρ,r1,rs,?_⟩⟩
    rw [qj]
    intro ak H3 e3 s3
    cases fl with
    | nx e=>exact λaB r4=>⟨e,aA,ak,r4,s3,ex.trans e3,h⟩
    | ct e=>exact λaB r4=>⟨e,aA,ak,r4,s3,ex.trans e3,h⟩
    | bk e=>cases h
    | rt v=>cases h
  ·have e:i=ks.length:=by omega
   subst e
   rw [ww (by simp)] at h
   cases h
   exact .inl ⟨⟨hf,by rw [hl];exact zI _⟩,a,ob,_,hf,hy,h0 ρ _ (Ext.thawed k1 ex) (aY.thaw rs qi hf ht) U (re.th hf)⟩⟩
def dC (fe:Ai) (env:zc):List PV->List PV->Mo (An)
 | [],ys,st=>.ok ys st
 | x::xs,ys,st=>(bw (fe (some x::env) st)).bind λy ao=>dC fe env xs (ys++[y]) ao
def ly (fo:Ai) (fe:Ai):Ai:=λenv st=>(fo env st).bind λv ao=>w4 v ao λn ks xs =>
 (bw (dC fe env (ks.map PV.str) [] (ao.set n (.fdi ks xs)))).bind λys aA=>de n (aA++[.lst ys]) λa4=>.ok (.ref aA.length) a4
def Hj {elt:Expr} {x:Str} {px:Pos} {scope:Scope} {fe:Ai} {N:Ad} (hc:X.calm=true) (S:cf X.env.scope scope x) (eN:X.N=N) (bH:((".0" : Str)::x::N).Nodup)
  (ho:ME X Er o fo) (he:∀cl C aa ag fp,ME (oP X scope cl x C aa ag fp (λ_ _=>False)) XN elt fe)
  (hs:∀v,foldedSetIterable o X.env v=pure v:=by intro _;rfl):ME X Er (.ListComp elt [⟨.Name x px,o,[],0⟩] scope pos) (ly fo fe) :=
 PE.weak (Hg (Ds (te:=tM X.K X.mg XN fe) hc S eN bH (vo ho) (λcl C aa ag fp=>he cl C aa ag fp) hs)) λU H Q ⟨env,st,ρ,re,rs,h⟩=>⟨env,st,ρ,re,rs,h.then λaq H0 x dA e0 s0 h0 v rv=>by
  obtain ⟨n,ks,xs,rfl,hn,h0⟩:=vq h0
  obtain ⟨a,vs,rfl,ha,k1,k2,k3⟩:=R.refD s0 rv hn
  refine ⟨a,kz ks vs,rfl,k1,λob hz hy=>?_⟩
  obtain ⟨dD,aU,hr,h0⟩:=vv h0
  obtain ⟨ks',bF,ht,h0⟩:=vt h0
  have ew:Ext aq H0 aq (upd H0 a (.frz ob (.dK (kz ks vs)))):=Ext.write k1 rfl
  have hl:(kz ks vs).length=ks.length:=by simp [kz,k3]
  rw [hl] at hz
  refine ⟨λi m ys H=>m=ks.length-i/\i<=ks.length/\ys.length=i/\∃ps st ρ,Rs X.K X.mg ρ H ps ys/\aY X.K X.mg ρ H st/\Ext aq (upd H0 a (.frz ob (.dK (kz ks vs)))) ρ H/\dC fe env ((ks.map PV.str).drop i) ps st=.ok dD aU,
   ⟨ks.length,by simp,yX _,rfl,[],_,aq,rfl,s0.write (so:=.fdi ks xs) ha ew ⟨ob,vs,yx,Rs.ext ew _ k2,k3⟩,Ext.refl,hr⟩,?_⟩
  rintro i m ys H ⟨rfl,hi,Hk,ps,st,ρ,cv,rs,ex,h⟩
  have hf:H a=some (.frz ob (.dK (kz ks vs))):=ex.imm a _ yx rfl
  have qi:=ex.get ha
  by_cases a6:i<ks.length
  ·refine .inr ⟨⟨hf,by rw [hl];exact a6⟩,by omega,λv H' y=>?_⟩
   obtain ⟨rfl,kv,fY,rfl⟩:=y
   obtain ⟨k,hk,ev⟩:=vx fY
   have hd:(ks.map PV.str).drop i=.str k::(ks.map PV.str).drop (i+1):=by
    rw [jc (by simpa using a6)]
    have:=(yf.mp hk).2
    simp [this]
   rw [hd] at h
   simp only [dC] at h
   obtain ⟨y,aA,qj,h⟩:=vw h
   refine ⟨some (.str k)::env,st,ρ,(re.ext (e0.trans (ew.trans ex))).cons ev,rs,?_⟩
   rw [qj]
   exact λak H3 e3 s3 w cY=>⟨ks.length-(i+1),by omega,rfl,a6,by simp [Hk],ps++[y],aA,ak,Rs.snoc cY (Rs.ext e3 ps cv),s3,ex.trans e3,h⟩
  ·have e:i=ks.length:=by omega
   subst e
   rw [ww (by simp)] at h
   cases h
   refine .inl ⟨⟨hf,by rw [hl];exact zI _⟩,by omega,λl fG=>?_⟩
   have ne:a≠l:=jL hf fG
   have mV:upd H l (.lst ys) a=some (.frz ob (.dK (kz ks vs))):=by rw [zF ne];exact hf
   have ep:Ext ρ H (ρ++[l]) (upd H l (.lst ys)):=Ext.push fG
   have s1:aY X.K X.mg (ρ++[l]) (upd H l (.lst ys)) (aU++[.lst dD]):=rs.push fG ⟨ys,yx,Rs.ext ep _ cv⟩
   exact ⟨a,ob,_,mV,hy,h0 (ρ++[l]) _ (Ext.thawed k1 (ex.trans ep)) (aY.thaw s1 (ep.get qi) mV ht) _ ⟨l,rfl,by rw [<-rs.len];simp⟩⟩⟩
def zV:Am:=λx y st=>match x with
 | .ref n=>match st[n]? with
  | some (.fdi ks xs)=>match y with
   | .str z=>br ((ks.zip xs).lookup z) st
   | _=>.stuck
  | _=>zB x y st
 | _=>zB x y st
def y7 (hu:X.A.units+200<cLine):iu X zV:=by
 obtain ⟨r,h1,h2⟩:=ye (X:=X) hu
 refine ⟨_,h1.or (uE (by omega)),fun ρ H st x y v w Q E s rx ry h=>?_⟩
 by_cases hx:∃n ks xs,x=.ref n/\st[n]?=some (.fdi ks xs)
 ·obtain ⟨n,ks,xs,rfl,e⟩:=hx
  simp only [zV,e] at h
  cases y with
  | str z =>
   obtain ⟨q,hq,h⟩:=wc h
   obtain ⟨a,rfl,ha⟩:=rx
   obtain ⟨ob,vs,k1,k2,_⟩:=s.addr e ha
   cases ry
   obtain ⟨v,hv,rv⟩:=wB k2 hq
   refine .inr ⟨a,v,rfl,.inl ⟨_,Sum.inr z,.inr ⟨ob,k1⟩,rfl,?_⟩,h.now s _ rv⟩
   rw [<-hv]
   exact kZ.symm
  | _=>exact h.elim
 ·refine .inl (h2 ρ H st x y v w Q E s rx ry ?_)
  have:zV x y st=zB x y st:=by
   unfold zV
   split
   ·rename_i n
    split
    ·rename_i ks xs e;exact absurd ⟨n,ks,xs,rfl,e⟩ hx
    ·rfl
   ·rfl
  rw [this] at h
  exact h
end
end Mi
namespace L2
open PySem PySem.Spec PyProof.Rows PySem.W
end L2
namespace Mi
open PySem L2 PySem.W PySem.Spec
section
variable {X:Cx}{Er:XK}{K:Frag}{mg:Ab}{pos p apos aW:Pos}{o e f:Expr}{fo fk fx:Ai}
def cg:List PV->Option (List Bool)
 | []=>some []
 | .bl b::r=>(cg r).map (b::·)
 | _::_=>none
def vy {ρ:Ae}{H:Hp}:∀{xs:An}{bs:List Bool}{vs:List V},cg xs=some bs->Rs K mg ρ H xs vs->vs=bs.map V.bl
 | [],bs,vs,e,h=>by cases e;cases h;rfl
 | .bl i::r,bs,vs,e,h=>by
  simp only [cg,Option.map_eq_some_iff] at e
  obtain ⟨ir,e1,rfl⟩:=e
  obtain ⟨v,r',rfl,h1,h2⟩:=h
  cases h1
  rw [vy e1 h2]
  rfl
 | .non::_,_,_,e,_=>by cases e
 | .int _::_,_,_,e,_=>by cases e
 | .str _::_,_,_,e,_=>by cases e
 | .ty _::_,_,_,e,_=>by cases e
 | .tup _::_,_,_,e,_=>by cases e
 | .frl _::_,_,_,e,_=>by cases e
 | .ref _::_,_,_,e,_=>by cases e
 | .fn _::_,_,_,e,_=>by cases e
 | .kd _ _::_,_,_,e,_=>by cases e
 | .exo _ _ _::_,_,_,e,_=>by cases e
def cB:∀bs:List Bool,cg (bs.map PV.bl)=some bs
 | []=>rfl
 | b::bs=>by simp [cg,cB bs]
inductive lz (X:Cx) (Er:XK):List (Option Expr)->List Expr->List ((Ai)×(Ai))->Prop
 | nil:lz X Er [] [] []
 | cons {k v:Expr} {fk fv:Ai} {ks:List (Option Expr)} {vs:List Expr} {fs:List ((Ai)×(Ai))} (hk:ME X Er k fk) (hv:ME X Er v fv) (hr:lz X Er ks vs fs):lz X Er (some k::ks) (v::vs) ((fk,fv)::fs)
def lz.len {ks:List (Option Expr)}{vs:List Expr}{fs:List ((Ai)×(Ai))}(h:lz X Er ks vs fs):ks.length=vs.length/\ks.length=fs.length/\ks.all (·.isSome)=true:=by
 induction h with
 | nil=>exact ⟨rfl,rfl,rfl⟩
 | cons hk hv hr ih=>exact ⟨by simp [ih.1],by simp [ih.2.1],by simpa using ih.2.2⟩
def Hl {z:Str}{ks:Ad}{xs:An}{vs:List V}(hl:xs.length=vs.length) (hk:ks.length=vs.length) (h:(ks.zip xs).lookup z=none):(ks.zip vs).lookup z=none:=by
 refine mQ λhz=>?_
 obtain ⟨i,hi⟩:=List.getElem?_of_mem hz
 have fG:i<xs.length:=by rw [hl,<-hk];exact (yf.mp hi).1
 have:=List.lookup_eq_none_iff.mp h (z,xs[i]) (List.mem_iff_getElem?.mpr ⟨i,by simp [List.getElem?_zip_eq_some,hi,fG]⟩)
 simp at this
end
section
variable {K:Frag}{mg:Ab}{h:Heap}
def g0 (ks:Ad) (e:DictEntry):Bool:=match e.key with
 | .str x _=>ks.contains x
 | _=>false
def Hm {ks:Ad}{e:DictEntry}(h:g0 ks e=true):∃x∈ks,∃t,e.key=.str x t:=by
 unfold g0 at h
 split at h
 ·rename_i x t ek;exact ⟨x,by simpa using h,t,ek⟩
 ·cases h
def zmB {w:World} {name:Str} {O:Addr} {es:Array DictEntry} {n:Nat} {ks:Ad} {qs:An} (X:K.In h) (G:h.Ns mainGlobals mg) (aO:nsIn K mainGlobals name=some (some (.ref O))) (lO:K.lookup O=some ⟨.type "dict", none,.dict es n,#[]⟩) (hk:KeysLit w.params es.toList) (no:(O==sysModules)=false)
  (hl:ks.length=qs.length) (m9:es.toList.all (g0 ks)=true)
  (hi:∀p∈ks.zip qs,∃u v,nsIn K O p.1=some (some u)/\RelV v u/\∀ρ H,R K mg ρ H p.2 v):∀Y:Cx,Y.K=K->Y.mg=mg->Y.w=w->KdF Y name ks qs true:=λY e1 e2 e3=>by
 have m9:∀e∈es.toList,∃x∈ks,∃t,e.key=.str x t:=λe he=>Hm (List.all_eq_true.mp m9 e he)
 refine ⟨O,by rw [e2];exact mg_of X G aO,⟨⟨es,n,by rw [e1];exact lO,by rw [e3];exact hk⟩,no⟩,λz q hz=>?_,λ_ z hz=>?_⟩
 ·rw [e1,e2]
  exact hi _ (uw hz)
 ·have hn:z∉ks:=λgM=>by
   obtain ⟨i,hi⟩:=List.getElem?_of_mem gM
   have fG:i<qs.length:=by rw [<-hl];exact (yf.mp hi).1
   have:=List.lookup_eq_none_iff.mp hz (z,qs[i]) (List.mem_iff_getElem?.mpr ⟨i,by simp [List.getElem?_zip_eq_some,hi,fG]⟩)
   simp at this
  rw [e1]
  unfold nsIn
  rw [lO]
  dsimp only
  have f1:es.toList.find? (·.key.isStr z)=none:=by
   rw [List.find?_eq_none]
   intro e he
   obtain ⟨x,hx,t,ek⟩:=m9 e he
   rw [ek]
   intro hc
   have:x=z:=by
    simp [Value.isStr] at hc
    exact hc
   exact hn (this▸hx)
  rw [f1]
  dsimp only
  rw [zC]
  intro hc
  obtain ⟨e,he,hr⟩:=List.any_eq_true.mp hc
  obtain ⟨x,hx,t,ek⟩:=m9 e he
  simp [DictEntry.refKey,ek] at hr
end
section
variable {X:Cx}{Er:XK}{K:Frag}{mg:Ab}
def call_len_dict:bj X (.builtin "len") (λxs H Q=>∃p kvs,xs=[.ref p]/\H p=some (.dK kvs)/\Q (.int kvs.length) H):=by
 intro pins s U H xs us Q I r h
 obtain ⟨p,kvs,rfl,hp,q⟩:=h
 obtain ⟨u,rfl,rx⟩:=vals1 r
 cases rx
 exact DB I (.inl hp) λt s' I'=>⟨.int kvs.length,H,I',⟨t,rfl⟩,q⟩
def yg:Al:=λxs st=>match xs with
 | [.ref n]=>match st[n]? with
  | some (.dic ks _)=>.ok (.int ks.length) st
  | _=>mN xs st
 | _=>mN xs st
def jv:bT X (.builtin "len") yg:=by
 obtain ⟨r,h1,h2⟩:=EJ (X:=X)
 refine ⟨_,h1.or call_len_dict,fun ρ H st xs vs Q E s rx h=>?_⟩
 by_cases hx:∃n ks ys,xs=[.ref n]/\st[n]?=some (.dic ks ys)
 ·obtain ⟨n,ks,ys,rfl,e⟩:=hx
  have h:Out X.K X.mg ρ H (.ok (.int ks.length) st) (gV X.K X.mg Q) E:=by
   simpa only [yg,e] using h
  obtain ⟨v,rfl,rv⟩:=Rs.one rx
  obtain ⟨a,ws,rfl,_,k1,k2,k3⟩:=R.refD s rv e
  refine .inr ⟨a,_,rfl,k1,?_⟩
  have hl:(kz ks ws).length=ks.length:=by simp [kz,k3]
  rw [hl]
  exact Out.now (x:=PV.int ks.length) h s _ rfl
 ·refine .inl (h2 ρ H st xs vs Q E s rx ?_)
  have:yg xs st=mN xs st:=by
   unfold yg
   split
   ·rename_i n
    split
    ·rename_i ks ys e;exact absurd ⟨n,ks,ys,rfl,e⟩ hx
    ·rfl
   ·rfl
  rw [this] at h
  exact h
end
section
variable {α:Type}{env:zc}{st:ae}{fa fb fo fk fx:Ai}{fs:Ah}{g:Aj}
def ng {n:Nat}{ks:Ad}{xs:An}(h:st[n]?=some (.dic ks xs)) (k:List Str->List PV->Res α):yY st n k=k ks xs:=by unfold yY;rw [h]
def qk {n:Nat}{xs:An}(h:st[n]?=some (.lst xs)):yg [.ref n] st=.ok (.int xs.length) st:=by
 simp only [yg,h]
 show z0 st n _=_
 rw [yp h]
@[simp] def Lg (xs:An):yg [.tup xs] st=.ok (.int xs.length) st:=(rfl)
@[simp] def Lh (xs:An):yg [.frl xs] st=.ok (.int xs.length) st:=(rfl)
@[simp] def Hn (gt:PV->zc->Option zc):m8 fo gt g env st=(fo env st).bind λv ao=>w4 v ao λn ks xs=>(bw (dQ gt g (ks.map PV.str) env (ao.set n (.fdi ks xs)))).bind λe aA=>de n aA λa4=>.ok (.nx e) a4:=(rfl)
end
end Mi
namespace L2
open PySem PySem.Spec PyProof.Rows PySem.W
section
variable {X:Cx}
def Ho (hc:X.calm=true):bj X (.builtin "any") (λxs H Q=>∃(a:Addr) (bs:List Bool),xs=[.ref a]/\a3 X.K H a (bs.map V.bl)/\Q (.bl (bs.any id)) H):=by
 intro pins s U H xs us Q I r h
 obtain ⟨a,bs,rfl,hl,q⟩:=h
 obtain ⟨u,rfl,ru⟩:=vals1 r
 cases ru
 obtain ⟨its,rv,pl,hz⟩:=I.list hl
 have e:=sT rv
 subst e
 refine call_any_walk (wpAny_pyIter_list pl.isList ?_)
 have hh:X.A.in1.handled=none:=I.ok.hd hc
 have a6:a<s.heap.objs.size:=by
  obtain ⟨o,e,_⟩:=pl.isList
  exact zY e
 have lj:a≠s.heap.objs.size:=yt a6
 refine ⟨s.heap.objs.size,_,_,_,_,_,λi=>(bs[i]?).getD false,rfl,Walks.list hh s.heap.objs.size a lj (bs.map Value.bool).toArray,⟨⟨_,yR _ rfl,rfl,rfl⟩,pl.isList.at λo e=>z7 _ e⟩,?_,λh' tk kk=>?_⟩
 ·intro i v s' Q' E' hp hq
  have hp':(bs.map Value.bool)[i]?=some v:=by simpa using hp
  rw [jp] at hp'
  cases eb:bs[i]? with
  | none=>rw [eb] at hp';cases hp'
  | some b =>
   rw [eb] at hp'
   have:Value.bool b=v:=Option.some.inj hp'
   subst this
   refine wu ?_
   dsimp only at hq
   rw [eb] at hq
   exact hq
 ·have e1:(List.range (bs.map Value.bool).toArray.size).any (λi=>(bs[i]?).getD false)=bs.any id:=by
   rw [yr,ji]
   rw [Bool.eq_iff_iff,List.any_eq_true,List.any_eq_true]
   constructor
   ·rintro ⟨i,hi,hh⟩
    have iN:=wM.mp hi
    rw [zK iN] at hh
    exact ⟨_,jJ iN,hh⟩
   ·rintro ⟨b,hb,hh⟩
    obtain ⟨i,hi,e⟩:=jZ hb
    refine ⟨i,wM.mpr hi,?_⟩
    rw [zK hi,e]
    exact hh
  rw [e1]
  refine ⟨.bl (bs.any id),H,?_,rfl,q⟩
  exact I.kept (t':=tk) λb o e=>kk b o (λz=>by
   have z':b=s.heap.objs.size:=by simpa using z
   exact absurd (zY e) (by rw [z'];exact Nat.lt_irrefl _)) (z7 _ e)
end
end L2
namespace Mi
open PySem L2 PySem.W PySem.Spec
section
variable {X:Cx}{Er:XK}{pos:Pos}{K:Frag}{mg:Ab}{fs:Ah}
def ni:Al:=λvs st=>(wE vs st).bind λn st=>z0 st n λxs=>match cg xs with
 | some bs=>.ok (.bl (bs.any id)) st
 | none=>.stuck
def Hq (hc:X.calm=true):bT X (.builtin "any") ni:=⟨_,Ho hc,fun ρ H st xs vs Q E s r h=>by
 obtain ⟨n,ys,rfl,hn,h⟩:=pY h
 obtain ⟨bF,ke,h⟩:=yO h
 obtain ⟨v,rfl,rv⟩:=r.one
 obtain ⟨a,rfl,ha⟩:=rv
 obtain ⟨ws,hH,hR⟩:=s.addr ke ha
 cases hi:cg bF with
 | none=>simp only [hi] at h;exact h.elim
 | some bs =>
  simp only [hi] at h
  have e:=vy hi hR
  subst e
  exact ⟨a,bs,rfl,a3.of hH,Out.now (x:=PV.bl (bs.any id)) h s _ rfl⟩⟩
def Hr:bootBuiltins "any" = some (.builtin "any"):=by decide +kernel
end
end Mi
namespace PySem
open Sem (wp)
def Lr.nolen:typeLookup (.type "list_reverseiterator") "__len__" = pure none:=by rw [typeLookup_type,builtinLookup_eq_fast];kernel_rfl
def Lr.hint:typeLookup (.type "list_reverseiterator") "__length_hint__" = pure (some (.builtin "list_reverseiterator.__length_hint__")):=by rw [typeLookup_type,builtinLookup_eq_fast];kernel_rfl
section
variable {prog:Program}{w:World}{A:Around}{s:Shared}{R:Result->Shared->Prop}
variable {I:Addr}{fp wr:Ae}{G:Array GenState->Array GenState->Prop}{n:Nat}{P:Nat->Value->Prop}{St:Nat->Shared->Prop}
def Lr.extend (W:WalksS prog w A.in1 I fp wr G n P St) (hT:∀i s,St i s->s.TypeIs (.ref I) "list_reverseiterator") (S:Addr) (res:Value) (aK:Nat) (bV:St 0 s) (g6:S∉fp) (hI:I∈fp)
  (hS:s.heap.get? S=some { cls:=.type "list", data:=.seq #[] aK })
  (hR:∀s' bX c',Moved (S::wr) G s s'->s'.heap.get? S=some { cls:=.type "list", dict:=none,data:=.seq bX c',slots:=#[] }->ItemsOf P bX n->R (.ok (.ret res)) s') (hn:n<=sizeLine:=by size_fits) :
  wpAny (model prog w) A.in1 (Builtin.List.listExtendWith (.ref S) (.ref I) res)
   (λfin s'=>match fin with | .done f=>R (.ok f) s' | .again c'=>c'.quiet=true/\codeAny (model prog w) A c' R s') (λe s'=>R (.error e) s') s:=by
 have Hs:S≠I:=λe=>g6 (e▸hI)
 unfold Builtin.List.listExtendWith
 refine zq (wpAny_typeOf (hT 0 _ bV) ?_)
 have h1:Builtin.List.listSameRef (.ref S) (.ref I)=false:=by simp [Builtin.List.listSameRef,Hs]
 rw [zC (by rw [h1];decide)]
 refine zq (W.self 0 _ _ _ bV ?_)
 refine zq (jo ?_)
 unfold Builtin.List.listLengthHint
 refine zq (wpAny_specialOf (hT 0 _ bV) Lr.nolen ?_)
 show wpAny _ A.in1 (specialOf (Value.ref I) (Str.ofString "__length_hint__") >>= _) _ _ _
 refine zq (wpAny_specialOf (hT 0 _ bV) Lr.hint ?_)
 generalize hid:("list_reverseiterator.__length_hint__" : String)=id0
 wp_delta
 rw [show splitId id0=some ("list_reverseiterator", "__length_hint__") from by subst hid;decide +kernel]
 subst hid
 refine zq (wpAny_isInstance (b:=true) (hT 0 _ bV) (by rw [isSubtype_type];kernel_rfl) ?_)
 refine zE ?_
 rw [zC (by decide)]
 refine zE ⟨plainId_quiet F.plain_extend_loop _,codeAny_extend_loopS W hn _ g6 _ n 0 _ _ _ rfl (yX _) bV hS (ItemsOf.nil P) λs' bX c' hm lA cy=>?_⟩
 exact hR s' bX c' hm lA cy
end
section
variable {prog:Program}{w:World}{A:Around}{s:Shared}{R:Result->Shared->Prop}
variable {I:Addr}{fp wr:Ae}{G:Array GenState->Array GenState->Prop}{n:Nat}{P:Nat->Value->Prop}{St:Nat->Shared->Prop}
def Lr.init (W:WalksS prog w A.in1 I fp wr G n P St) (hT:∀i s,St i s->s.TypeIs (.ref I) "list_reverseiterator") (S:Addr) (bV:St 0 s) (g6:S∉fp) (hI:I∈fp)
  (hS:s.heap.get? S=some { cls:=.type "list", data:=.seq #[] })
  (hR:∀s' bX c',Moved (S::wr) G s s'->s'.heap.get? S=some { cls:=.type "list", dict:=none,data:=.seq bX c',slots:=#[] }->ItemsOf P bX n->R (.ok (.ret .none)) s') (hn:n<=sizeLine:=by size_fits) :
  wpAny (model prog w) A.in1 (Builtin.«list.__init__» ⟨[.ref S,.ref I],[]⟩)
   (λfin s'=>match fin with | .done f=>R (.ok f) s' | .again c'=>c'.quiet=true/\codeAny (model prog w) A c' R s') (λe s'=>R (.error e) s') s:=by
 show wpAny _ A.in1 (do let old <-Builtin.List.listItems (.ref S);Builtin.List.listUpdate (.ref S) (λ_=>#[]);letGo old.toList.reverse;Builtin.List.listExtendWith (.ref S) (.ref I) .none) _ _ s
 refine zq ?_
 unfold Builtin.List.listItems
 refine zq (wpAny_seqItems hS rfl (zE ?_))
 show wpAny _ A.in1 (updateSeq S (λ_=>#[]) >>= λ_=>letGo (#[]:Array Value).toList.reverse >>= λ_=>Builtin.List.listExtendWith (.ref S) (.ref I) .none) _ _ s
 refine zq (wpAny_updateSeq hS rfl ?_)
 have aL:=Heap.get?_update_self (Obj.mapSeq (λ_=>(#[]:Array Value))) hS rfl
 have gO:∀b o,b≠S->s.heap.get? b=some o->(s.heap.update S (Obj.mapSeq (λ_=>(#[]:Array Value)))).get? b=some o :=
  λb o hb e=>(jV _ _ (y3 hb)).trans e
 refine zq (wpAny_letGo ?_)
 refine Lr.extend (hn:=hn) W hT S .none _ (W.frame 0 s _ s.toks bV (zI _) λb hb o e=>gO b o (λh=>g6 (h▸hb)) e) g6 hI aL λs' bX c' hm lA cy=>?_
 exact hR s' bX c' (Moved.trans W.gtrans ((Moved.refl W.grefl).then_heap (zI _) λb o hb e=>gO b o (λh=>hb (h▸yL)) e) hm) lA cy
end
section
variable {prog:Program}{w:World}{A:Around}{E:Aa}{s:Shared}
variable {I:Addr}{fp wr:Ae}{G:Array GenState->Array GenState->Prop}{n:Nat}{P:Nat->Value->Prop}{St:Nat->Shared->Prop}
def Lr.call {Q:Aa} (W:WalksS prog w A.in1.in1 I fp wr G n P St) (hT:∀i s,St i s->s.TypeIs (.ref I) "list_reverseiterator") (bV:St 0 s) (Ht:∀b∈fp,b<s.heap.objs.size) (hI:I∈fp)
  (hQ:∀s' bX c',Moved (s.heap.objs.size::wr) G { s with heap:=s.heap.push { cls:=.type "list", data:=.seq #[] } } s' ->
   s'.heap.get? s.heap.objs.size=some { cls:=.type "list", dict:=none,data:=.seq bX c',slots:=#[] }->ItemsOf P bX n->Q (.ref s.heap.objs.size) s') (hn:n<=sizeLine:=by size_fits) :
  wpAny (model prog w) A (call (.type "list") [.ref I]) Q E s:=by
 have g6:s.heap.objs.size∉fp:=λhm=>Nat.lt_irrefl _ (Ht _ hm)
 refine callType_codes (Q₁:=λobj aj=>obj=.ref s.heap.objs.size/\aj={ s with heap:=s.heap.push { cls:=.type "list", data:=.seq #[] } }) F.called_list (F.typeCall_list_1 _) F.entry_list_init
  (code_list_new _ ⟨rfl,rfl⟩) λobj aj au=>?_
 obtain ⟨rfl,rfl⟩:=au
 have hS:(s.heap.push { cls:=.type "list", data:=.seq #[] }).get? s.heap.objs.size=some { cls:=.type "list", data:=.seq #[] }:=yR _ rfl
 refine ⟨⟨_,hS,rfl⟩,F.args_list_init_2 _ _,Lr.init (hn:=hn) W hT _ (W.frame 0 s _ s.toks bV (zI _) λb _ o e=>z7 _ e) g6 hI hS λs' bX c' hm lA cy=>?_⟩
 exact ⟨rfl,hQ s' bX c' hm lA cy⟩
end
end PySem
namespace L2
open PySem PySem.Spec PyProof.Rows PySem.W
section
variable {X:Cx}
end
end L2
namespace Mi
open PySem L2 PySem.W PySem.Spec
section
variable {X:Cx}{Er:XK}{pos:Pos}{K:Frag}{mg:Ab}{fs:Ah}
end
section
variable {X:Cx}{Er:XK}{pos pos':Pos}{o i value:Expr}{fo fi fv:Ai}
end
section
variable {X:Cx}
end
end Mi
namespace L2
open PySem PySem.Spec PyProof.Rows PySem.W
section
variable {prog:Program}{w:World}{A:Around}{E:Aa}{s:Shared}
end
section
variable {X:Cx}{pos:Pos}
end
end L2
namespace Mi
open PySem L2 PySem.W PySem.Spec
section
variable {X:Cx}{Er:XK}{pos:Pos}{e:Expr}{fa:Ai}
end
end Mi
namespace L2
open PySem PySem.Spec PyProof.Rows PySem.W
section
variable {prog:Program}{w:World}{A:Around}{E:Aa}{s:Shared}
end
end L2
namespace Mi
open PySem L2 PySem.W PySem.Spec
section
variable {X:Cx}{Er:XK}{pos:Pos}{cL:List Stmt}{gb:Aj}{fs:Ah}
end
end Mi
namespace L2
open PySem PySem.Spec PyProof.Rows PySem.W
section
variable {prog:Program}{w:World}{A:Around}{E:Aa}{s:Shared}
end
end L2
namespace Mi
open PySem L2 PySem.W PySem.Spec
section
variable {X:Cx}
end
end Mi
namespace L2
open PySem PySem.Spec PyProof.Rows PySem.W
def vz (iy:Nat) (wi:TI) (gt:TG) (tt:TT) (te:TE) (n:Nat):TS:=λD U H=>wi U H λJ H1=>eA J gt tt te n U (λv H2=>D.nx (U.set iy (some v)) H2) H1
def Hu {X:Cx} {elt iter tg:Expr} {ifs:List Expr} {xs:Ad} {y:Str} {pos pos' cA:Pos} {scope:Scope} {wi:TI} {gt:TG} {tt:TT} {te:TE} {M:Ad} {iy:Nat} (hc:X.calm=true) (S:cx X.env.scope scope xs) (eN:Hid scope M X.N) (bH:((".0" : Str)::(xs++M)).Nodup)
  (hi:PI X tg iter wi) (kB:∀cl C aa ag fp E,PG (bR X M scope cl xs C aa ag fp E) tg gt) (fN:∀cl C aa ag fp,d7 (bR X M scope cl xs C aa ag fp (λ_ _=>False)) ifs tt) (he:∀cl C aa ag fp,PE (bR X M scope cl xs C aa ag fp (λ_ _=>False)) elt te)
  (fZ:X.N.Nodup) (f6:X.N[iy]?=some y) (hy:Loc X.env.scope y) (f7:X.fn y=true\/X.env.scope.names.lookup y=some .local)
  (f9:swapsWith (.ListComp elt [⟨tg,iter,ifs,0⟩] scope pos) (some (.Name y pos')) cA.line X.env=pure true) (hs:∀v,foldedSetIterable iter X.env v=pure v:=by intro _;rfl):PS X (.Assign [.Name y pos'] (.ListComp elt [⟨tg,iter,ifs,0⟩] scope pos) cA) (vz iy wi gt tt te xs.length):=by
 intro pins s U H Dn I h
 have hN:(xs++M).Nodup:=(ja.mp bH).2
 have kC:(".0" : Str)∉M:=λz=>(ja.mp bH).1 (yb _ z)
 obtain ⟨cl,eP,bq,d0⟩:=oO X.env scope λp hp hf=>I.ok.has p.1 (.inl (S.free p hp hf))
 have eR:X.env.scope.kind=.function:=I.ok.kind
 rw [exec_Assign_Name_used _ _ _ _ f9]
 refine zq (wpAny_standAt ?_)
 rw [arm_evalThenUse_ListComp]
 refine zq (zq (wpAny_comprehension_free (Q:=λ_ s'=>wpAny (model X.prog X.w) X.A (pure ():Sem Unit) (λ_ s'=>wpAny (model X.prog X.w) X.A (pure .next:Sem Flow) (SP X pins Dn) X.xe s') X.xe s') (use:=some (assign (.Name y pos') X.env)) rfl hs eP S.kind (λy hy hl=>(S.names y hy hl).1) ?_))
 refine aS (hi pins s U H _ I h) λv s1 h1=>aS h1 λki aa h2=>?_
 obtain ⟨it,fp,tn,J,H2,e,I2,T,aA,f2,W,⟨m0,w0⟩,turn⟩:=h2
 subst e
 refine wt (wpAny_newFunctionEnv S.ncell (by intro y hy;simp at hy) (λau ay aw=>?_) S.kind)
 dsimp only at ay aw ⊢
 generalize hH2:aa.heap.push { cls:=.type "list", dict:=none,data:=.seq ([]:Af).toArray }=G2 at ay aw ⊢
 have hC:G2.objs.size=aa.heap.objs.size+1:=by rw [<-hH2,Heap.size_push]
 have di:aa.heap.objs.size≠G2.objs.size:=by rw [hC];exact yt (jq _)
 have n4:aa.heap.objs.size<=G2.objs.size:=by rw [hC];exact Nat.le_succ _
 have old:∀b o,aa.heap.get? b=some o->au.get? b=some o:=λb o e=>by
  have hb:b≠G2.objs.size:=by rw [hC];exact yt (Nat.lt_succ_of_lt (zY e))
  exact aw.extBut b o hb (z7 _ (hH2▸z7 _ e))
 have cy:au.get? aa.heap.objs.size=some { cls:=.type "list", data:=.seq (#[]:Array Value) 0 }:=aw.extBut _ _ di (z7 _ (hH2▸yR _ rfl))
 generalize hD:aa.heap.objs.size=D at *
 generalize hCC:G2.objs.size=C at *
 have bY:∀{b:Nat} {o:Obj},aa.heap.get? b=some o->b<D:=λe=>by rw [<-hD];exact zY e
 have nofr:∀b,D<=b->b∉b_ X.stack:=λb hb z=>by
  rcases yv.mp (I2.stkSub b z) with q|q
  ·exact oJ I2.lt hD hb q
  ·exact I2.nofs (by rw [hD];exact hb) q
 let E':Aa:=notedBy (model X.prog X.w) X.A (compEnvC scope cl C X.env) λe s'=>compPost (model X.prog X.w) X.A X.xe (some (assign (.Name y pos') X.env)) (λ_ s'=>wpAny (model X.prog X.w) X.A (pure ():Sem Unit) (λ_ s'=>wpAny (model X.prog X.w) X.A (pure .next:Sem Flow) (SP X pins Dn) X.xe s') X.xe s') (.ref D) C (.error e) s'
 let Y:Cx:=bR X M scope cl xs C aa H2 fp E'
 have bI:∀b∈fp,b0 X pins H2 b:=f2
 have eS:Y.Ok:=by
  refine ⟨I2.ok.mod,S.kind,I2.ok.glob,I2.ok.blt,(by show aa.heap.objs.size<=C;omega),λy z c h1 h2=>?_,λy hy=>?_,λy c hf=>?_,I2.ok.hd,I2.ok.frames,.inl rfl,λb hb=>?_,I2.bs,yM I2.ok.bsz I2.sz,λb o hb hx=>?_,λb hb hx=>?_,I2.stack,I2.stkFree⟩
  ·exact I2.ok.inj y z c (bq y c h1) (bq z c h2)
  ·exact d0 y (iK S eR hy)
  ·cases hf
  ·refine ⟨λz=>?_,λy c hy=>(bI b hb).2.2.2.2.1 y c (bq y c hy)⟩
   obtain ⟨o,ho,_⟩:=T.obj 0 _ aA b hb
   exact jN (bY ho) hC z
  ·rcases (bI b hx).2.2.2.1 with z|z
   ·exact I2.ok.noex b o hb z
   ·exact oK (zY hb) I2.ok.bsz z
  ·rcases yv.mp (I2.stkSub b hx) with q|q
   ·exact (bI b hb).2.1 q
   ·exact (bI b hb).2.2.1 q
 have cE:∀{s':Shared} {H':Hp} {o:Obj},s'.heap.get? D=some o->H' D=none->(∀v,o.data ≠ .cell v)->∀p∈[(D,o)],s'.heap.get? p.1=some p.2/\H' p.1=none/\p.1≠Y.env.locals/\p.1∉Y.fs/\∀v,p.2.data ≠ .cell v:=λ{s' H' o} e1 e2 e3 p hp=>by
  have ep:p=(D,o):=by simpa using hp
  subst ep
  exact ⟨e1,e2,di,nofr D (zI _),e3⟩
 have I0:Inv Y [(D,{ cls:=.type "list", data:=.seq (#[]:Array Value) 0 })] (List.replicate xs.length none++U) H2 { aa with heap:=au,toks:=aa.toks+([]:List (Str×Value)).length }:=by
  have fresh:∀b,D<=b->H2 b=none:=λb hb=>I2.hok.fresh (by rw [hD];exact hb)
  refine ⟨eS,rfl,I2.bare,Un.kept old,⟨_,ay,λi y v e1 e2 e3=>?_⟩,λy c hy=>?_,fresh C (by omega),λy c hy=>I2.freeC y c (bq y c hy),λp hp=>cE cy (fresh D (zI _)) (λv z=>by cases z) p hp,I2.hok.kept old,?_⟩
  ·by_cases a6:i<xs.length
   ·rw [jj (by simpa using a6),List.getElem?_replicate] at e2
    simp [a6] at e2
   ·obtain ⟨j,rfl⟩:∃j,i=xs.length+j:=⟨i-xs.length,by omega⟩
    have gk:M[j]?=some y:=by
     have:(xs++M)[xs.length+j]?=some y:=e1
     rw [jd (by omega)] at this
     simpa using this
    have kD:X.N[j]?=some y:=by
     rcases eN.get gk with q|q
     ·exact q
     ·refine absurd ?_ q
      rcases e3 with e3|e3|e3<;>(obtain ⟨k0,hm,_⟩:=wa e3;exact jw.mpr ⟨_,hm,rfl⟩)
    have kE:U[j]?=some (some v):=by
     rw [jd (by simp)] at e2
     simpa using e2
    have eU:¬(y∈xs\/y = ".0"):=λz=>by
     have hm:=jY gk
     rcases z with z|z
     ·exact (List.nodup_append.mp hN).2.2 y z y hm rfl
     ·rw [z] at hm
      exact kC hm
    have cZ:(y,NameKind.free)∈scope.names:=by
     rcases e3 with e3|e3|e3
     ·exact absurd (mq S e3) eU
     ·exact iK S eR (.inl e3)
     ·exact iK S eR (.inr e3)
    have gm:X.env.scope.names.lookup y=some .cell:=S.free _ cZ rfl
    obtain ⟨m,hn,hl⟩:=I2.loc
    obtain ⟨u,r,l⟩:=hl j y v kD kE (.inr (.inl gm))
    refine ⟨u,r,?_⟩
    rcases l with ⟨hk,_⟩|⟨_,c,gf,cX⟩
    ·have:X.env.kindOf y=some .cell:=gm
     rw [this] at hk;cases hk
    ·obtain ⟨c',cC⟩:=d0 y cZ
     have:=bq y c' cC
     rw [gf] at this
     cases this
     refine .inr ⟨?_,c,cC,?_⟩
     ·rcases e3 with e3|e3|e3
      ·exact absurd (mq S e3) eU
      ·exact .inl e3
      ·exact .inr e3
     ·obtain ⟨o,ho,hd⟩:=cX
      exact ⟨o,old c o ho,hd⟩
  ·obtain ⟨v,o,ho,hd⟩:=I2.cell y c (bq y c hy)
   exact ⟨v,o,old c o ho,hd⟩
  ·show (List.replicate xs.length none++U).length=(xs++M).length
   simp [I2.len,eN.1]
 have eV:∀{pl:Ac} {H':Hp},(∀p∈pl,p.1=D)->(∀b∈fp,H' b=none)->∀b∈fp,b0 Y pl H' b:=λ{pl H'} bu hn b hb=>by
  obtain ⟨o,ho,_⟩:=T.obj 0 _ aA b hb
  refine ⟨hn b hb,λz=>?_,?_,.inl hb,(eS.exf b hb).2,λp hp z=>?_⟩
  ·exact jN (bY ho) hC z
  ·exact eS.exfs b hb
  ·have hp':p∈pl:=by simpa [Y,bR] using hp
   exact oM (bY ho) (bu p hp') z
 have loop:codeAny (model X.prog X.w) X.A (.compLoop (.ListComp elt [⟨tg,iter,ifs,0⟩] scope pos) 0 (.ref it) (.ref D) (compEnvC scope cl C X.env))
   (compPost (model X.prog X.w) X.A X.xe (some (assign (.Name y pos') X.env)) (λ_ s'=>wpAny (model X.prog X.w) X.A (pure ():Sem Unit) (λ_ s'=>wpAny (model X.prog X.w) X.A (pure .next:Sem Flow) (SP X pins Dn) X.xe s') X.xe s') (.ref D) C) { aa with heap:=au,toks:=aa.toks+([]:List (Str×Value)).length }:=by
  refine sO (λn s'=>∃i ys H' its k,Inv Y [(D,{ cls:=.type "list", data:=.seq (its:Af).toArray k })] (List.replicate xs.length none++U) H' s'/\Vals ys its/\tn i s'.heap/\(∀b∈fp,H' b=none)/\W i n ys H') ?_ m0
   ⟨0,[],H2,[],0,I0,.nil,T.keep 0 _ _ aA (λb hb o e=>old b o e),λb hb=>(bI b hb).1,w0⟩
  rintro n s3 ⟨i,ys,H3,its,k,I3,rv,a4,eG,w3⟩
  have c3:∀{o:Obj},∀p∈[(D,o)],p.1=D:=λ{o} p hp=>by
   have ep:p=(D,o):=by simpa using hp
   rw [ep]
  obtain ⟨gD,nD,_,_,_⟩:=I3.pin (D,_) (yb _ yL)
  rcases turn i n ys H3 w3 with ⟨stop,hz,q⟩|⟨go,hz,step⟩
  ·refine aS (T.done Y rfl rfl rfl hc i _ s3 _ H3 E' I3 (eV c3 eG) a4 stop) λr s4 ⟨hr,I4⟩=>?_
   subst hr
   obtain ⟨kF,eW,_,_,_⟩:=I4.pin (D,_) (yb _ yL)
   obtain ⟨m4,kG,_⟩:=id I4.loc
   have fin:∀h',Heap.SameBut C s4.heap h'->Inv X pins U (upd H3 D (.lst ys)) { s4 with heap:=h' }:=λh' bD=>by
    have dW:∀{b:Addr} {u:HO},H3 b=some u->b≠C:=λe z=>by
     have:H3 C=none:=I4.free
     rw [z,this] at e;cases e
    refine I2.call' (s':={ s4 with heap:=h' }) (ch:=fp) (H':=upd H3 D (.lst ys)) I4.os ?_ ?_ I4.bare λb hb=>⟨(bI b hb).2.2.2.1,(bI b hb).2.1,(bI b hb).2.2.2.2.1,(bI b hb).2.2.2.2.2⟩
    ·have B:=I4.base
     have eX:∀{b:Nat} {o:Obj},aa.heap.get? b=some o->b≠C:=λe z=>jN (bY e) hC z
     have eY:∀{b:Addr} {u:HO},H3 b=some u->b≠D:=λe z=>by rw [z,eW] at e;cases e
     refine ⟨λb o e nn hb hx=>(bD.2 b (eX e)).trans (B.keep b o e nn hb hx),λb o e nn hb hx=>?_,λb o e nn hx=>?_,λb o e hx=>?_,λb xs e=>?_,λb o u e=>?_,λb ps e=>?_⟩
     ·obtain ⟨sl,z⟩:=B.slot b o e nn hb hx
      exact ⟨sl,(bD.2 b (eX e)).trans z⟩
     ·have kH:b≠D:=yt (bY e)
      rw [zF kH]
      exact B.free b o e nn hx
     ·obtain ⟨o',z⟩:=B.there b o e hx
      exact ⟨o',(bD.2 b (eX e)).trans z⟩
     ·have z:=B.tups b xs e
      rw [zF (eY z)];exact z
     ·have z:=B.frzs b o u e
      rw [zF (eY z)];exact z
     ·obtain ⟨more,z⟩:=B.tbls b ps e
      exact ⟨more,by rw [zF (eY z)];exact z⟩
    ·intro a o e
     by_cases ha:a=D
     ·subst ha
      rw [yx] at e
      cases e
      exact ⟨hz,its,k,rv,(bD.2 _ di).trans kF⟩
     ·rw [zF ha] at e
      have cz:∀b u,H3 b=some u->(upd H3 D (.lst ys)) b=some u:=λb u z=>by
       have hb:b≠D:=λw=>by rw [w,eW] at z;cases z
       rw [zF hb];exact z
      refine (I4.hok a o e).stay (λb u hb z=>(bD.2 b ?_).trans z) (λb z=>cz b _ z) λb xs z=>cz b _ z
      rcases hb with hb|hb
      ·rw [hb];exact dW e
      ·exact dW hb
   have qg:C≠D:=λz=>di z.symm
   have IX:=fin s4.heap ⟨rfl,λ_ _=>rfl⟩
   obtain ⟨oC,eC,pC,gC,rC⟩:=id kG
   have lq:upd H3 D (.lst ys) C=none:=by rw [zF qg];exact I4.free
   have gZ:∀b o,aa.heap.get? b=some o->b≠C:=λb o e z=>jN (bY e) hC z
   have lr:C≠X.env.locals:=λz=>by
    obtain ⟨m2,dg,_⟩:=id I2.loc
    obtain ⟨o2,_,_,g2,_⟩:=dg
    exact gZ _ _ g2 z.symm
   have qh:C∉X.fs:=I2.nofs (by rw [hD];omega)
   have IP:Inv X (pins++[(C,oC)]) U (upd H3 D (.lst ys)) s4:=IX.pins_of λp hp=>by
    rcases j1.mp hp with hp|hp
    ·exact IX.pin p (yb _ hp)
    ·have ep:p=(C,oC):=by simpa using hp
     subst ep
     exact ⟨gC,lq,lr,qh,λv z=>by rw [rC.1] at z;cases z⟩
   show wpAny _ _ (assign (.Name y pos') X.env (.ref D)) _ _ s4
   have bV:wpAny (model X.prog X.w) X.A (assign (.Name y pos') X.env (.ref D)) (λ_ s5=>Inv X (pins++[(C,oC)]) (U.set iy (some (.ref D))) (upd H3 D (.lst ys)) s5) X.xe s4:=wpAny_assign_Name (lX IP fZ f6 hy (v:=.ref D) rfl (λs5 I5=>I5) f7)
   refine aS bV λ_ s5 I5=>?_
   have g5:=(I5.pin (C,oC) (yb _ (yb _ yL))).1
   refine ⟨m4,⟨oC,eC,pC,g5,rC⟩,λG_ bD=>zE (zE ⟨_,_,?_,q D eW⟩)⟩
   exact (I5.pins_of (pins':=pins) λp hp=>I5.pin p (yb _ (jI _ hp))).turned (it:=C) (t':=s5.toks) (λb o hb e=>(bD.2 b hb).trans e) lq lr
    (.inr (by have:=I2.sz;rw [hD] at this;omega)) (λa c ha z=>by
     obtain ⟨v',o',ho',_⟩:=I2.cell a c ha
     exact gZ _ _ ho' z) (λp hp=>gZ _ _ (I2.pin p hp).1)
  ·refine aS (T.item Y rfl rfl rfl hc i _ s3 _ H3 E' I3 (eV c3 eG) a4 go) λr s4 ⟨u,hr,h4⟩=>?_
   subst hr
   refine aS h4 λ_ s5 ⟨z,H5,I5,r5,y5,cM,gG⟩=>?_
   have gH:=I5.pinned (eV c3 gG) (T.obj _ _ cM)
   have eZ:PG Y tg gt:=kB cl C aa H2 fp E'
   have kI:PE Y elt te:=PE.nox (X:=Y) (he cl C aa H2 fp)
   have oS:d7 Y ifs tt:=d7.nox (X:=Y) (fN cl C aa H2 fp)
   refine aS (eZ _ s5 (List.replicate xs.length none++U) H5 z u _ gH r5 (step z _ y5)) λ_ s6 ⟨aE,H6,I6,own,e1,e2,q6⟩=>?_
   subst e1
   have wk:∀(j:Nat) v,(List.replicate xs.length none++U)[j]?=some (some v)->(own++U)[j]?=some (some v):=λj v e=>by
    by_cases a6:j<xs.length
    ·rw [jj (by simpa using a6),List.getElem?_replicate] at e
     simp [a6] at e
    ·rw [jd (by simp;omega)] at e
     rw [jd (by omega),e2]
     simpa using e
   have wl:(List.replicate xs.length none++U).length=(own++U).length:=by simp [e2]
   refine aS (oS _ s6 _ _ _ I6 q6) λb s7 ⟨H7,I7,q7⟩=>?_
   cases b with
   | true =>
    refine aS (kI _ s7 _ _ _ I7 q7) λuy s7 ⟨y,H7,I7,ry,m',hm,w7⟩=>?_
    obtain ⟨fO,d8,_,_,_⟩:=I7.pin (D,_) (yb _ (jI _ yL))
    refine wpAny_list_append_plain ⟨k,fO⟩ (λh' bu bD=>?_) (by rw [yr,<-rv.length];exact hz)
    obtain ⟨k',gn⟩:=bu
    have I8:Inv Y [] (own++U) H7 { s7 with heap:=h' }:=(I7.pins_of (pins':=[]) (λp hp=>nomatch hp)).turned (it:=D) (t':=s7.toks) (λb o hb e=>(bD.2 b hb).trans e) d8 di
     (.inr (by show aa.heap.objs.size<=D;omega)) (λa c hy gM=>by
      obtain ⟨v',o',ho',_⟩:=I2.cell a c (bq a c hy)
      exact yt (bY ho') gM) (λp hp=>by simp [Y,bR] at hp)
    have I9:Inv Y [] (List.replicate xs.length none++U) H7 { s7 with heap:=h' }:=I8.weak wl wk
    have bJ:∀b∈fp,∃o,s5.heap.get? b=some o/\s7.heap.get? b=some o/\H7 b=none:=λb hb=>by
     obtain ⟨o,e,_⟩:=T.obj _ _ cM b hb
     have q:=I7.pin (b,o) (yb _ (yb _ (wO hb e)))
     exact ⟨o,e,q.1,q.2.1⟩
    have kJ:∀b∈fp,b≠D:=λb hb=>by
     obtain ⟨o,ho,_⟩:=T.obj 0 _ aA b hb
     exact yt (bY ho)
    have eT:its.toArray.push uy=(its++[uy]).toArray:=by simp
    rw [eT] at gn
    refine ⟨m',hm,i+1,ys++[y],H7,its++[uy],k',I9.pins_of (cE gn d8 λv e=>by cases e),rv.append (.cons ry .nil),T.keep (i+1) _ _ cM λb hb o e=>?_,λb hb=>?_,w7⟩
    ·obtain ⟨o',e1,e2,_⟩:=bJ b hb
     rw [e] at e1
     cases e1
     exact (bD.2 b (kJ b hb)).trans e2
    ·obtain ⟨_,_,_,q⟩:=bJ b hb
     exact q
   | false =>
    obtain ⟨m',hm,w7⟩:=q7
    obtain ⟨fO,d8,_,_,_⟩:=I7.pin (D,_) (yb _ (jI _ yL))
    have I9:Inv Y [] (List.replicate xs.length none++U) H7 s7:=(I7.pins_of (pins':=[]) (λp hp=>nomatch hp)).weak wl wk
    have bJ:∀b∈fp,∃o,s5.heap.get? b=some o/\s7.heap.get? b=some o/\H7 b=none:=λb hb=>by
     obtain ⟨o,e,_⟩:=T.obj _ _ cM b hb
     have q:=I7.pin (b,o) (yb _ (yb _ (wO hb e)))
     exact ⟨o,e,q.1,q.2.1⟩
    refine ⟨m',hm,i+1,ys,H7,its,k,I9.pins_of (cE fO d8 λv e=>by cases e),rv,T.keep (i+1) _ _ cM λb hb o e=>?_,λb hb=>?_,w7⟩
    ·obtain ⟨o',e1,e2,_⟩:=bJ b hb
     rw [e] at e1
     cases e1
     exact e2
    ·obtain ⟨_,_,_,q⟩:=bJ b hb
     exact q
 exact codeAny_compStart_list loop (T.self X.A 0 _ _ _ (T.keep 0 _ _ aA (λb hb o e=>old b o e)) loop)
def Hv {X:Cx} {elt iter tg:Expr} {ifs:List Expr} {xs:Ad} {y:Str} {pos pos' cA:Pos} {scope:Scope} {wi:TI} {gt:TG} {tt:TT} {te:TE} {N:Ad} {iy:Nat} (hc:X.calm=true) (S:cx X.env.scope scope xs) (eN:X.N=N) (bH:((".0" : Str)::(xs++N)).Nodup)
  (hi:PI X tg iter wi) (kB:∀cl C aa ag fp E,PG (gL X scope cl xs C aa ag fp E) tg gt) (fN:∀cl C aa ag fp,d7 (gL X scope cl xs C aa ag fp (λ_ _=>False)) ifs tt) (he:∀cl C aa ag fp,PE (gL X scope cl xs C aa ag fp (λ_ _=>False)) elt te)
  (fZ:X.N.Nodup) (f6:X.N[iy]?=some y) (hy:Loc X.env.scope y) (f7:X.fn y=true\/X.env.scope.names.lookup y=some .local)
  (f9:swapsWith (.ListComp elt [⟨tg,iter,ifs,0⟩] scope pos) (some (.Name y pos')) cA.line X.env=pure true) (hs:∀v,foldedSetIterable iter X.env v=pure v:=by intro _;rfl):PS X (.Assign [.Name y pos'] (.ListComp elt [⟨tg,iter,ifs,0⟩] scope pos) cA) (vz iy wi gt tt te xs.length)  :=
 Hu (M:=X.N) hc S Hid.refl (by rw [eN];exact bH) hi kB fN he fZ f6 hy f7 f9 hs
end L2
namespace Mi
open PySem L2 PySem.W PySem.Spec
section
variable {X:Cx}{Er:XK}{pos:Pos}
def dR (ft:Ak) (fe:Ai) (env:zc):List PV->Al
 | [],ys,st=>.ok (.ref st.length) (st++[.lst ys])
 | x::xs,ys,st=>(bw (ft (some x::env) st)).bind λb ao=>if b=true then (bw (fe (some x::env) ao)).bind λy aA=>dR ft fe env xs (ys++[y]) aA else dR ft fe env xs ys ao
def cT (ft:Ak) (fe:Ai) (env:zc) (n:Nat):Nat->Nat->Al
 | 0,_,_,_=>.stuck
 | m+1,i,ys,st=>z0 st n λxs=>match xs[i]? with
  | none=>.ok (.ref st.length) (st++[.lst ys])
  | some x=>(bw (ft (some x::env) st)).bind λb ao=>if b=true then (bw (fe (some x::env) ao)).bind λy aA=>cT ft fe env n m (i+1) (ys++[y]) aA else cT ft fe env n m (i+1) ys ao
def iA (ft:Ak) (fe:Ai) (env:zc):Sq->Mo PV
 | .im xs,st=>if xs.length<=lim then dR ft fe env xs [] st else .stuck
 | .rf n,st=>cT ft fe env n (lim+1) 0 [] st
def wH (src:zc->Mo Sq) (ft:Ak) (fe:Ai):Ai:=λenv st=>(src env st).bind λq ao=>iA ft fe env q ao
def vA {src:zc->Mo Sq}{ft:Ak}{fe:Ai}(U:L2.St) (H:Hp) (Q:VK) (hh:tM X.K X.mg Er (wH src ft fe) U H Q):sP (vk X Er src) (j8 0) (iO X.K X.mg XN ft) (tM X.K X.mg XN fe) 1 U H Q:=by
 obtain ⟨env,st,ρ,re,rs,h⟩:=hh
 refine ⟨env,st,ρ,re,rs,h.then λaq H0 q dA e0 s0 h0 J wk=>?_⟩
 cases q with
 | im xs =>
  obtain ⟨hl,h0⟩:=Out.ifp h0
  obtain ⟨w1,w2,w3⟩:=wk
  refine ⟨λi m ys H=>m=xs.length-i/\i<=xs.length/\ys.length<=i/\∃ps st ρ,Rs X.K X.mg ρ H ps ys/\aY X.K X.mg ρ H st/\Ext aq H0 ρ H/\Out X.K X.mg ρ H (dR ft fe env (xs.drop i) ps st) (gV X.K X.mg Q) Er,⟨xs.length,by simp,yX _,yX _,[],dA,aq,rfl,s0,Ext.refl,h0⟩,?_⟩
  rintro i m ys H ⟨rfl,hi,hy,ps,st,ρ,cv,rs,ex,h⟩
  by_cases a6:i<xs.length
  ·refine .inr ⟨w1 i ρ H ex a6,yJ (by omega),λv H' y=>?_⟩
   obtain ⟨x,hx,cF,s2,rx⟩:=w3 i ρ H st v H' ex rs a6 y
   have hd:xs.drop i=x::xs.drop (i+1):=by
    rw [jc a6]
    have:=(yf.mp hx).2
    rw [this]
   rw [hd] at h
   simp only [dR] at h
   have lB:a7 X.K X.mg ρ H' (some x::env) (some v::U):=(re.ext (e0.trans (ex.trans cF))).cons rx
   refine ⟨[some v],rfl,rfl,some x::env,st,ρ,lB,s2,wC (Out.ext h cF) λak H3 b a4 e3 s3 h3=>?_⟩
   cases b with
   | true=>exact ⟨_,a4,ak,lB.ext e3,s3,wC h3 λaF H4 y k7 e4 s4 h4 v4 r4=>⟨xs.length-(i+1),by omega,rfl,a6,by simp;omega,ps++[y],k7,aF,Rs.snoc r4 (Rs.ext ((cF.trans e3).trans e4) ps cv),s4,((ex.trans cF).trans e3).trans e4,h4⟩⟩
   | false=>exact ⟨xs.length-(i+1),by omega,rfl,a6,by omega,ps,a4,ak,Rs.ext (cF.trans e3) ps cv,s3,(ex.trans cF).trans e3,h3⟩
  ·have e:i=xs.length:=by omega
   subst e
   rw [List.drop_length] at h
   exact .inl ⟨w2 _ ρ H ex (zI _),yJ (by omega),λl hl=>Out.newList h rs cv hl⟩
 | rf n =>
  obtain ⟨a,ha,rfl⟩:=wk
  refine ⟨λi m ys H=>m+i=lim+1/\ys.length<=i/\∃ps st ρ,Rs X.K X.mg ρ H ps ys/\aY X.K X.mg ρ H st/\Ext aq H0 ρ H/\ρ[n]?=some a/\Out X.K X.mg ρ H (cT ft fe env n m i ps st) (gV X.K X.mg Q) Er,⟨lim+1,rfl,yX _,[],dA,aq,rfl,s0,Ext.refl,ha,h0⟩,?_⟩
  rintro i m ys H ⟨hm,hy,ps,st,ρ,cv,rs,ex,ha,h⟩
  cases m with
  | zero=>exact h.elim
  | succ m =>
   obtain ⟨xs,hn,h⟩:=yO h
   obtain ⟨vs,hH,hR⟩:=rs.addr hn ha
   cases hx:xs[i]? with
   | none =>
    simp only [hx] at h
    have:vs.length<=i:=by rw [<-hR.len];exact iE.mp hx
    exact .inl ⟨⟨vs,a3.of hH,this⟩,yJ (by omega),λl hl=>Out.newList h rs cv hl⟩
   | some x =>
    simp only [hx] at h
    obtain ⟨v,hv,rv⟩:=hR.get hx
    refine .inr ⟨⟨vs,v,a3.of hH,hv⟩,yJ (by omega),λv' H' y=>?_⟩
    obtain ⟨e1,y⟩:=y
    subst e1
    have e2:=y vs (a3.of hH)
    rw [hv] at e2
    cases e2
    have lB:a7 X.K X.mg ρ H' (some x::env) (some v::U):=(re.ext (e0.trans ex)).cons rv
    refine ⟨[some v],rfl,rfl,some x::env,st,ρ,lB,rs,wC h λak H3 b a4 e3 s3 h3=>?_⟩
    cases b with
    | true=>exact ⟨_,a4,ak,lB.ext e3,s3,wC h3 λaF H4 y k7 e4 s4 h4 v4 r4=>⟨m,jq m,by omega,by simp;omega,ps++[y],k7,aF,Rs.snoc r4 (Rs.ext (e3.trans e4) ps cv),s4,(ex.trans e3).trans e4,e4.get (e3.get ha),h4⟩⟩
    | false=>exact ⟨m,jq m,by omega,by omega,ps,a4,ak,Rs.ext e3 ps cv,s3,ex.trans e3,e3.get ha,h3⟩
def Hw (i:Nat) {elt iter c:Expr} {x y:Str} {px pos' cA:Pos} {scope:Scope} {src:zc->Mo Sq} {ft:Ak} {fe:Ai} {N:Ad} (hc:X.calm=true) (S:cx X.env.scope scope [x]) (eN:X.N=N) (bH:((".0" : Str)::([x]++N)).Nodup)
  (hi:MI X Er (.Name x px) iter src) (fN:∀cl C aa ag fp,MT (gL X scope cl [x] C aa ag fp (λ_ _=>False)) XN c ft) (he:∀cl C aa ag fp,ME (gL X scope cl [x] C aa ag fp (λ_ _=>False)) XN elt fe)
  (fZ:X.N.Nodup) (f6:X.N[i]?=some y) (hy:Loc X.env.scope y) (f7:X.fn y=true\/X.env.scope.names.lookup y=some .local)
  (f9:swapsWith (.ListComp elt [⟨.Name x px,iter,[c],0⟩] scope pos) (some (.Name y pos')) cA.line X.env=pure true) (hx:scope.names.lookup x=some .local:=by rfl) (hs:∀v,foldedSetIterable iter X.env v=pure v:=by intro _;rfl) :
  MS X Er (.Assign [.Name y pos'] (.ListComp elt [⟨.Name x px,iter,[c],0⟩] scope pos) cA) (zZ i (wH src ft fe)):=by
 have hN:([x]++X.N).Nodup:=by rw [eN];exact (ja.mp bH).2
 have eZ:∀cl C aa ag fp E,PG (gL X scope cl [x] C aa ag fp E) (.Name x px) (j8 0):=λcl C aa ag fp E=>wN (X:=gL X scope cl [x] C aa ag fp E) (i:=0) hN rfl (.inl (wv hx)) (.inr (wv hx))
 exact PS.weak (Hv (te:=tM X.K X.mg XN fe) (tt:=iO X.K X.mg XN ft) hc S eN bH hi eZ (λcl C aa ag fp=>sN (fN cl C aa ag fp)) (λcl C aa ag fp=>he cl C aa ag fp) fZ f6 hy f7 f9 hs) λD U H ⟨env,st,ρ,re,rs,h⟩=>by
  refine vA (X:=X) (Er:=Er) (src:=src) (ft:=ft) (fe:=fe) U H (λv H2=>D.nx (U.set i (some v)) H2) ⟨env,st,ρ,re,rs,h.then λaf H1 x ao e1 s1 h1 v rv=>?_⟩
  exact h1.now s1 (U.set i (some v)) ((re.ext e1).set i rv)
@[simp] def vB {src:zc->Mo Sq}{ft:Ak}{fe:Ai}(env:zc) (st:ae):wH src ft fe env st=(src env st).bind λq ao=>iA ft fe env q ao:=(rfl)
end
section
variable {K:Frag}{h:Heap}{mg:Ab}{od:Option Addr}{f:Addr}
def zfO {O t t2:Addr} {wd k1 k2 k3 y:Str} {u1 u2 u3:Tok} {n n2:Nat} {kY:Option Addr} {sl dX:Array (Option Value)} (X:K.In h) (G:h.Ns mainGlobals mg) (e:nsIn K O wd=some (some (.ref t))) (l1:K.lookup t=some ⟨.type "tuple", od,.seq #[.ref t2,.ref f] n,sl⟩)
  (l2:K.lookup t2=some ⟨.type "tuple", kY,.seq #[.str k1 u1,.str k2 u2,.str k3 u3] n2,dX⟩) (a:nsIn K mainGlobals y=some (some (.ref f))):∃u v,nsIn K O wd=some (some u)/\RelV v u/\∀ρ H,R K mg ρ H (.tup [.tup [.str k1,.str k2,.str k3],.fn y]) v:=by
 refine ⟨_,.ref t,e,rfl,iT (xs:=[.tup [.str k1,.str k2,.str k3],.fn y]) (vs:=[.ref t2,.ref f]) l1 rfl (by simp) (.cons rfl (.cons rfl .nil)) fun ρ H=>?_⟩
 exact ⟨_,_,rfl,iT (xs:=[.str k1,.str k2,.str k3]) (vs:=[.str k1,.str k2,.str k3]) l2 rfl (by simp) (.cons ⟨_,rfl⟩ (.cons ⟨_,rfl⟩ (.cons ⟨_,rfl⟩ .nil))) (fun ρ H=>⟨_,_,rfl,rfl,_,_,rfl,rfl,_,_,rfl,rfl,rfl⟩) ρ H,_,_,rfl,⟨f,rfl,mg_of X G a⟩,rfl⟩
end
section
variable {X:Cx}{Er:XK}{pos:Pos}
end
section
variable {X:Cx}{Er:XK}{pos:Pos}
end
section
variable {X:Cx}{Er:XK}{pos pos':Pos}{o i value:Expr}{fo fi fv:Ai}
end
end Mi
namespace L2
open PySem PySem.Spec PyProof.Rows PySem.W
section
variable {X:Cx}
end
end L2
namespace Mi
open PySem L2 PySem.W PySem.Spec
section
variable {X:Cx}{Er:XK}
end
section
variable {X:Cx}{K:Frag}{mg:Ab}
def wj (neg:Bool):Am:=λx y st=>match y with
 | .ref n=>match st[n]? with
  | some (.fdi ks xs)=>match x with
   | .str z=>.ok (.bl (neg.xor ((ks.zip xs).lookup z).isSome)) st
   | _=>.stuck
  | _=>yD neg x y st
 | _=>yD neg x y st
def Hx {neg:Bool}:d_ K mg (pV K mg neg) (wj neg):=by
 intro ρ H st x y v w Q E s rx ry h
 by_cases hy:∃n ks xs,y=.ref n/\st[n]?=some (.fdi ks xs)
 ·obtain ⟨n,ks,xs,rfl,e⟩:=hy
  simp only [wj,e] at h
  cases x with
  | str z =>
   obtain ⟨a,rfl,ha⟩:=ry
   obtain ⟨ob,vs,k1,k2,k3⟩:=s.addr e ha
   cases rx
   refine .inr (.inl ⟨a,(ks.zip vs).lookup z,rfl,.inl ⟨_,Sum.inr z,.inr ⟨ob,k1⟩,rfl,kZ.symm⟩,?_⟩)
   have e:((ks.zip vs).lookup z).isSome=((ks.zip xs).lookup z).isSome:=by
    cases hq:(ks.zip xs).lookup z with
    | some q=>obtain ⟨v,hv,_⟩:=wB k2 hq;rw [hv];rfl
    | none=>exact congrArg Option.isSome (Hl k2.len k3 hq)
   rw [e]
   exact Out.now (x:=PV.bl _) h s _ rfl
  | _=>exact h.elim
 ·refine uK ρ H st x y v w Q E s rx ry ?_
  have:wj neg x y st=yD neg x y st:=by
   unfold wj
   split
   ·rename_i n
    split
    ·rename_i ks xs e;exact absurd ⟨n,ks,xs,rfl,e⟩ hy
    ·rfl
   ·rfl
  rw [this] at h
  exact h
def zfP (hu:X.A.units+200<cLine):bK X .In (wj false):=⟨_,uI hu,Hx⟩
end
end Mi
namespace Mi
open PySem L2 PySem.W
section
variable {α:Type}{g g':Aj}{f fa fb fc:Ai}{fs:Ah}{t ta tb:Ak}{e e1:zc}{st s1 s2 s3:ae}{x y v:PV}{xs:An}{b:Bool}
def zv {X:Res Fl}(h:g e st=.ok (.nx e1) s1) (h':g' e1 s1=X):zA g g' e st=X:=by rw [ur,h,zD,FW,h']
def yH (h:g e st=.ok (.rt v) s1):zA g g' e st=.ok (.rt v) s1:=by rw [ur,h,zD,FX]
def yh {i:Nat}(h:f e st=.ok v s1):zZ i f e st=.ok (.nx (e.set i (some v))) s1:=by rw [FY,h,zD]
def nj (h:f e st=.ok v s1):jC f e st=.ok (.nx e) s1:=by rw [FZ,h,zD]
def ya (h:f e st=.ok v s1):zP f e st=.ok (.rt v) s1:=by rw [F0,h,zD]
def yy {X:Res Fl}(h:t e st=.ok true s1) (h':g e s1=X):zT t g g' e st=X:=by rw [uu,h,zD,zw rfl,h']
def Hy {X:Res Fl}(h:t e st=.ok false s1) (h':g' e s1=X):zT t g g' e st=X:=by rw [uu,h,zD,zC (by simp),h']
def zM (h:t e st=.ok false s1):zT t g zW e st=.ok (.nx e) s1:=Hy h (FV ..)
def zh {i:Nat}(h:e[i]?=some (some v)):zd i e st=.ok v st:=by rw [FC,h]
def zj {op:Am}{X:Res PV}(h:fa e st=.ok x s1) (h':fb e s1=.ok y s2) (h2:op x y s2=X):ze op fa fb e st=X:=by rw [FD,h,zD,h',zD,h2]
def vC {op:PV->Mo PV}{X:Res PV}(h:fa e st=.ok x s1) (h2:op x s1=X):jz op fa e st=X:=by rw [FE,h,zD,h2]
def zR {m:Al}{X:Res PV}(h:fs e st=.ok xs s1) (h2:m xs s1=X):zu m fs e st=X:=by rw [FQ,h,zD,h2]
def lC (h:f e st=.ok x s1) (h':fs e s1=.ok xs s2):zf f fs e st=.ok (x::xs) s2:=by rw [FI,h,zD,h',zD]
def wI:zn e st=.ok [] st:=(rfl)
def zU (h:f e st=.ok x s1):zf f zn e st=.ok [x] s1:=lC h wI
def yi (h:f e st=.ok x s1) (h':fa e s1=.ok y s2):zf f (zf fa zn) e st=.ok [x,y] s2:=lC h (zU h')
def yc (h:fs e st=.ok xs s1) (hl:xs.length<=1000000):zS fs e st=.ok (.tup xs) s1:=by rw [FJ,h,zD,zw hl]
def jF (h:fs e st=.ok xs s1) (hl:xs.length<=1000000):yU fs e st=.ok (.ref s1.length) (s1++[.lst xs]):=by rw [FK,h,zD,zw hl]
def zJ (h:f e st=.ok (.bl b) s1):mB f e st=.ok b s1:=by rw [FF,h,zD,uh]
def yZ (h:ta e st=.ok false s1):yE ta tb e st=.ok false s1:=by rw [uk,h,zD,zC (by simp)]
def yI (h:ta e st=.ok true s1) (h':tb e s1=.ok b s2):yE ta tb e st=.ok b s2:=by rw [uk,h,zD,zw rfl,h']
def vD (h:ta e st=.ok true s1):jO ta tb e st=.ok true s1:=by rw [uo,h,zD,zw rfl]
def lE (h:ta e st=.ok false s1) (h':tb e s1=.ok b s2):jO ta tb e st=.ok b s2:=by rw [uo,h,zD,zC (by simp),h']
def vE (h:ta e st=.ok b s1):iQ ta e st=.ok (!b) s1:=by rw [FG,h,zD]
def vF {X:Res PV}(h:fa e st=.ok (.bl true) s1) (h':fb e s1=X):kN fa fb e st=X:=by rw [FH,h,zD,uh,zD,zw rfl,h']
def ql {lo hi:Option Int}{fl fu:zc->Mo (Option Int)}{X:Res PV}(h:fa e st=.ok x s1) (hl:fl e s1=.ok lo s2) (hu:fu e s2=.ok hi s3) (h':kQ x lo hi s3=X):jB fa fl fu e st=X:=by rw [FL,h,zD,hl,zD,hu,zD,h']
def nk {i:Int}(h:f e st=.ok (.int i) s1):bC f e st=.ok (some i) s1:=by rw [FN,h,zD,FP]
def vG:cP e st=.ok none st:=(rfl)
def nq {op:Am}{n:Nat}{ys:An}{X:Res PV}(h:fa e st=.ok (.ref n) s1) (hl:s1[n]?=some (.lst ys)) (h':fb e s1=.ok y s2) (h2:op (.ref n) y s2=X):jn op fa fb e st=X:=by
 rw [F5,h,zD,F6]
 simp only [z0,hl,zD]
 rw [h',zD,h2]
def qm (i j:Int):z8 (.int i) (.int j) st=.ok (.int (i+j)) st:=(rfl)
def lF (i j:Int):jQ (.int i) (.int j) st=.ok (.int (i-j)) st:=(rfl)
def wn (i j:Int) (h:j≠0):zH (.int i) (.int j) st=.ok (.int (yw i j)) st:=by show (if _ then _ else _)=_;rw [zw (by simpa using h)]
def jG (i j:Int) (h:j≠0) (h2:j.natAbs<2 ^ 200):yl (.int i) (.int j) st=.ok (.int (yK i j)) st:=by
 show (if _ then _ else _)=_
 rw [zw]
 simp only [pA,j0,wx]
 exact ⟨h,h2⟩
def Hz (i j:Int):oLt (.int i) (.int j) st=.ok (.bl (decide (i<j))) st:=(rfl)
def HA (i j:Int):wb (.int i) (.int j) st=.ok (.bl (decide (i<=j))) st:=(rfl)
def HB (i j:Int):wQ (.int i) (.int j) st=.ok (.bl (decide (j<i))) st:=(rfl)
def HC (i j:Int):zQ (.int i) (.int j) st=.ok (.bl (decide (i=j))) st:=by simp [Mi.plain,dep,bg];rfl
def HD (i j:Int):wR (.int i) (.int j) st=.ok (.bl (!decide (i=j))) st:=by simp [Mi.plain,dep,bg];rfl
def HE (i j:Str):zQ (.str i) (.str j) st=.ok (.bl (decide (i=j))) st:=by simp [Mi.plain,dep,bg];rfl
def HF (i j:Str):wR (.str i) (.str j) st=.ok (.bl (!decide (i=j))) st:=by simp [Mi.plain,dep,bg];rfl
def HG (i j:Int) (h:e9 i j=true):ju (.int i) (.int j) st=.ok (.int (i*j)) st:=by rw [GD,zw h]
def yj {m:Nat}{n:Nat}{r:ae}(hl:xs.length=m) (h:g (xs.map some++List.replicate (n-m) none) st=.ok (.rt v) r):yz m n g xs st=.ok v r:=by
 unfold yz
 rw [zw hl,h,zD,F1]
end
end Mi
namespace Mi
open PySem L2 PySem.W PySem.Spec
def vH:Expr->Bool
 | .Starred _ _=>false
 | _=>true
def HH {e:Expr}{es:List Expr}{env:Env}(h:vH e=true):uL e es env:=by cases e<;>first|rfl|cases h
def zo {X:Cx}{Er:XK}{e:Expr}{es:List Expr}{fa:Ai}{fs:Ah}(ha:ME X Er e fa) (hr:MA X Er es fs) (hs:vH e=true:=by rfl):MA X Er (e::es) (zf fa fs):=tN ha hr (HH hs)
section
variable {X:Cx}{K:Frag}{mg:Ab}{Er:XK}{e o:Expr}{pos apos aW:Pos}{fo fa:Ai}{x:Str}{h:Heap}
def HI {zs:Ad} (h:∃a,X.mg x=some (.ref a)/\∀ρ H,R X.K X.mg ρ H (.tup (zs.map PV.str)) (.ref a)) (hg:Gl X x:=by rfl) (hd:(x==("__debug__" : Str))=false:=by decide):ME X Er (.Name x pos) (mC (.tup (zs.map PV.str))):=let ⟨a,h,r⟩:=h;Eg (v:=.ref a) h rfl r hg hd
def f_:List Value->Option (Ad)
 | []=>some []
 | .str z _::r=>(f_ r).map (z::·)
 | _::_=>none
def vI:∀{us:Af}{zs:Ad},f_ us=some zs->Vals (zs.map V.str) us
 | [],zs,h=>by cases h;exact .nil
 | u::us,zs,h=>by
  cases u with
  | str z t =>
   simp only [f_,Option.map_eq_some_iff] at h
   obtain ⟨r,hr,rfl⟩:=h
   exact .cons ⟨_,rfl⟩ (vI hr)
  | _=>cases h
def zmV {a:Addr} {its:Array Value} {n:Nat} {od:Option Addr} {sl:Array (Option Value)} {zs:Ad} (X:K.In h) (G:h.Ns mainGlobals mg) (e:nsIn K mainGlobals x=some (some (.ref a))) (l:K.lookup a=some ⟨.type "tuple", od,.seq its n,sl⟩) (hz:f_ its.toList=some zs) (hs:its.size<=sizeLine) :
  ∃a,mg x=some (.ref a)/\∀ρ H,R K mg ρ H (.tup (zs.map PV.str)) (.ref a) :=
 ⟨a,mg_of X G e,fun ρ H=>⟨a,zs.map V.str,rfl,.inr ⟨_,its,n,l,rfl,rfl,hs,vI hz⟩,p_⟩⟩
end
end Mi
namespace PySem
section
variable {M:Model}{A:Around}{E:Aa}
variable {nm q Li q':Str}{C N B N':Addr}{bs bm lG Lj:Af}{fC HJ:Bool}{sn Lk:Ad}{sub Kr:Af}{ab Ll:Bool}{col Ks:Option Bool}{dd gp:Option Addr}{k0 k1 k2 k3 k5 Lm Ln Lo Lp Lq:Option Value}{newId AJ:String}
end
end PySem
namespace L2
open PySem PySem.Spec PyProof.Rows PySem.W
structure HK (K:Frag) (C B:Addr):Prop where
 of:tH K C
 sub:mroIn K C (.ref B)=some true
end L2
namespace Mi
open PySem L2 PySem.W PySem.Spec
section
variable {X:Cx}{Er:XK}{pos:Pos}
end
end Mi
namespace L2
open PySem PySem.Spec PyProof.Rows PySem.W
end L2
namespace Mi
open PySem L2 PySem.W PySem.Spec
section
variable {X:Cx}{Er:XK}{pos:Pos}{o:Expr}{cL:List Stmt}{gb:Aj}{fo:Ai}{fs:Ah}
end
end Mi
namespace L2
open PySem PySem.Spec PyProof.Rows PySem.W PySem.Builtin PySem.Builtin.ObjectAttr
end L2
namespace Mi
open PySem L2 PySem.W PySem.Spec
section
variable {K:Frag}{mg:Ab}{h:Heap}{C:Addr}
end
section
variable {P:Program}{W:World}{A:Around}{s:Shared}
end
section
variable {X:Cx}{K:Frag}{mg:Ab}{ρ:Ae}{pins:Ac}{U:L2.St}{H:Hp}{s:Shared}{st:ae}
end
section
variable {X:Cx}{K:Frag}{mg:Ab}{Er:XK}{e o:Expr}{es:List Expr}{pos p apos:Pos}{fs:Ah}{fo fa:Ai}
end
end Mi
namespace Mi
open PySem L2 PySem.W PySem.Spec PyProof.Rows
def cJ (a b:Str):Bool:=decide (a.cps.toList<=b.cps.toList)
def bz (ks:Ad):Ad:=ks.mergeSort cJ
def vJ (a b c:Str) (h:cJ a b=true) (h':cJ b c=true):cJ a c=true:=by
 unfold cJ at *
 rw [wx] at *
 exact List.le_trans h h'
def HL (a b:Str):(cJ a b||cJ b a)=true:=by
 unfold cJ
 rw [Bool.or_eq_true,wx,wx]
 exact List.le_total _ _
def HM {a b:Str}(h:cJ a b=true) (h':cJ b a=true):a=b:=by
 unfold cJ at *
 rw [wx] at *
 have:=List.le_antisymm h h'
 cases a;cases b
 simp only at this
 rw [Str.mk.injEq]
 exact Array.toList_inj.mp this
def vK:∀(l:Ad) (p:Str),risingS p l=true->(∀x∈l,cJ p x=true)/\l.Pairwise (λa b=>cJ a b=true)
 | [],p,_=>⟨(λx h=>by cases h),.nil⟩
 | q::r,p,h=>by
  have e:risingS p (q::r)=(!Spec.ltCps q.cps.toList p.cps.toList&&risingS q r):=rfl
  rw [e,j0,Bool.not_eq_true',ltCps_eq,decide_eq_false_iff_not,List.not_lt] at h
  obtain ⟨h1,h2⟩:=vK r q h.2
  have pq:cJ p q=true:=by unfold cJ;rw [wx];exact h.1
  refine ⟨λx hx=>?_,.cons h1 h2⟩
  rcases yv.mp hx with rfl|hx
  ·exact pq
  ·exact vJ _ _ _ pq (h1 x hx)
def HN {l:Ad}(h:sortedS l=true):l.Pairwise (λa b=>cJ a b=true):=by
 cases l with
 | nil=>exact .nil
 | cons p r=>obtain ⟨h1,h2⟩:=vK r p h;exact .cons h1 h2
def HP {ks ss:Ad}(hp:ss.Perm ks) (hs:sortedS ss=true):ss=bz ks :=
 List.Perm.eq_of_pairwise (le:=λa b=>cJ a b=true) (λa b _ _ h h'=>HM h h') (HN hs) (List.pairwise_mergeSort vJ HL ks) (hp.trans (List.mergeSort_perm ks cJ).symm)
section
variable {prog:Program}{w:World}{A:Around}{E:Aa}{s:Shared}
def HQ {h:Heap} {a:Addr} {vs:Af} {n:Nat} (ho:h.get? a=some (seqObj "list" vs.toArray n)) (out:Array Value):∃e,(sortedHeap h a vs out).get? a=some (seqObj "list" out e):=by
 have ha:=zY ho
 have h1:=get?_update_seq ho (λ_=>#[])
 have h2:(((h.update a (Obj.mapSeq λ_=>#[])).push (seqObj "tuple" vs.toArray 0)).push (seqObj "list" #[] 0)).get? a=some (seqObj "list" #[] (if ((#[]:Array Value).size==vs.toArray.size)=true then n else n+1)):=z7 _ (z7 _ h1)
 exact ⟨_,get?_update_seq h2 (λ_=>out)⟩
def HR {h:Heap}{a:Addr}{vs:Af}{out:Array Value}{b:Addr}{o:Obj}(hb:b≠a) (e:h.get? b=some o):(sortedHeap h a vs out).get? b=some o:=by
 unfold sortedHeap
 rw [Heap.get?_update_ne _ _ _ _ hb]
 refine z7 _ (z7 _ ?_)
 rw [Heap.get?_update_ne _ _ _ _ hb]
 exact e
def HS {K:Type} [DecidableEq K] {knd:KeyKind prog w K}{d:Addr}{kvs:List (K×Value)}{ep:Nat}{ss:Ad}{Q:Aa}(hh:A.handled=none) (lo:(d==sysModules)=false) (fW:s.heap.DictAt knd d kvs ep) (vL:kvs.length<64)
  (hS:∀vs:Af,vs.length=kvs.length->(∀(j:Nat) (v:Value),vs[j]?=some v->∃k x,kvs[j]?=some (k,x)/\knd.is k v=true)->StrsAre vs ss)
  (h:∀(h1 h2:Heap) (tk:Nat) (out:Af) (e:Nat),(∀b o,s.heap.get? b=some o->h1.get? b=some o)->(∀b o,h1.get? b=some o->h2.get? b=some o)->h2.get? h1.objs.size=some (seqObj "list" out.toArray e)->StrsAre out (bz ss)->Q (.ref h1.objs.size) { s with heap:=h2,toks:=tk }) :
  wpAny (model prog w) A (call (.builtin "sorted") [.ref d]) Q E s:=by
 refine Calls.call_function_entry kind_sorted plain_sorted entry_sorted (args_sorted1 _) ?_
 unfold Builtin.«sorted»
 refine zq (m:=checkCount "sorted" 1 1 _) (zE ?_)
 refine zq (kdu_collect (A:=A.in1) (kdl_dict (knd:=knd) (kvs:=kvs) (ep:=ep) lo) hh fW (by rw [sizeLine_eq];omega) λh' tk acc hk cy=>?_)
 have hl:acc.toList.length=kvs.length:=by rw [Array.length_toList];exact cy.1
 refine zq (wpAny_newList ?_ (by rw [hl,sizeLine_eq];omega))
 have qo:=hS acc.toList hl (λj v e=>cy.2 j v (by rw [<-Array.getElem?_toList];exact e))
 have kg:(h'.push (seqObj "list" acc.toList.toArray 0)).get? h'.objs.size=some (seqObj "list" acc.toList.toArray 0):=yR _ rfl
 refine zq (jo (j7 (s:={ s with heap:=h'.push (seqObj "list" acc.toList.toArray 0),toks:=tk }) slot_list_sort ⟨_,kg,rfl⟩ entry_list_sort (list_sort_treeK (s:={ s with heap:=h'.push (seqObj "list" acc.toList.toArray 0),toks:=tk }) strKind_oneLt kg qo.keysOf (λaP aM rest e=>keyKind_strs (by rw [<-e];exact qo)) (by rw [hl];exact vL) λaU a1 a2=>⟨_,rfl,?_⟩) (args_list_sort _)))
 obtain ⟨Ls,q1,q2,q3⟩:=sorted_out_str qo a1 a2
 obtain ⟨e,he⟩:=HQ kg ((arrOf aU).map (·.2))
 rw [HP q2 q3] at q1
 exact zE ⟨_,rfl,h h' _ tk _ e hk (λb o eb=>HR (yt (zY eb)) (z7 _ eb)) he q1⟩
end
section
variable {X:Cx}{Er:XK}
def vM:∀{out:Af}{ss:Ad},StrsAre out ss->Vals (ss.map V.str) out
 | _,_,.nil=>.nil
 | _,_,.cons y t h=>.cons ⟨t,rfl⟩ (vM h)
def HU:List V->Hp->VK->Prop:=λxs H Q=>∃a ks ws,xs=[.ref a]/\H a=some (.dK (kz ks ws))/\ks.length=ws.length/\ks.length<64/\∀l,H l=none->Q (.ref l) (upd H l (.lst ((bz ks).map V.str)))
def HV {ks:Ad}{ws:List V}{kv:List (Key×Value)}(hl:ks.length=ws.length) (r:KV (kz ks ws) kv) {vs:Af}(hlen:vs.length=kv.length) (h:∀(j:Nat) (v:Value),vs[j]?=some v->∃k x,kv[j]?=some (k,x)/\cK k v=true):StrsAre vs ks:=by
 induction ks generalizing ws kv vs with
 | nil =>
  cases ws with
  | nil =>
   cases r
   cases vs with
   | nil=>exact .nil
   | cons v vs=>simp at hlen
  | cons w ws=>simp at hl
 | cons k ks ih =>
  cases ws with
  | nil=>simp at hl
  | cons w ws =>
   obtain ⟨u,qf,rfl,h1,h2⟩:=u_ r
   cases vs with
   | nil=>simp at hlen
   | cons v vs =>
    obtain ⟨k',x,e,hk⟩:=h 0 v rfl
    cases e
    rcases jy hk with ⟨i,t,e1,_⟩|⟨y,t,e1,e2⟩
    ·cases e1
    ·cases e1
     subst e2
     exact .cons _ _ (ih (by simpa using hl) h2 (by simpa using hlen) λj v hj=>h (j+1) v (by simpa using hj))
def HW (hc:X.calm=true):bj X (.builtin "sorted") HU:=by
 intro pins s U H xs us Q I r h
 obtain ⟨a,ks,ws,rfl,ha,hl,vL,q⟩:=h
 obtain ⟨u,rfl,ru⟩:=r.one
 obtain rfl:u=Value.ref a:=ru
 obtain ⟨hz,lo,kv,gX,hd⟩:=jg I.hok (.inl ha)
 obtain ⟨ep,fW⟩:=hd.dictAt
 have lk:kv.length=ks.length:=by rw [<-gX.length];simp [kz,hl]
 refine HS (knd:=a0 X.prog X.w) (I.ok.hd hc) lo fW (by omega) (λvs hlen hv=>HV hl gX hlen hv) λh1 h2 tk out e k1 k2 he hs=>?_
 have I1:Inv X pins U H { s with heap:=h1,toks:=tk }:=I.kept (t':=tk) k1
 have hn:H h1.objs.size=none:=I1.hok.fresh (zI _)
 have lv:((bz ks).map V.str).length<=sizeLine:=by
  rw [ji,sizeLine_eq]
  unfold bz
  rw [List.length_mergeSort]
  omega
 exact ⟨.ref h1.objs.size,_,I1.laid (t':=tk) k2 (zI _) (show aX X.prog X.w _ h2 _ (.lst ((bz ks).map V.str)) from ⟨lv,out,e,vM hs,he⟩),rfl,q _ hn⟩
def nr:Al:=λxs st=>match xs with
 | [.ref n]=>yY st n λks _=>if ks.length<64 then .ok (.ref st.length) (st++[.lst ((bz ks).map PV.str)]) else .stuck
 | _=>.stuck
def HX:bootBuiltins "sorted" = some (.builtin "sorted"):=by decide +kernel
end
section
variable {prog:Program}{w:World}{A:Around}{E:Aa}{s:Shared}
end
section
variable {prog:Program}{w:World}{A:Around}{E:Aa}{s:Shared}
end
section
variable {X:Cx}{Er:XK}{o:Expr}{fo:Ai}{p pos kp cp:Pos}{j:Nat}
def vN {K:Frag}{mg:Ab}{ρ:Ae}{H:Hp}:∀zs:Ad,Rs K mg ρ H (zs.map PV.str) (zs.map V.str)
 | []=>rfl
 | z::zs=>⟨_,_,rfl,rfl,vN zs⟩
def HY (hc:X.calm=true):bT X (.builtin "sorted") nr:=⟨_,HW hc,fun ρ H st xs vs Q E s r h=>by
 unfold nr at h
 match xs,h with
 | [.ref n],h =>
  obtain ⟨ks,xs,hn,h⟩:=pj h
  obtain ⟨v,rfl,rv⟩:=r.one
  obtain ⟨a,ws,rfl,ha,k1,k2,k3⟩:=R.refD s rv hn
  obtain ⟨c,h⟩:=Out.ifp h
  refine ⟨a,ks,ws,rfl,k1,k3,c,λl hl=>?_⟩
  have ep:Ext ρ H (ρ++[l]) (upd H l (.lst ((bz ks).map V.str))):=Ext.push hl
  exact h _ _ ep (s.push hl ⟨_,yx,vN _⟩) _ ⟨l,rfl,by rw [<-s.len];simp⟩⟩
end
section
variable {X:Cx}{Er:XK}
end
end Mi
namespace Mi
open PySem L2 PySem.W PySem.Spec
end Mi
namespace HT
open PySem PySem.Spec PyProof.Rows
section
variable {prog:Program}{w:World}{A:Around}{E:Aa}{s:Shared}
end
end HT
namespace Mi
open PySem L2 PySem.W PySem.Spec PyProof.Rows
section
variable {X:Cx}{K:Frag}{mg:Ab}{Er:XK}{e k:Expr}{p2 pos:Pos}{fa:Ai}{fk:zc->Mo (Option Int)}
end
section
variable {X:Cx}{K:Frag}{mg:Ab}{Er:XK}
end
end Mi
namespace Mi
open PySem L2 PySem.W PySem.Spec
section
variable {X:Cx}{Er:XK}{pos:Pos}
def HZ {elt iter c:Expr} {x:Str} {px:Pos} {scope:Scope} {src:zc->Mo Sq} {ft:Ak} {fe:Ai} {M:Ad} (hc:X.calm=true) (S:cx X.env.scope scope [x]) (eN:Hid scope M X.N) (bH:((".0" : Str)::([x]++M)).Nodup)
  (hi:MI X Er (.Name x px) iter src) (fN:∀cl C aa ag fp,MT (bR X M scope cl [x] C aa ag fp (λ_ _=>False)) XN c ft) (he:∀cl C aa ag fp,ME (bR X M scope cl [x] C aa ag fp (λ_ _=>False)) XN elt fe)
  (hx:scope.names.lookup x=some .local:=by rfl) (hs:∀v,foldedSetIterable iter X.env v=pure v:=by intro _;rfl):ME X Er (.ListComp elt [⟨.Name x px,iter,[c],0⟩] scope pos) (wH src ft fe):=by
 have hN:([x]++M).Nodup:=(ja.mp bH).2
 have eZ:∀cl C aa ag fp E,PG (bR X M scope cl [x] C aa ag fp E) (.Name x px) (j8 0):=λcl C aa ag fp E=>wN (X:=bR X M scope cl [x] C aa ag fp E) (i:=0) hN rfl (.inl (wv hx)) (.inr (wv hx))
 exact PE.weak (sQ (te:=tM X.K X.mg XN fe) (tt:=iO X.K X.mg XN ft) hc S eN bH hi eZ (λcl C aa ag fp=>sN (fN cl C aa ag fp)) (λcl C aa ag fp=>he cl C aa ag fp) hs) λU H Q hh=>vA U H Q hh
end
end Mi
namespace L2
open PySem PySem.Spec PyProof.Rows PySem.W
def H8 (l:Addr) (its:Array Value) (n:Nat) (b:Addr) (o:Obj) (us:Array Value) (k:Nat) (eO:¬(!its.isEmpty&&Builtin.List.listTooLong (its.size+us.size))=true) (hz:its.size+us.size<=sizeLine) :
  Meets (Builtin.«list.extend» ⟨[.ref l,.ref b],[]⟩) λ_ R s=>s.heap.get? l=some { cls:=.type "list", data:=.seq its n }/\(s.heap.get? b=some o/\o.cls=.type "tuple" /\ o.data=.seq us k)/\R (.ok (.ret .none)) { s with heap:=s.heap.update l (Obj.mapSeq (·++us)) }:=by
 intro prog w A R s ⟨hS,⟨ho,hc,hd⟩,hR⟩
 show wpAny _ A.in1 (Builtin.List.listExtendWith (.ref l) (.ref b) .none) _ _ s
 unfold Builtin.List.listExtendWith
 refine zq (wpAny_typeOf ⟨o,ho,hc⟩ ?_)
 have h1:(Builtin.List.listSameRef (.ref l) (.ref b)||Value.type "tuple" == Value.type "list" || Value.type "tuple" == Value.type "tuple")=true:=by simp
 simp only [h1,jX]
 unfold Builtin.List.listItems
 refine zq (zq (wpAny_seqItems ho hd (zE (zq (zq (wpAny_seqItems hS rfl (zE ?_)))))))
 rw [zC eO]
 show wpAny _ A.in1 (updateSeq l (·++us) >>= λ_=>ret .none) _ _ s
 exact zq (wpAny_updateSeq hS rfl (zE hR) (by show its.size<=sizeLine;omega))
def H9 (K:Frag):V->List V->Hp->VK->Prop:=λx vs H Q=>∃l b xs zs,x=.ref l/\vs=[.ref b]/\H l=some (.lst xs)/\bt K H b zs/\xs.length+zs.length<=sizeLine/\Q .non (upd H l (.lst (xs++zs)))
def znb {X:Cx}:mm X "list.extend" λx vs H Q=>sA x vs H Q\/H9 X.K x vs H Q:=by
 intro pins s U H x vs v us Q I rx rv h
 rcases h with h|h
 ·exact zd3 pins s U H x vs v us Q I rx rv h
 ·obtain ⟨l,b,xs,zs,rfl,rfl,hH,hB,hz,q⟩:=h
  cases rx
  obtain ⟨u,rfl,ru⟩:=rv.one
  cases ru
  obtain ⟨z,its,n,r,hl,e⟩:=I.lstM hH
  obtain ⟨aQ,r2,⟨o,ho,hc,k,hd⟩,_⟩:=I.tuple hB
  have hl2:=r2.length
  have hsz:its.toArray.size+aQ.toArray.size<=sizeLine:=by rw [yr,yr];omega
  have eO:¬(!its.toArray.isEmpty&&Builtin.List.listTooLong (its.toArray.size+aQ.toArray.size))=true:=by
   rw [fB hsz,Bool.and_false]
   exact Bool.false_ne_true
  refine call_meets F.slot_list_extend ⟨_,e,rfl⟩ F.entry_list_extend (F.args_list_extend_2 _ _) (H8 l its.toArray n b o aQ.toArray k eO hsz) ⟨e,⟨ho,hc,hd⟩,?_⟩
  refine ⟨.non,_,I.lset (its':=its++aQ) hH e (by simp) (r.append r2) ?_,rfl,q⟩
  rw [jW]
  omega
end L2
namespace Mi
open PySem L2 PySem.W PySem.Spec
section
variable {X:Cx}{Er:XK}{e o:Expr}{apos:Pos}{fo fa:Ai}
def w6:Am
 | .ref n,.tup ys,st=>z0 st n λxs=>if xs.length+ys.length<=lim then .ok .non (st.set n (.lst (xs++ys))) else .stuck
 | x,y,st=>kW x y st
def zf0 {aW:Pos} (ho:ME X Er o fo) (he:ME X Er e fa) (cj:attributeBase o "extend" X.env (eval o X.env)=eval o X.env:=by rfl)
  (eM:((backTo aW (starEach [e] X.env)).all (λx=>!x.1)&&(backToKw aW (keywordEach [] X.env)).all (λx=>x.1.isSome)&&decide ([e].length+([]:List Keyword).length+(if ([]:List Keyword).isEmpty then 0 else 1)<30))=true:=by rfl)
  (ck:(apos.endLine==aW.line)=true:=by rfl) (hs:starEach [e] X.env=(false,eval e X.env)::starEach [] X.env:=by rfl) (bu:(backTo aW (starEach [] X.env)).any (·.1)=false:=by rfl):ME X Er (.Call (.Attribute o "extend" apos) [e] [] aW) (jn w6 fo fa) :=
 PE.weak (oG PySem.F.plainAttrs_list PySem.F.slot_list_extend PySem.F.type_list_extend znb ho (mi he mh hs) cj eM ck hs bu) λU H Q ⟨env,st,ρ,re,rs,h⟩=>⟨env,st,ρ,re,rs,h.then λaf H1 x ao e1 s1 h1 v rv=>by
  obtain ⟨n,xs,rfl,hn,h1⟩:=pO h1
  obtain ⟨p,vs,rfl,hp,k1,k2⟩:=R.refL s1 rv hn
  refine ⟨.inl ⟨rfl,vs,a3.of k1⟩,env,ao,af,re.ext e1,s1,h1.then λar H2 y aA e2 s2 h2 w rw=>?_⟩
  cases y with
  | ref m =>
   obtain ⟨mX,dg,h2⟩:=yO h2
   obtain ⟨Fu,pP,h2⟩:=yO h2
   obtain ⟨c,h2⟩:=Out.ifp h2
   obtain ⟨p',dj,e3,fQ,k3,k4⟩:=R.refL s2 (R.ext e2 _ rv) dg
   cases e3
   obtain ⟨q,e_,rfl,uc,k5,k6⟩:=R.refL s2 rw pP
   have ew:Ext ar H2 ar (upd H2 p (.lst (dj++e_))):=Ext.write k3 rfl
   exact .inl ⟨p,q,dj,e_,rfl,rfl,k3,k5,by rw [<-k4.len,<-k6.len];exact yJ c,h2 ar _ ew (s2.write fQ ew ⟨dj++e_,yx,Rs.ext ew _ (k4.append k6)⟩) _ rfl⟩
  | tup ys =>
   obtain ⟨mX,dg,h2⟩:=yO h2
   obtain ⟨c,h2⟩:=Out.ifp h2
   obtain ⟨p',dj,e3,fQ,k3,k4⟩:=R.refL s2 (R.ext e2 _ rv) dg
   cases e3
   obtain ⟨q,e_,rfl,k5,k6⟩:=rw
   have ew:Ext ar H2 ar (upd H2 p (.lst (dj++e_))):=Ext.write k3 rfl
   exact .inr ⟨p,q,dj,e_,rfl,rfl,k3,k5,by rw [<-k4.len,<-k6.len];exact yJ c,h2 ar _ ew (s2.write fQ ew ⟨dj++e_,yx,Rs.ext ew _ (k4.append k6)⟩) _ rfl⟩
  | _=>exact h2.elim⟩
end
end Mi
namespace L2
open PySem PySem.Spec PyProof.Rows PySem.W Mi
section
variable {X:Cx}{pins:Ac}{U:St}{H H':Hp}{s:Shared}{a b:Addr}{its:List (List Key×Addr×Value)}{k:List Key}{A:Around}{E:Aa}{r:Value}
end
end L2
namespace Mi
open PySem L2 PySem.W PySem.Spec
section
variable {X:Cx}{Er:XK}{K:Frag}{mg:Ab}{ρ:Ae}{H:Hp}{st:ae}{pos pos':Pos}{o:Expr}
end
section
variable {X:Cx}{Er:XK}{K:Frag}{mg:Ab}{ρ:Ae}{H:Hp}{st:ae}{pos pos':Pos}{o:Expr}
end
section
variable {X:Cx}{K:Frag}{mg:Ab}{ρ:Ae}{H:Hp}{st:ae}
end
end Mi
namespace L2
open PySem PySem.Spec PyProof.Rows PySem.W
end L2
namespace Mi
open PySem L2 PySem.W PySem.Spec
section
variable {X:Cx}{Er:XK}{fs:Ah}{pos:Pos}
end
section
variable {X:Cx}{Er:XK}{pos:Pos}{cL:List Stmt}{gb:Aj}{fs:Ah}
end
section
variable {X:Cx}
end
end Mi
namespace L2
open PySem PySem.Spec PyProof.Rows PySem.W
section
variable {X:Cx}{e:Expr}{te td ty:TE}{tv:TX}
end
end L2
namespace Mi
open PySem L2 PySem.W PySem.Spec
section
variable {X:Cx}{Er:XK}{e o i:Expr}{pos pos' p:Pos}{f fo fi fv:Ai}{k:Nat}{m:Al}
end
section
variable {X:Cx}{Er:XK}{pos:Pos}{fs:Ah}
end
end Mi
namespace PySem
open Sem (wp)
section
variable {prog:Program}{w:World}{A:Around}{E:Aa}{s:Shared}
variable {I:Addr}{fp wr:Ae}{G:Array GenState->Array GenState->Prop}{n:Nat}{P:Nat->Value->Prop}{St:Nat->Shared->Prop}
end
end PySem
namespace L2
open PySem PySem.Spec PyProof.Rows PySem.W
section
variable {X:Cx}
end
end L2
namespace Mi
open PySem L2 PySem.W PySem.Spec
section
variable {X:Cx}{Er:XK}{pos aW apos:Pos}{fs:Ah}{o e f:Expr}{fo fk fx:Ai}
end
end Mi
namespace PySem
namespace Rt
end Rt
def Heap.IsRevT (h:Heap) (a l:Addr) (i:Int):Prop:=∃o,h.get? a=some o/\o.cls=.type "reversed" /\ o.data=.fields #[.ref l,rawInt i]
section
open PyProof.Rows
variable {prog:Program}{w:World}{A:Around}{E:Aa}{s:Shared}
def Heap.IsRevT.at {h h':Heap}{a l:Addr}{i:Int}(x:h.IsRevT a l i) (e:∀o,h.get? a=some o->h'.get? a=some o):h'.IsRevT a l i:=let ⟨o,ho,r⟩:=x;⟨o,e _ ho,r⟩
end
end PySem
namespace L2
open PySem PySem.Spec PyProof.Rows PySem.W
end L2
namespace Mi
open PySem L2 PySem.W PySem.Spec
section
variable {X:Cx}{Er:XK}{pos:Pos}{fs:Ah}{gb:Aj}{cL:List Stmt}
end
end Mi
namespace L2
open PySem PySem.Spec PyProof.Rows PySem.W
end L2
namespace Mi
open PySem L2 PySem.W PySem.Spec
section
variable {X:Cx}{Er:XK}{pos:Pos}
end
end Mi
abbrev Mi.At (n:Nat):Option Mi.PV:=some (.ref n)
abbrev Mi.Au (n:Nat):Option Mi.PV:=some (.int n)
abbrev Mi.Ar (i:Int):=Mi.mC (.int i)
abbrev Mi.As (z:PySem.Str):=Mi.mC (.str z)
namespace FK52
open PySem L2 PySem.W Mi
def top (i:Nat):Stmt:=PySem.Challenge.pw_foreknown_k52_roots_are_where_pieces_com.main.body.getD i (.Pass ⟨0,0,0,0⟩)
abbrev vO:Stmt:=top 44
abbrev vP:Stmt:=top 46
abbrev zcU:Stmt:=top 47
abbrev vQ:Stmt:=top 48
abbrev vR:Stmt:=top 50
abbrev zcV:Stmt:=top 51
abbrev zcW:Stmt:=top 49
abbrev za1:Stmt:=top 52
abbrev vS:Stmt:=inClass (top 33) 2
abbrev vT:Stmt:=inClass (top 33) 0
abbrev vU:Stmt:=top 34
abbrev vV:Stmt:=top 40
abbrev vW:Stmt:=top 41
abbrev vX:Stmt:=top 37
abbrev vY:Stmt:=top 36
abbrev vZ:Stmt:=top 39
abbrev v3:Stmt:=top 42
abbrev zbL:Stmt:=top 53
def insOf (c:Str):Bool:=decide (c = "Op")
def excOf (c:Str):Bool:=false
abbrev ct_FALLING:Ad:=["down", "head", "rest", "item", "field"]
def isT:IsT where
 isx c:=false
 sub c B :=  none
 subT c n :=  none
 tyC _ _:=none
def w8:Ad:=["add", "sub", "mul", "div", "rem", "less", "same", "down", "kind", "front", "head", "rest", "many", "item", "put", "field", "set"]
def w9:An:=[.tup [.tup [.str "number", .str "number"],.fn "tell_add"],.tup [.tup [.str "number", .str "number"],.fn "tell_sub"],.tup [.tup [.str "number", .str "number"],.fn "tell_mul"],.tup [.tup [.str "number", .str "number"],.fn "tell_div"],.tup [.tup [.str "number", .str "number"],.fn "tell_rem"],.tup [.tup [.str "number", .str "number"],.fn "tell_less"],.tup [.tup [.str "any", .str "any"],.fn "tell_same"],.tup [.tup [.str "number"],.fn "tell_down"],.tup [.tup [.str "any"],.fn "tell_kind"],.tup [.tup [.str "any", .str "row"],.fn "tell_front"],.tup [.tup [.str "row"],.fn "tell_head"],.tup [.tup [.str "row"],.fn "tell_rest"],.tup [.tup [.str "row"],.fn "tell_many"],.tup [.tup [.str "row", .str "number"],.fn "tell_item"],.tup [.tup [.str "row", .str "number", .str "any"],.fn "tell_put"],.tup [.tup [.str "record", .str "word"],.fn "tell_field"],.tup [.tup [.str "record", .str "word", .str "any"],.fn "tell_set"]]
abbrev zcX:Bool:=true
structure Txt (w:World) (K:Frag) (mg:Ab):Prop where
 f__law_at:FnF K mg "_law_at" vO ["_law_script", "_law_k"]
 f__law_name:FnF K mg "_law_name" vP ["_law_seed", "_law_k"]
 f__law_value:FnF K mg "_law_value" zcU ["_law_cell"]
 f__law_number:FnF K mg "_law_number" vQ ["_law_thing"]
 f__law_fall:FnF K mg "_law_fall" vR ["_law_value_here", "_law_cell"]
 f__law_step:FnF K mg "_law_step" zcV ["_law_cell", "_law_name_here", "_law_things"]
 f__law_is_piece:FnF K mg "_law_is_piece" zcW ["_law_one", "_law_whole"]
 f__law_fits:FnF K mg "_law_fits" za1 ["_law_found", "_law_name_here", "_law_things", "_law_params", "_law_steps"]
 m_Op_falls:MtF K mg "Op" "falls" "Op.falls" vS ["self"]
 n_Op:NwF K mg "Op" "Op.__init__" vT ["self", "word"]
 f_op_of:FnF K mg "op_of" vU ["word"]
 f_is_falling:FnF K mg "is_falling" vV ["step"]
 f_root_among:FnF K mg "root_among" vW ["steps", "atom"]
 f_lines_of:FnF K mg "lines_of" vX ["block"]
 f_is_step:FnF K mg "is_step" vY ["line"]
 f_steps_by_name:FnF K mg "steps_by_name" vZ ["function"]
 f_root:FnF K mg "root" v3 ["function", "atom"]
 f_law:FnF K mg "law" zbL ["_law_script"]
 b_any:mg "any" = none
 b_dict:mg "dict" = none
 b_enumerate:mg "enumerate" = none
 b_int:mg "int" = none
 b_isinstance:mg "isinstance" = none
 b_len:mg "len" = none
 b_list:mg "list" = none
 b_min:mg "min" = none
 b_range:mg "range" = none
 b_sorted:mg "sorted" = none
 b_str:mg "str" = none
 b_sum:mg "sum" = none
 b_tuple:mg "tuple" = none
 ct_FALLING:∃a,mg "FALLING" = some (.ref a)/\∀ρ H,R K mg ρ H (.tup (List.map PV.str ct_FALLING)) (.ref a)
 d_many:FldF K mg "many" insOf excOf
 d_word:FldF K mg "word" insOf excOf
 is:IsF K mg isT
 kd_OPS:∀X:Cx,X.K=K->X.mg=mg->X.w=w->KdF X "OPS" w8 w9 zcX
section
variable {P:Program}{w:World}{K:Frag}{mg:Ab}{base:Heap}
set_option hygiene false in
local macro_rules
|`(tactic|exact $s:str)=>do
 let ts<-(s.getString.splitOn " ").toArray.mapM λ(w:String)=>do
  let p:=(w.drop 1).toString
  let i:Lean.TSyntax `term:=if p.all Char.isDigit then ⟨(Lean.Syntax.mkNumLit p).raw⟩ else ⟨(Lean.mkIdent p.toName).raw⟩
  match w.toList.headD 'a' with
  |'a'=>`(tactic|refine $i ?_ ?_)
  |'b'=>`(tactic|exact (zg $i))
  |'c'=>`(tactic|exact $i)
  |'d'=>`(tactic|refine $i ?_)
  |'e'=>`(tactic|refine zx $i ?_ ?_)
  |'f'=>`(tactic|refine zO ?_ ?_ ?_ ?_)
  |'g'=>`(tactic|exact λ_ _=>rfl)
  |'h'=>`(tactic|exact ($i (zy hr)))
  |'i'=>`(tactic|refine yP ($i T) (hr.mono (by decide)) yN ?_)
  |'j'=>`(tactic|refine z9 ($i (zy hr)) ?_ ?_)
  |'k'=>`(tactic|refine yo ?_ ?_ ?_)
  |'l'=>`(tactic|refine yu $i ?_ ?_)
  |'m'=>`(tactic|refine zo ?_ ?_)
  |'n'=>`(tactic|refine yG jv T.b_len js ?_)
  |'o'=>`(tactic|exact zp)
  |'p'=>`(tactic|refine yG (wU T.is) T.b_isinstance wW ?_)
  |'q'=>`(tactic|exact zt)
  |'r'=>`(tactic|refine z9 $i ?_ ?_)
  |'s'=>`(tactic|refine zG ?_ ?_)
  |'t'=>`(tactic|intro _ _ _ _ _)
  |'u'=>`(tactic|refine zN ?_)
  |'v'=>`(tactic|refine En ($i (zy hr)) ?_ ?_)
  |'w'=>`(tactic|refine F9 ?_ ?_ ?_ ?_ ?_)
  |'x'=>`(tactic|refine $i (wP rfl rfl) rfl ?_ ?_ ?_)
  |'y'=>`(tactic|refine wS EL T.b_tuple wD ?_)
  |'z'=>`(tactic|exact zX)
  |'A'=>`(tactic|exact (zg 0))
  |'B'=>`(tactic|refine z6 ?_)
  |'C'=>`(tactic|refine GJ ?_ (by simp) (by decide))
  |'D'=>`(tactic|exact (wT T.b_tuple wD))
  |'E'=>`(tactic|refine zx z5 ?_ ?_)
  |'F'=>`(tactic|refine yd ?_)
  |'G'=>`(tactic|exact yn)
  |'H'=>`(tactic|refine EI ?_ ?_ ?_)
  |'I'=>`(tactic|exact (ye (zy hr)))
  |'J'=>`(tactic|exact (zy hr))
  |'K'=>`(tactic|refine Fp T.b_range ?_)
  |'L'=>`(tactic|refine yP ($i T) (hr.mono (by decide)) Gb ?_)
  |'M'=>`(tactic|exact (zg 1))
  |'O'=>`(tactic|exact ⟨rfl,by decide +kernel,by decide +kernel,rfl,by show ∀y:Str×NameKind,y∈_->y.2=NameKind.free->List.lookup y.1 (zL $i).names=some NameKind.cell;decide +kernel⟩)
  |'P'=>`(tactic|exact ⟨rfl,by decide +kernel,by decide +kernel,by show ∀y:Str×NameKind,y∈_->y.2=NameKind.free->List.lookup y.1 (zL $i).names=some NameKind.cell;decide +kernel⟩)
  |'R'=>`(tactic|first|exact Or.inl rfl|exact Or.inr rfl)
  |'S'=>`(tactic|first|exact .inl rfl|exact .inr rfl|assumption)
  |'N'=>`(tactic|exact ⟨rfl,rfl,rfl,by decide +kernel,rfl,by decide +kernel,by decide +kernel⟩)
  |_=>Lean.Macro.throwUnsupported
 `(tactic|($[$ts]*))
def zge:aR ["_law_script", "_law_k", "_law_number_here"] ["_law_script", "_law_k"] (zL vO):=by exact "N"
def qp:Aj :=
  (zP (ze zH (ze ju (zd 2) (zd 2)) (Ar 999983)))
def qq:Aj :=
  zA (zZ 2 (ze zH (ze z8 (ze z8 (zu p4 (zf (jB (zd 0) cP (bC (Ar 63))) zn)) (ze ju (Ar 977) (zd 1))) (Ar 13)) (Ar 1000003))) (qp)
def qr:Aj :=
  zA (zT (mB (ze oLt (zd 1) (zu yg (zf (zd 0) zn))))
  (zP (ze zB (zd 0) (zd 1)))
  zW) (qq)
def j5:Al:=yz 2 3 (qr)
def zc1 (T:Txt w K mg):cq P w K mg base "_law_at" 1 j5:=T.f__law_at.ok (k:=0) zge λ_ _ _ _ _ _ _ hr=>by
 exact "s k rzez M n m A q u B f I A M g G s l2 E eyQ eyQ"
 refine yG (Gv rfl) T.b_sum Gw ?_
 exact "m H A czcz dzaK o q ezaT o M o o czge.nd u B E ezaT b2 b2 o"
def zbM:aR ["_law_seed", "_law_k", "_law_some", "_law_signs", "_law_place"] ["_law_seed", "_law_k"] (zL vP):=by exact "N"
def v5:Aj :=
  zA (zT (mB (ze zQ (ze zH (zd 0) (Ar 4)) (Ar 2)))
  (zP (ze z8 (As "n") (zu wF (zf (ze z8 (ze zH (ze yl (zd 0) (Ar 4)) (Ar 900000)) (zd 1)) zn))))
  zW) (zP (ze zB (ze z8 (zd 2) (yU (p5 ["kind", "same", "put", "field", "many"]))) (ze zH (ze z8 (ze yl (zd 0) (Ar 4)) (zd 1)) (Ar 20))))
def qt:Aj :=
  zA (zT (mB (ze zQ (ze zH (zd 0) (Ar 4)) (Ar 1)))
  (zA (zZ 4 (ze zH (ze yl (zd 0) (Ar 4)) (Ar 7)))
  (zP (ze z8 (ze z8 (ze z8 (As "u") (ze ju (As "7") (zd 4))) (ze zB (zd 3) (ze zH (ze z8 (ze yl (zd 0) (Ar 28)) (zd 1)) (Ar 36)))) (ze ju (As "e") (ze jQ (Ar 6) (zd 4))))))
  zW) (v5)
def qu:Aj :=
  zA (zT (mB (ze zQ (ze zH (zd 0) (Ar 4)) (Ar 0)))
  (zP (ze zB (zd 3) (ze zH (ze z8 (ze yl (zd 0) (Ar 4)) (zd 1)) (Ar 26))))
  zW) (qt)
def v7:Aj :=
  zA (zZ 2 (yU (p5 ["of", "is", "let", "call", "go", "if", "give", "fail", "else", "end", "fun", "add", "head", "rest", "item"]))) (zA (zZ 3 (As "abcdefghijklmnopqrstuvwxyz0123456789")) (qu))
def nu:Al:=yz 2 5 (v7)
def znc (T:Txt w K mg):cq P w K mg base "_law_name" 1 nu:=T.f__law_name.ok (k:=0) zbM λ_ _ _ _ _ _ _ hr=>by
 exact "s l2 djA dzfi"
 decide +kernel
 exact "czbM.nd s l3 z czbM.nd s k jyF E A o o u B f I b3 E eyQ eyV A o M o g G s k jyF E A o o s l4 E eyV A o o czbM.nd u B eyQ eyQ eyQ z ezaT z b4 f I b3 E eyQ eyV A o M o g ezaT z ezaJ o b4 G s k jyF E A o o u B eyQ z"
 refine wS uT T.b_str ue ?_
 exact "m eyQ E eyV A o o M q G u B f I eyQ b2 djA dzfi"
 decide +kernel
 exact "E eyQ eyV A o M o g"
def zc4:aR ["_law_cell", "_law_some"] ["_law_cell"] (zL zcU):=by exact "N"
def v8:Aj :=
  zA (zT (mB (ze zQ (ze zH (zd 0) (Ar 6)) (Ar 0)))
  (zP (ze zH (zd 1) (Ar 12)))
  zW) (zA (zT (mB (ze zQ (ze zH (zd 0) (Ar 6)) (Ar 1)))
  (zP (ze zH (zd 1) (ze y4 (Ar 10) (Ar 18))))
  zW) (zA (zT (mB (ze zQ (ze zH (zd 0) (Ar 6)) (Ar 2)))
  (zP (zS (zf (zS (zf (ze zH (zd 1) (Ar 5)) (zf (As "to") zn))) (zf (zS (zf (ze zH (ze yl (zd 1) (Ar 5)) (Ar 9)) (zf (zS zn) zn))) (zf (ze zH (ze yl (zd 1) (Ar 45)) (Ar 3)) zn)))))
  zW) (zA (zT (mB (ze zQ (ze zH (zd 0) (Ar 6)) (Ar 3)))
  (zP (iV ["a", "longword", "to"] [(ze zH (zd 1) (Ar 7)),(zS (zf (zS (zf (ze zH (ze yl (zd 1) (Ar 7)) (Ar 4)) zn)) (zf (As "b") zn))),(iV ["a"] [(ze zH (ze yl (zd 1) (Ar 28)) (Ar 3))])]))
  zW) (zA (zT (mB (ze zQ (ze zH (zd 0) (Ar 6)) (Ar 4)))
  (zP (zu wA (zf (jE (cD (zf (ze zH (zd 1) (Ar 12)) zn)) (ze zH (ze z8 (zd 2) (zd 0)) (Ar 4))) zn)))
  zW) (zP (zS (zf (zS (zf (iV ["x"] [(zS (zf (ze zH (zd 1) (Ar 3)) (zf (Ar 0) zn)))]) zn)) (zf (ze zH (zd 1) (ze y4 (Ar 10) (Ar 17))) (zf (zS (zf (As "y") (zf (zS (zf (As "z") zn)) zn))) zn)))))))))
def v9:Aj :=
  zA (zZ 0 (ze zH (zd 0) (ze y4 (Ar 10) (Ar 24)))) (zA (zZ 1 (ze yl (zd 0) (Ar 6))) (v8))
def g7:Al:=yz 1 2 (v9)
def zgj (T:Txt w K mg):cq P w K mg base "_law_value" 1 g7:=T.f__law_value.ok (k:=0) zc4 λ_ _ _ _ _ _ _ hr=>by
 exact "s l0 E A ewz o o czc4.nd s l1 eyV A o czc4.nd s k jyF E A o o u B E M o G s k jyF E A o o u B E M ewz o o G s k jyF E A o o u B F m F m E M o m z q m F m E eyV M o o m F q q m E eyV M o o q G s k jyF E A o o u B C azaU E M o azaU F m F m E eyV M o o q m z q azaU C azaU E eyV M o o czcO czcO G s k jyF E A o o u B y m"
 refine pW (N:=["_law_cell", "_law_some"]) rfl (by exact "OzcU") rfl (by decide +kernel) ?_ ?_
 exact "K m E M o q t E eyQ b2 A o q G u B F m F m C azaU F m E M o m o q czcO q m E M ewz o o m F m z m F m z q q q"
def H_:aR ["_law_thing"] ["_law_thing"] (zL vQ):=by exact "N"
def Ia:Aj :=
  (zP (zu (jk isT) (zf (zd 0) (zf (mC (.ty "int")) zn))))
def jH:Al:=yz 1 1 (Ia)
def zbO (T:Txt w K mg):cq P w K mg base "_law_number" 1 jH:=T.f__law_number.ok (k:=0) H_ λ_ _ _ _ _ _ _ hr=>by
 exact "u B p m A m"
 exact (wT T.b_int Fx)
 exact "q"
def za2:aR ["_law_value_here", "_law_cell", "_law_way", "_law_place", "_law_words", "_law_word"] ["_law_value_here", "_law_cell"] (zL vR):=by exact "N"
def v_:Aj :=
  zA (zT (yE (mB (zu jH (zf (zd 0) zn))) (mB (ze wQ (zd 0) (Ar 0))))
  (zP (zS (zf (As "down") (zf (yU zn) (zf (ze jQ (zd 0) (Ar 1)) zn)))))
  zW) (zA (zT (yE (mB (zu (jk isT) (zf (zd 0) (zf (mC (.ty "tuple")) zn)))) (mB (ze wQ (zu yg (zf (zd 0) zn)) (Ar 0))))
  (zA (zZ 2 (ze zH (zd 1) (Ar 4)))
  (zA (zT (mB (ze zQ (zd 2) (Ar 0)))
  (zP (zS (zf (As "head") (zf (yU zn) (zf (ze zB (zd 0) (Ar 0)) zn)))))
  zW)
  (zA (zT (mB (ze zQ (zd 2) (Ar 1)))
  (zP (zS (zf (As "rest") (zf (yU zn) (zf (jB (zd 0) (bC (Ar 1)) cP) zn)))))
  zW)
  (zA (zZ 3 (ze zH (ze yl (zd 1) (Ar 4)) (zu yg (zf (zd 0) zn))))
  (zP (zS (zf (As "item") (zf (yU (zf (zd 3) zn)) (zf (ze zB (zd 0) (zd 3)) zn)))))))))
  zW) (zA (zT (mB (zu (jk isT) (zf (zd 0) (zf (mC (.ty "dict")) zn))))
  (zA (zZ 4 (zu nr (zf (zd 0) zn)))
  (zA (zZ 5 (ze zB (zd 4) (ze zH (ze yl (zd 1) (Ar 4)) (zu yg (zf (zd 4) zn)))))
  (zP (zS (zf (As "field") (zf (yU (zf (zd 5) zn)) (zf (ze zB (zd 0) (zd 5)) zn)))))))
  zW) (zP (mC .non))))
def qv:Al:=yz 2 6 (v_)
def znf (T:Txt w K mg):cq P w K mg base "_law_fall" 2 qv:=T.f__law_fall.ok (k:=1) za2 λ_ _ _ _ _ _ _ hr=>by
 exact "s k dj3 ajP djr izbO m A q dzao rzcu A o u B F m z m djA q m ezaJ A o q G s k dj3 ajP djr p m A m D q dzao rzcu n m A q o s l2 E M o cza2.nd s k jyF b2 o u B F m z m djA q m f I A o g q G s k jyF b2 o u B F m z m djA q m H A dzaK o czcz q G s l3 E eyV M o n m A q cza2.nd u B F m z m djA m b3 q m f I A b3 g q G s k djr p m A m"
 exact (wT T.b_dict uf)
 exact "q s l4"
 refine yG (HY rfl) T.b_sorted HX ?_
 exact "m A q cza2.nd s l5 f I b4 E eyV M o n m b4 q g cza2.nd u B F m z m djA m b5 q m f I A b5 g q G u B czbj"
def wo:aR ["_law_cell", "_law_name_here", "_law_things", "_law_names", "_law_old", "_law_value_here", "_law_atom", "_law_told"] ["_law_cell", "_law_name_here", "_law_things"] (zL zcV):=by exact "N"
def w_:Aj :=
  zA (zT (yE (mB (ze zQ (ze zH (zd 0) (Ar 16)) (Ar 1))) (yE (mB (zu jH (zf (zd 5) zn))) (mB (ze oLt (zd 5) (ze y4 (Ar 10) (Ar 17))))))
  (zA (jD (zd 2) (zd 1) (ze z8 (zd 5) (ze y4 (Ar 10) (Ar 17))))
  (zP (zS (zf (As "let") (zf (zd 1) (zf (As "add") (zf (zS (zf (zd 6) (zf (zS (zf (As "is") (zf (ze y4 (Ar 10) (Ar 17)) zn))) zn))) zn)))))))
  zW) (zA (zT (jO (mB (ze lh (zd 7) (mC .non))) (mB (ze zQ (ze zH (zd 0) (Ar 16)) (Ar 2))))
  (zA (jD (zd 2) (zd 1) (zS (zf (zd 5) zn)))
  (zP (zS (zf (As "let") (zf (zd 1) (zf (As "front") (zf (zS (zf (zd 6) (zf (zS (zf (As "is") (zf (zS zn) zn))) zn))) zn)))))))
  zW) (zA (jD (zd 2) (zd 1) (ze zB (zd 7) (Ar 2))) (zP (zS (zf (As "let") (zf (zd 1) (zf (ze zB (zd 7) (Ar 0)) (zf (zu wA (zf (ze z8 (yU (zf (zd 6) zn)) (jE (jm (ze zB (zd 7) (Ar 1))) (zS (zf (As "is") (zf (zd 0) zn))))) zn)) zn))))))))
def xb:Aj :=
  zA (zZ 7 (zu qv (zf (zd 5) (zf (ze yl (zd 0) (Ar 3)) zn)))) (w_)
def qw:Aj :=
  zA (zZ 3 (zu wZ (zf (zd 2) zn))) (zA (zZ 4 (ze zB (zd 3) (ze jQ (ze jQ (Ar 0) (Ar 1)) (ze zH (ze yl (zd 0) (Ar 16)) (zu iW (zf (Ar 4) (zf (zu yg (zf (zd 3) zn)) zn))))))) (zA (zT (mB (ze zQ (ze zH (ze yl (zd 0) (Ar 64)) (Ar 3)) (Ar 0)))
  (zZ 4 (ze zB (zd 3) (ze zH (ze yl (zd 0) (Ar 192)) (zu yg (zf (zd 3) zn)))))
  zW) (zA (zZ 5 (ze zB (zd 2) (zd 4))) (zA (zT (mB (ze zQ (ze zH (zd 0) (Ar 16)) (Ar 0)))
  (zZ 5 (zu g7 (zf (ze yl (zd 0) (Ar 16)) zn)))
  zW) (zA (zZ 6 (zS (zf (As "of") (zf (zd 4) zn)))) (zA (zT (mB (ze zQ (ze zH (zd 0) (Ar 16)) (Ar 0)))
  (zZ 6 (zS (zf (As "is") (zf (zd 5) zn))))
  zW) (xb)))))))
def lH:Al:=yz 3 8 (qw)
def zng (T:Txt w K mg):cq P w K mg base "_law_step" 3 lH:=T.f__law_step.ok (k:=2) wo λ_ _ _ _ _ _ _ hr=>by
 exact "s l3"
 refine wS (GX rfl) T.b_list Fy ?_
 exact "m b2 q cwo.nd s l4 f I b3 ezaJ ezaJ o o E eyV A o"
 refine yG (GL rfl) T.b_min GN ?_
 exact "m o m n m b3 q q g cwo.nd s k jyF E eyV A o o o u l4 f I b3 E eyV A o n m b3 q g cwo.nd G s l5 f I b2 b4 g cwo.nd s k jyF E A o o u l5 izgj m eyV A o q cwo.nd G s l6 F m z m b4 q cwo.nd s k jyF E A o o u l6 F m z m b5 q cwo.nd G s l7 iznf m b5 m eyV A o q cwo.nd s k dj3 ajP jyF E A o o ajP djr izbO m b5 q dzao rzez b5 ewz o o s w J b2 M eyQ b5 ewz o o"
 rfl
 exact "u B F m z m M m z m F m b6 m F m z m ewz o o q q q G s k dj3 azbm rzl8 b7 czbj dzbl jyF E A o o s w J b2 M F m b5 q"
 rfl
 exact "u B F m z m M m z m F m b6 m F m z m F q q q q G s w J b2 M f I b7 o g"
 rfl
 exact "u B F m z m M m f I b7 o g m y m eyQ djA m b6 q"
 refine pW (N:=["_law_cell", "_law_name_here", "_law_things", "_law_names", "_law_old", "_law_value_here", "_law_atom", "_law_told"]) rfl (by exact "OzcV") rfl (by decide +kernel) ?_ ?_
 exact "dzaq f I b7 o g t F m z m A q q q"
def zc7:aR ["_law_one", "_law_whole", "_law_todo", "_law_value_here"] ["_law_one", "_law_whole"] (zL zcW):=by exact "N"
def xf:Aj :=
  (zP (mC (.bl false)))
def xg:Aj :=
  zA (zZ 2 (yU (zf (zd 1) zn))) (zA (mW (mB (ze wQ (zu yg (zf (zd 2) zn)) (Ar 0)))
  (zA (zZ 3 (jz k9 (zd 2)))
  (zA (zT (mB (ze wg (zd 0) (zd 3)))
  (zP (mC (.bl true)))
  zW)
  (zA (zT (yE (mB (zu jH (zf (zd 3) zn))) (yE (mB (zu jH (zf (zd 0) zn))) (yE (mB (ze wb (Ar 0) (zd 0))) (mB (ze wb (zd 0) (zd 3))))))
  (zP (mC (.bl true)))
  zW)
  (zA (zT (mB (zu (jk isT) (zf (zd 3) (zf (mC (.ty "tuple")) zn))))
  (zA (zT (yE (mB (zu (jk isT) (zf (zd 0) (zf (mC (.ty "tuple")) zn)))) (yE (mB (ze wb (zu yg (zf (zd 0) zn)) (zu yg (zf (zd 3) zn)))) (mB (ze wg (jB (zd 3) (bC (ze jQ (zu yg (zf (zd 3) zn)) (zu yg (zf (zd 0) zn)))) cP) (zd 0)))))
  (zP (mC (.bl true)))
  zW)
  (jC (jn w6 (zd 2) (zd 3))))
  zW)
  (zT (mB (zu (jk isT) (zf (zd 3) (zf (mC (.ty "dict")) zn))))
  (jC (jn kW (zd 2) (ly (zd 3) (ze zV (zd 4) (zd 0)))))
  zW)))))) (xf))
def i0:Al:=yz 2 4 (xg)
def zgp (T:Txt w K mg):cq P w K mg base "_law_is_piece" 2 i0:=T.f__law_is_piece.ok (k:=1) zc7 λ_ _ _ _ _ _ _ hr=>by
 exact "s l2 djA m M q czc7.nd s"
 refine ua (wP rfl rfl) ?_ ?_
 exact "rzcu n m b2 q o s l3 dzlH b2 czc7.nd s k jzfA A b3 u B cwy G s k dj3 ajP djr izbO m b3 q ajP djr izbO m A q ajP rzct o A dzao rzct A b3 u B cwy G s k djr p m b3 m D q s k dj3 ajP djr p m A m D q ajP rzct n m A q n m b3 q dzao jzfA H b3 dzaK ezaJ n m b3 q n m A q czcz A u B cwy G u dzbw azf0 b2 b3 G u k djr p m b3 m"
 exact (wT T.b_dict uf)
 exact "q u dzbw azkY b2"
 refine Hj (N:=["_law_one", "_law_whole", "_law_todo", "_law_value_here"]) rfl (by exact "OzcW") rfl (by decide +kernel) ?_ ?_
 exact "b3 t f hy7 b4 A g G u B cwy"
def zbP:aR ["_law_found", "_law_name_here", "_law_things", "_law_params", "_law_steps", "_law_atoms", "_law_step_here", "_law_values"] ["_law_found", "_law_name_here", "_law_things", "_law_params", "_law_steps"] (zL za1):=by exact "N"
def xh:Aj :=
  zA (zT (mB (ze zQ (ze zV (zd 0) (Ar 0)) (As "of")))
  (zP (kN (ze (wj false) (ze zV (zd 0) (Ar 1)) (zd 3)) (zu i0 (zf (ze zV (zd 2) (zd 1)) (zf (ze zV (zd 2) (ze zV (zd 0) (Ar 1))) zn)))))
  zW) (zA (zT (mB (ze zQ (ze zV (zd 0) (Ar 0)) (As "made")))
  (zP (ze (wj false) (ze zV (zd 0) (Ar 1)) (wH (jm (zd 4)) (jO (mB (ze zQ (ze zV (zd 0) (Ar 2)) (As "add"))) (mB (ze zQ (ze zV (zd 0) (Ar 2)) (As "front")))) (ze zV (zd 0) (Ar 1)))))
  zW) (zA (zZ 5 (yU zn)) (zA (we (jm (zd 4)) (gN 6)
  (jC (jn w6 (zd 5) (ze zV (zd 6) (Ar 3))))) (zA (zZ 7 (wH (jm (zd 5)) (mB (ze zQ (ze zV (zd 0) (Ar 0)) (As "is"))) (ze zV (zd 0) (Ar 1)))) (zA (zT (jO (mB (ze wR (ze zV (zd 0) (Ar 0)) (As "is"))) (mB (ze p8 (ze zV (zd 0) (Ar 1)) (mC .non))))
  (zP (mC (.bl false)))
  zW) (zP (zu ni (zf (jE (jm (zd 7)) (zu i0 (zf (ze zV (zd 3) (zd 2)) (zf (zd 0) zn)))) zn))))))))
def xi:Aj :=
  zA (zT (jO (iQ (mB (zu (jk isT) (zf (zd 0) (zf (mC (.ty "tuple")) zn))))) (mB (ze wR (zu yg (zf (zd 0) zn)) (Ar 2))))
  (zP (mC (.bl false)))
  zW) (xh)
def nv:Al:=yz 5 8 (xi)
def znh (T:Txt w K mg):cq P w K mg base "_law_fits" 3 nv:=T.f__law_fits.ok (k:=2) zbP λ_ _ _ _ _ _ _ hr=>by
 exact "s k dj3 azbm dzet djr p m A m D q dzbl jzeG n m A q o u B cwy G s k jyF f hy7 A o g z u B azev vzfP f hy7 A o g b3 dzeu izgp m f hy7 b2 M g m f hy7 b2 f hy7 A o g g q G s k jyF f hy7 A o g z u B vzfP f hy7 A o g"
 refine HZ (M:=["_law_found", "_law_name_here", "_law_things", "_law_params", "_law_steps", "_law_atoms", "~_law_step_here", "_law_values"]) rfl (by exact "Pza1") (by exact ⟨rfl,by show ∀p∈List.zip (["_law_found", "_law_name_here", "_law_things", "_law_params", "_law_steps", "_law_atoms", "~_law_step_here", "_law_values"]:Ad) (["_law_found", "_law_name_here", "_law_things", "_law_params", "_law_steps", "_law_atoms", "_law_step_here", "_law_values"]:Ad),p.1=p.2\/p.1∉(_:Ad);decide +kernel⟩) (by decide +kernel) ?_ ?_ ?_
 exact "dzaq b4 t dj3 azbm jyF f hy7 A o g z dzbl jyF f hy7 A o g z t f hy7 A o g G s l5 djA q czbP.nd s xzcA dzaq b4"
 exact (mU 6 zbP.nd)
 exact "u dzbw azf0 b5 f hy7 b6 o g s"
 refine Hw 7 (N:=["_law_found", "_law_name_here", "_law_things", "_law_params", "_law_steps", "_law_atoms", "_law_step_here", "_law_values"]) rfl (by exact "Pza1") rfl (by decide +kernel) ?_ ?_ ?_ zbP.nd rfl (by exact "R") (by exact "S") (by rfl)
 exact "dzaq b5 t jyF f hy7 A o g z t f hy7 A o g s k dj3 azbm jzeG f hy7 A o g z dzbl rzl9 f hy7 A o g czbj u B cwy G u B"
 refine yG (Hq rfl) T.b_any Hr ?_
 exact "m"
 refine pW (N:=["_law_found", "_law_name_here", "_law_things", "_law_params", "_law_steps", "_law_atoms", "_law_step_here", "_law_values"]) rfl (by exact "Oza1") rfl (by decide +kernel) ?_ ?_
 exact "dzaq b7 t Lzgp m f hy7 b3 b2 g m A q q"
def Ib:aR ["self"] ["self"] (zL vS):=by exact "N"
def Ic:Aj :=
  (zP (ze (yD false) (jz (gR "word" insOf excOf) (zd 0)) (mC (.tup (List.map PV.str ct_FALLING)))))
def m_Op_falls:Al:=yz 1 1 (Ic)
def Ie (T:Txt w K mg):gQ P w K mg base "Op" "falls" 1 m_Op_falls:=T.m_Op_falls.ok (k:=0) Ib λ_ _ _ _ _ _ _ hr=>by
 exact "u B vzbB"
 refine E9 T.d_word ?_
 exact "A"
 exact (HI T.ct_FALLING)
def i3 (c:Str):Option (Al):=if c = "Op" then some m_Op_falls else none
def Ig (T:Txt w K mg) {c:Str} {m:Al} (h:i3 c=some m):gQ P w K mg base c "falls" 1 m:=by
 unfold i3 at h
 by_cases e0:c = "Op"
 ·rw [zw e0] at h;cases h;rw [e0];exact (Ie T).mono (by decide)
 rw [zC e0] at h
 cases h
def Ih:aR ["self", "word"] ["self", "word"] (zL vT):=by exact "N"
def xj:Aj :=
  (sFld "many" insOf (zd 0) (zu yg (zf (ze zB (jz (kT w8 w9) (zd 1)) (Ar 0)) zn)))
def xk:Aj :=
  zA (sFld "word" insOf (zd 0) (zd 1)) (xj)
def qx:Al:=yz 2 2 (xk)
def Ii (T:Txt w K mg):pN P w K mg base "Op" 1 qx:=T.n_Op.ok (k:=0) Ih λ_ _ _ _ _ _ _ hr=>by
 exact "s"
 refine t_ T.d_word ?_ ?_
 exact "A M u"
 refine t_ T.d_many ?_ ?_
 exact "A n m f I"
 refine Fq (T.kd_OPS _ rfl rfl rfl) ?_
 exact "M o g q"
def Ij:aR ["word"] ["word"] (zL vU):=by exact "N"
def xl:Aj :=
  (zP (zu (ix "Op" qx) (zf (zd 0) zn)))
def xm:Aj :=
  zA (zT (mB (jz (kU true w8 w9 zcX) (zd 0)))
  kX
  zW) (xl)
def lI:Al:=yz 1 1 (xm)
def znp (T:Txt w K mg):cq P w K mg base "op_of" 3 lI:=T.f_op_of.ok (k:=2) Ij λ_ _ _ _ _ _ _ hr=>by
 exact "s k"
 refine Ft (T.kd_OPS _ rfl rfl rfl) ?_
 exact "A u czeM G u B"
 refine EY (Ii T) (hr.mono (by decide)) yN ?_
 exact "m A q"
def Ik:aR ["step"] ["step"] (zL vV):=by exact "N"
def Il:Aj :=
  (zP (kN (ze zQ (ze zB (zd 0) (Ar 0)) (As "let")) (mR "falls" i3 (zu lI (zf (ze zB (zd 0) (Ar 2)) zn)) zn)))
def nA:Al:=yz 1 1 (Il)
def zns (T:Txt w K mg):cq P w K mg base "is_falling" 4 nA:=T.f_is_falling.ok (k:=3) Ik λ_ _ _ _ _ _ _ hr=>by
 exact "u B azev vyF f I A o g z dzeu"
 refine ET (λc m h=>Ig T h) ?_ (hr.mono (by decide)) yN
 exact "iznp m f I A o g q"
def zgw:aR ["steps", "atom"] ["steps", "atom"] (zL vW):=by exact "N"
def xn:Aj :=
  zA (zT (mB (ze zQ (ze zB (zd 1) (Ar 0)) (As "is")))
  (zP (zS (zf (As "is") (zf (mC .non) zn))))
  zW) (zA (zT (mB (ze (yD false) (ze zB (zd 1) (Ar 1)) (zd 0)))
  (zP (zS (zf (As "made") (zf (ze zB (zd 1) (Ar 1)) zn))))
  zW) (zP (zd 1)))
def Im:Aj :=
  zA (mW (yE (mB (ze zQ (ze zB (zd 1) (Ar 0)) (As "of"))) (yE (mB (ze (yD false) (ze zB (zd 1) (Ar 1)) (zd 0))) (mB (zu nA (zf (ze zB (zd 0) (ze zB (zd 1) (Ar 1))) zn)))))
  (zZ 1 (ze zB (ze zB (ze zB (zd 0) (ze zB (zd 1) (Ar 1))) (Ar 3)) (Ar 0)))) (xn)
def xo:Al:=yz 2 2 (Im)
def znu (T:Txt w K mg):cq P w K mg base "root_among" 5 xo:=T.f_root_among.ok (k:=4) zgw λ_ _ _ _ _ _ _ hr=>by
 exact "s"
 refine ua (wP rfl rfl) ?_ ?_
 exact "dj3 ajP jyF f I M o g z ajP jzbB f I M o g A dzao djr izns m f I A f I M o g g q u l1 f I f I f I A f I M o g g o g o g czgw.nd s k jyF f I M o g z u B F m z m czbj q G s k jzbB f I M o g A u B F m z m f I M o g q G u B M"
def zbS:aR ["block", "end", "lines"] ["block"] (zL vX):=by exact "N"
def Io (mr:Al):Aj :=
  zA (zZ 1 (ze zB (zd 0) (Ar 1))) (zA (zZ 2 (ze z8 (ze zB (zd 0) (Ar 0)) (zS (zf (zd 1) zn)))) (zA (zT (mB (ze zQ (ze zB (zd 1) (Ar 0)) (As "if")))
  kX
  zW) (zP (zd 2))))
def qy (mr:Al):Al:=yz 1 3 (Io mr)
def Ip (T:Txt w K mg) {k:Nat} (hk:1<=k) {mr:Al} (Lu:cq P w K mg base "lines_of" k mr):cq P w K mg base "lines_of" (k+1) (qy mr):=T.f_lines_of.ok (k:=k+0) zbS λ_ _ _ _ _ _ _ hr=>by
 exact "s l1 f I A o g czbS.nd s l2 eyQ f I A o g F m M q czbS.nd s k jyF f I M o g z u czeM G u B b2"
def i5:Nat->Al
 | 0=>yz 1 3 kX
 | n+1=>qy (i5 n)
def xq (T:Txt w K mg):∀n,cq P w K mg base "lines_of" (1+1+1*n) (i5 n)
 | 0=>T.f_lines_of.ok (k:=1) zbS λf aV A outer s H E hr=>GY
 | n+1=>(Ip T (by omega) (xq T n)).mono (by omega)
def Iq:aR ["line"] ["line"] (zL vY):=by exact "N"
def Ir:Aj :=
  (zP (ze (yD false) (ze zB (zd 0) (Ar 0)) (zS (zf (As "let") (zf (As "call") zn)))))
def nB:Al:=yz 1 1 (Ir)
def znz (T:Txt w K mg):cq P w K mg base "is_step" 1 nB:=T.f_is_step.ok (k:=0) Iq λ_ _ _ _ _ _ _ hr=>by
 exact "u B vzbB f I A o g F m z m z q"
def zda:aR ["function", "steps", "line"] ["function"] (zL vZ):=by exact "N"
def Iu:Aj :=
  zA (zZ 1 pU) (zA (we (jm (zu (i5 2) (zf (ze zB (zd 0) (Ar 2)) zn))) (gN 2)
  (zT (mB (zu nB (zf (zd 2) zn)))
  (jD (zd 1) (ze zB (zd 2) (Ar 1)) (zd 2))
  zW)) (zP (zd 1)))
def qz:Al:=yz 1 3 (Iu)
def znB (T:Txt w K mg):cq P w K mg base "steps_by_name" 5 qz:=T.f_steps_by_name.ok (k:=4) zda λ_ _ _ _ _ _ _ hr=>by
 exact "s l1 cze3 czda.nd s xzcA dzaq"
 refine yP (xq T 2) (hr.mono (by decide)) yN ?_
 exact "m f I A o g q"
 exact (mU 2 zda.nd)
 exact "u k djr iznz m b2 q u w J M f I b2 o g b2"
 rfl
 exact "G u B M"
def Iv:aR ["function", "atom"] ["function", "atom"] (zL v3):=by exact "N"
def Iw:Aj :=
  (zP (zu xo (zf (zu qz (zf (zd 0) zn)) (zf (zd 1) zn))))
def nC:Al:=yz 2 2 (Iw)
def znE (T:Txt w K mg):cq P w K mg base "root" 6 nC:=T.f_root.ok (k:=5) Iv λ_ _ _ _ _ _ _ hr=>by
 exact "u B iznu m iznB m A q m M q"
def jR:aR ["_law_script", "_law_cell", "_law_seed", "_law_many", "_law_params", "_law_things", "_law_k", "_law_steps", "_law_one", "_law_function", "_law_name_here"] ["_law_script"] (zL zbL):=by exact "N"
def xr:Aj :=
  zA (zZ 9 (zS (zf (As "main") (zf (zu wA (zf (zd 4) zn)) (zf (zS (zf (zu wA (zf (zd 7) zn)) (zf (zS (zf (As "give") (zf (zS (zf (As "is") (zf (Ar 0) zn))) zn))) zn))) zn))))) (zA (m8 (zd 5) (gN 10)
  (zT (iQ (mB (zu nv (zf (zu nC (zf (zd 9) (zf (zS (zf (As "of") (zf (zd 10) zn))) zn))) (zf (zd 10) (zf (zd 5) (zf (zd 4) (zf (zd 7) zn))))))))
  (zP (mC (.bl false)))
  zW)) (zP (mC (.bl true))))
def Iy:Aj :=
  zA (zZ 1 (ze zH (zu j5 (zf (zd 0) (zf (Ar 0) zn))) (ze y4 (Ar 10) (Ar 12)))) (zA (zZ 2 (ze z8 (ze ju (Ar 4) (ze zH (zd 1) (Ar 900000))) (ze zB (yU (zf (Ar 0) (zf (Ar 1) (zf (Ar 3) zn)))) (ze zH (ze yl (zd 1) (Ar 900000)) (Ar 3))))) (zA (zZ 3 (ze z8 (Ar 1) (ze zH (zu j5 (zf (zd 0) (zf (Ar 1) zn))) (Ar 3)))) (zA (zZ 4 (jE (cD (zf (zd 3) zn)) (zu nu (zf (zd 3) (zf (zd 0) zn))))) (zA (zZ 5 pU) (zA (we (cD (zf (zd 3) zn)) (gN 6)
  (jD (zd 5) (ze zB (zd 4) (zd 6)) (zu g7 (zf (ze yl (zu j5 (zf (zd 0) (zf (ze z8 (Ar 1) (zd 6)) zn))) (Ar 3)) zn)))) (zA (zZ 7 (yU zn)) (zA (k_ (zf (jB (zd 0) (bC (Ar 4)) (bC (Ar 40))) zn) (g2 6 8)
  (jC (jn iS (zd 7) (zu lH (zf (ze zH (zd 8) (ze y4 (Ar 10) (Ar 24))) (zf (ze z8 (ze z8 (As "s") (zu wF (zf (zd 6) zn))) (As "x")) (zf (zd 5) zn))))))) (xr))))))))
def xt:Al:=yz 1 11 (Iy)
def znG (T:Txt w K mg) {f:Addr} {fd:FuncData} (F:cW K "law" "law" zbL f fd):a_ P w K mg base (bW P w) 7 f fd ["_law_script"] (fw K mg xt):=mZ (k:=6) F jR λaV A outer s H E hr =>by
 exact "s l1 E izc1 m A m o q ewz o o cjR.nd s l2 eyQ ezaT o E M o f I djA m o m o m o q E eyV M o o g cjR.nd s l3 eyQ o E izc1 m A m o q o cjR.nd s"
 refine Hb 4 (M:=["_law_script", "_law_cell", "_law_seed", "_law_many", "_law_params", "_law_things", "~_law_k", "_law_steps", "_law_one", "_law_function", "_law_name_here"]) rfl (by exact "OzbL") (by exact ⟨rfl,by show ∀p∈List.zip (["_law_script", "_law_cell", "_law_seed", "_law_many", "_law_params", "_law_things", "~_law_k", "_law_steps", "_law_one", "_law_function", "_law_name_here"]:Ad) (["_law_script", "_law_cell", "_law_seed", "_law_many", "_law_params", "_law_things", "_law_k", "_law_steps", "_law_one", "_law_function", "_law_name_here"]:Ad),p.1=p.2\/p.1∉(_:Ad);decide +kernel⟩) (by decide +kernel) ?_ ?_ jR.nd rfl (by exact "R") (by exact "S") (by rfl)
 exact "K m b3 q t Lznc m b3 m A q s l5 cze3 cjR.nd s xzcA K m b3 q"
 exact (mU 6 jR.nd)
 exact "u w J b5 f I b4 b6 g izgj m eyV izc1 m A m eyQ o b6 q o q"
 rfl
 exact "s l7 djA q cjR.nd s"
 refine Gn (wP rfl rfl) rfl T.b_enumerate ?_ ?_ ?_
 exact "m H A dzaK o dzaK o q"
 exact (Fe 6 8 rfl jR.nd)
 exact "u dzbw azkX b7 izng m E b8 ewz o o m eyQ eyQ z"
 refine wS uT T.b_str ue ?_
 exact "m b6 q z m b5 q s l9 F m z m y m b4 q m F m y m b7 q m F m z m F m z m o q q q q cjR.nd s xzmx b5"
 exact (mU 10 jR.nd)
 exact "u k dzet djr iznh m iznE m b9 m F m z m b10 q q m b10 m b5 m b4 m b7 q u B cwy G u B cwy"
end
def qA (i j:Int) (h:0<j):yw i j=i%j:=by unfold yw;rw [zw h]
def Iz (i j:Int) (h:0<j):yK i j=i/j:=by unfold yK;rw [zw h]
def Old (a b:ae):Prop:=∀(n:Nat) so,a[n]?=some so->b[n]?=some so
def Old.refl (a:ae):Old a a:=λ_ _ e=>e
def Old.trans {a b c:ae}(h:Old a b) (h':Old b c):Old a c:=λn so e=>h' n so (h n so e)
def IA {a b:ae}(h:Pre a b):Old a b:=λn so e=>h.get e
def yk (a d:ae):Old a (a++d):=IA (Pre.of a d)
def xu {g:PV->zc->Option zc}{body:Aj}(I:Nat->zc->ae->Prop) (n:Nat) (hb:∀i e st,i<n->I i e st->∃e1 e2 aA,g (.int i) e=some e1/\body e1 st=.ok (.nx e2) aA/\I (i+1) e2 aA) :
  ∀(k i:Nat) (env:zc) (st:ae),i+k=n->I i env st->∃a8 aU,forL g body ((List.range' i k).map λi:Nat=>PV.int i) env st=.ok (.nx a8) aU/\I n a8 aU
 | 0,i,env,st,hk,h=>⟨env,st,by simp,by rw [<-hk];exact h⟩
 | k+1,i,env,st,hk,h=>by
  obtain ⟨e1,e2,aA,q1,q2,q3⟩:=hb i env st (by omega) h
  obtain ⟨a8,aU,r1,r2⟩:=xu I n hb k (i+1) e2 aA (by omega) q3
  refine ⟨a8,aU,?_,r2⟩
  rw [List.range'_succ,yC]
  unfold forL
  rw [q1]
  simp only
  rw [q2]
  simp only [zD]
  exact r1
def IB (m:Nat) (st:ae) (h:m<=1000):wV [.int (m:Int)] st=.ok (.im ((List.range' 0 m).map λi:Nat=>PV.int i)) st:=by
 have hr:cR (m:Int)=true:=by simp [cR];omega
 simp [hr,nums,List.range_eq_range']
def dS (i:Int) (j:Nat) (h:0<j):∃b:Nat,b<j/\yw i j=b:=by
 have h1:=Int.emod_nonneg i (show (j:Int)≠0 by omega)
 have h2:=Int.emod_lt_of_pos i (show (0:Int)<j by omega)
 exact ⟨(i%j).toNat,by omega,by rw [qA _ _ (by omega)];omega⟩
def yB {st:ae}{n:Nat}{so:SO}(h:st[n]?=some so):n<st.length:=(yf.mp h).1
def xv {fe:Ai}{env:zc}(xs:An) (I:Nat->List PV->ae->Prop) (step:∀i x ys st,xs[i]?=some x->I i ys st->∃y ao,fe (some x::env) st=.ok y ao/\I (i+1) (ys++[y]) ao) :
  ∀(k i:Nat) (ys:An) (st:ae),i+k=xs.length->I i ys st->∃dD aU,cQ fe env (xs.drop i) ys st=.ok (.ref aU.length) (aU++[.lst dD])/\I xs.length dD aU
 | 0,i,ys,st,hk,h=>⟨ys,st,by rw [ww (by omega)];rfl,by rw [<-hk];exact h⟩
 | k+1,i,ys,st,hk,h=>by
  have hx:xs[i]?=some (xs[i]'(by omega)):=zK (by omega)
  obtain ⟨y,ao,e,h1⟩:=step i _ ys st hx h
  obtain ⟨dD,aU,r,h2⟩:=xv xs I step k (i+1) (ys++[y]) ao (by omega) h1
  refine ⟨dD,aU,?_,h2⟩
  rw [jc (by omega)]
  unfold cQ
  rw [e]
  simp only [wX,zD]
  exact r
def xw {fe:Ai}{env:zc}{n:Nat}(xs:An) (I:Nat->List PV->ae->Prop) (at_:∀i ys st,I i ys st->st[n]?=some (.lst xs)) (step:∀i x ys st,xs[i]?=some x->I i ys st->∃y ao,fe (some x::env) st=.ok y ao/\I (i+1) (ys++[y]) ao) :
  ∀(k i m:Nat) (ys:An) (st:ae),i+k=xs.length->k<m->I i ys st->∃dD aU,cG fe env n m i ys st=.ok (.ref aU.length) (aU++[.lst dD])/\I xs.length dD aU
 | 0,i,m,ys,st,hk,hm,h=>by
  obtain ⟨m,rfl⟩:∃j,m=j+1:=⟨m-1,by omega⟩
  refine ⟨ys,st,?_,by rw [<-hk];exact h⟩
  unfold cG
  rw [yp (at_ _ _ _ h),iD (by omega)]
 | k+1,i,m,ys,st,hk,hm,h=>by
  obtain ⟨m,rfl⟩:∃j,m=j+1:=⟨m-1,by omega⟩
  have hx:xs[i]?=some (xs[i]'(by omega)):=zK (by omega)
  obtain ⟨y,ao,e,h1⟩:=step i _ ys st hx h
  obtain ⟨dD,aU,r,h2⟩:=xw xs I at_ step k (i+1) m (ys++[y]) ao (by omega) (by omega) h1
  refine ⟨dD,aU,?_,h2⟩
  unfold cG
  rw [yp (at_ _ _ _ h),hx]
  simp only
  rw [e]
  simp only [wX,zD]
  exact r
abbrev S (l:List Nat):Str:=⟨l.toArray⟩
def nE (z:Str):S z.cps.toList=z:=by cases z;simp [S]
def ad (x y:Str) (h:x.length+y.length<=1000000) (st:ae):z8 (.str x) (.str y) st=.ok (.str (x++y)) st:=by
 rw [FT,zw h]
def qB {α:Type}{l:List α}{i:Nat}{x:α}(h:l[i]?=some x):l.take (i+1)=l.take i++[x]:=by
 obtain ⟨hi,e⟩:=yf.mp h
 rw [<-e,List.take_append_getElem]
def xx {g:PV->zc->Option zc}{body:Aj}{n:Nat}(xs:An) (I:Nat->zc->ae->Prop) (at_:∀i e st,I i e st->st[n]?=some (.lst xs)) (step:∀i x e st,xs[i]?=some x->I i e st->∃e1 e2 aA,g x e=some e1/\body e1 st=.ok (.nx e2) aA/\I (i+1) e2 aA) :
  ∀(k i m:Nat) (env:zc) (st:ae),i+k=xs.length->k<m->I i env st->∃a8 aU,forR g body n m i env st=.ok (.nx a8) aU/\I xs.length a8 aU
 | 0,i,m,env,st,hk,hm,h=>by
  obtain ⟨m,rfl⟩:∃j,m=j+1:=⟨m-1,by omega⟩
  refine ⟨env,st,?_,by rw [<-hk];exact h⟩
  unfold forR
  rw [yp (at_ _ _ _ h),iD (by omega)]
 | k+1,i,m,env,st,hk,hm,h=>by
  obtain ⟨m,rfl⟩:∃j,m=j+1:=⟨m-1,by omega⟩
  have hx:xs[i]?=some (xs[i]'(by omega)):=zK (by omega)
  obtain ⟨e1,e2,aA,q1,q2,q3⟩:=step i _ env st hx h
  obtain ⟨a8,aU,r,h2⟩:=xx xs I at_ step k (i+1) m e2 aA (by omega) (by omega) q3
  refine ⟨a8,aU,?_,h2⟩
  unfold forR
  rw [yp (at_ _ _ _ h),hx]
  simp only
  rw [q1]
  simp only
  rw [q2]
  simp only [zD]
  exact r
def a9 {α:Type}{l:List α}{k:Nat}{x:α}(h:l[k]?=some x):cb l (k:Int)=some x:=by
 have:=(yf.mp h).1
 have e:=(yf.mp h).2
 simp [cb,gg,this,e]
def xy {i j:Int}(b:Bool) (h:decide (i<j)=b) (st:ae):oLt (.int i) (.int j) st=.ok (.bl b) st:=by rw [Hz,h]
def cV {i j:Int}(b:Bool) (h:decide (i=j)=b) (st:ae):zQ (.int i) (.int j) st=.ok (.bl b) st:=by rw [HC,h]
def i6 {i j:Int}(b:Bool) (h:decide (j<i)=b) (st:ae):wQ (.int i) (.int j) st=.ok (.bl b) st:=by rw [HB,h]
def IC {n i:Nat}{x:PV}(h:(nums 0 n)[i]?=some x):i<n/\x=.int (i:Int):=by
 unfold nums at h
 rw [jp] at h
 cases e:(List.range n)[i]? with
 | none=>rw [e] at h;cases h
 | some j =>
  rw [e] at h
  obtain ⟨h1,h2⟩:=yf.mp e
  rw [List.getElem_range] at h2
  rw [List.length_range] at h1
  cases h
  exact ⟨h1,by subst h2;simp⟩
def qC (n:Nat):(nums 0 n).length=n:=by simp [nums]
def IE (m:Nat) (st:ae) (h:m<=1000):wV [.int (m:Int)] st=.ok (.im (nums 0 m)) st:=by
 have hr:cR (m:Int)=true:=by simp [cR];omega
 rw [Gz,zw hr];simp
def xA {fe:Ai}{fs:Ah}{env:zc}{st s0:ae}(n:Nat) (hn:n<=1000) (hf:fs env st=.ok [.int (n:Int)] s0) (I:Nat->List PV->ae->Prop) (step:∀i ys st,i<n->I i ys st->∃y ao,fe (Au i::env) st=.ok y ao/\I (i+1) (ys++[y]) ao) (h0:I 0 [] s0) :
  ∃dD aU,(jE (cD fs) fe) env st=.ok (.ref aU.length) (aU++[.lst dD])/\I n dD aU:=by
 obtain ⟨ys,s1,C,h⟩:=xv (fe:=fe) (env:=env) (nums 0 n) I (λi x ys st hx h=>by
  obtain ⟨hi,rfl⟩:=IC hx
  exact step i ys st hi h) n 0 [] s0 (by rw [qC];omega) h0
 rw [qC] at h
 refine ⟨ys,s1,?_,h⟩
 rw [p6,uU,hf,zD,IE n _ hn,zD,Gy,zw (by rw [qC];simp [lim];omega)]
 exact C
def qD {fo fi fv:Ai}{e:zc}{s s1:ae}{r:Nat}{z:Str}{x:PV}{ks:Ad}{xs:An}(hv:fv e s=.ok x s1) (ho:fo e s1=.ok (.ref r) s1) (hi:fi e s1=.ok (.str z) s1) (hr:s1[r]?=some (.dic ks xs)) (hl:ks.length<=1000) :
  jD fo fi fv e s=.ok (.nx e) (s1.set r (.dic (jt z x ks xs).1 (jt z x ks xs).2)):=by
 unfold jD
 rw [hv,zD,ho,zD,hi,zD]
 show (yY s1 r _).bind _=_
 rw [ng hr,zw (by simp [lim];omega),zD]
def IF {fs:Ah}{gt:PV->zc->Option zc}{body:Aj}{e:zc}{st s0:ae}(I:Nat->zc->ae->Prop) (n:Nat) (hn:n<=1000) (hf:fs e st=.ok [.int (n:Int)] s0) (step:∀i e st,i<n->I i e st->∃e1 e2 aA,gt (.int (i:Int)) e=some e1/\body e1 st=.ok (.nx e2) aA/\I (i+1) e2 aA) (h0:I 0 e s0) :
  ∃e' s',we (cD fs) gt body e st=.ok (.nx e') s'/\I n e' s':=by
 obtain ⟨e',s',F,h⟩:=xu (g:=gt) (body:=body) I n step n 0 e s0 (by omega) h0
 refine ⟨e',s',?_,h⟩
 rw [pR,uU,hf,zD,IB n _ hn,zD,F2]
 exact F
def IG {z:Str}{i c:Nat}(hl:z.length<=1000) (h:z.cps.toList[i]?=some c) (st:ae):zB (.str z) (.int (i:Int)) st=.ok (.str ⟨#[c]⟩) st:=by
 rw [Gx,zw (by simp [lim];omega),a9 h]
 rfl
def IH (c:Nat) (m:Nat) (hm:0<m):yK (c:Int) (m:Int)=((c/m:Nat):Int):=by rw [Iz _ _ (by omega)];exact (Int.natCast_ediv c m).symm
def II (c:Nat) (m:Nat) (hm:0<m):yw (c:Int) (m:Int)=((c%m:Nat):Int):=by rw [qA _ _ (by omega)];exact (Int.natCast_emod c m).symm
def qE {st:ae}(c m:Nat) (hm:0<m) (h2:m<2 ^ 60):yl (.int (c:Int)) (.int (m:Int)) st=.ok (.int ((c/m:Nat):Int)) st:=by rw [jG _ _ (by omega) (by omega),IH c m hm]
def wJ {st:ae}(c m:Nat) (hm:0<m):zH (.int (c:Int)) (.int (m:Int)) st=.ok (.int ((c%m:Nat):Int)) st:=by rw [wn _ _ (by omega),II c m hm]
def g8 {st:ae}(a b:Nat):z8 (.int (a:Int)) (.int (b:Int)) st=.ok (.int ((a+b:Nat):Int)) st:=by rw [qm];congr 2
def IJ {st:ae}(a b:Nat) (h:a<2 ^ 60\/b<2 ^ 60):ju (.int (a:Int)) (.int (b:Int)) st=.ok (.int ((a*b:Nat):Int)) st:=by
 rw [HG _ _ (by simp only [e9,Bool.or_eq_true,j0,wx];exact h.elim (λh=>.inl ⟨by omega,by omega⟩) (λh=>.inr ⟨by omega,by omega⟩))]
 congr 2
def xB {α:Type}{l:List α}(nd:l.Nodup) {i j:Nat}(hi:i<l.length) (hj:j<l.length) (h:l[i]=l[j]):i=j:=by
 have p:=List.pairwise_iff_getElem.mp nd
 rcases Nat.lt_trichotomy i j with q|q|q
 ·exact absurd h (p i j hi hj q)
 ·exact q
 ·exact absurd h.symm (p j i hj hi q)
def jS {f fa fb:Ai}{e:zc}{st s1 s2 s3:ae}{x y z:PV}(h:f e st=.ok x s1) (h':fa e s1=.ok y s2) (h2:fb e s2=.ok z s3):zf f (zf fa (zf fb zn)) e st=.ok [x,y,z] s3:=lC h (yi h' h2)
def nF {f fa fb fc:Ai}{e:zc}{st s1 s2 s3 s4:ae}{x y z w:PV}(h:f e st=.ok x s1) (h':fa e s1=.ok y s2) (h2:fb e s2=.ok z s3) (h3:fc e s3=.ok w s4):zf f (zf fa (zf fb (zf fc zn))) e st=.ok [x,y,z,w] s4:=lC h (jS h' h2 h3)
def IK {s:ae}{n:Nat}{xs:An}{y:PV}(h:s[n]?=some (.lst xs)) (hl:xs.length<=100000):iS (.ref n) y s=.ok .non (s.set n (.lst (xs++[y]))):=by rw [GF,yp h,zw (by simp [lim];omega)]
def wq {x:PV}{r:An}{st:ae}:zB (.tup (x::r)) (.int 0) st=.ok x st:=by
 have e:=a9 (l:=x::r) (k:=0) (x:=x) rfl
 exact (congrArg (λz=>br z st) e).trans rfl
def jT {x y:PV}{r:An}{st:ae}:zB (.tup (x::y::r)) (.int 1) st=.ok y st:=by
 have e:=a9 (l:=x::y::r) (k:=1) (x:=y) rfl
 exact (congrArg (λz=>br z st) e).trans rfl
def nG {x y z:PV}{r:An}{st:ae}:zB (.tup (x::y::z::r)) (.int 2) st=.ok z st:=by
 have e:=a9 (l:=x::y::z::r) (k:=2) (x:=z) rfl
 exact (congrArg (λz=>br z st) e).trans rfl
def xC {x y z w:PV}{r:An}{st:ae}:zB (.tup (x::y::z::w::r)) (.int 3) st=.ok w st:=by
 have e:=a9 (l:=x::y::z::w::r) (k:=3) (x:=w) rfl
 exact (congrArg (λz=>br z st) e).trans rfl
def IL {xs ys:An}{st:ae}(h:xs.length+ys.length<=1000000):z8 (.tup xs) (.tup ys) st=.ok (.tup (xs++ys)) st:=by
 show (if xs.length+ys.length<=lim then _ else _)=_
 rw [zw (by simpa [lim] using h)]
def eqs (a b:Str) (c:Bool) (h:decide (a=b)=c) (st:ae):zQ (.str a) (.str b) st=.ok (.bl c) st:=by rw [HE,h]
def IM {s:ae}{w:Nat}{W:An}{x:PV}(h:s[w]?=some (.lst (W++[x]))):k9 (.ref w) s=.ok x (s.set w (.lst W)):=by
 show z0 s w _=_
 rw [yp h]
 have e:(W++[x])[(W++[x]).length-1]?=some x:=by simp
 simp only [e,List.dropLast_concat]
def xD {s:ae}{m n:Nat}{xs ys:An}(h:s[m]?=some (.lst xs)) (h':s[n]?=some (.lst ys)) (hl:xs.length+ys.length<=1000000):z8 (.ref m) (.ref n) s=.ok (.ref s.length) (s++[.lst (xs++ys)]):=by
 show z0 s m _=_
 rw [yp h,yp h']
 exact zw (by simpa [lim] using hl)
def n1:("let" : Str) ≠ "call" := by decide +kernel
def n2:("let" : Str) ≠ "go" := by decide +kernel
def n3:("give" : Str) ≠ "call" := by decide +kernel
def n7:("go" : Str) ≠ "call" := by decide +kernel
def g9 {a b:Str}(h:a≠b) (st:ae):zQ (.str a) (.str b) st=.ok (.bl false) st:=eqs a b false (by simpa using h) st
def i7 {a:Str}(st:ae):zQ (.str a) (.str a) st=.ok (.bl true) st:=eqs a a true (by simp) st
def q0 {z y:Str}{c:Bool}{e:zc}{r:An}{s:ae}{i:Nat}(hi:e[i]?=some (some (.tup (.str z::r)))) (h:zQ (.str z) (.str y) s=.ok (.bl c) s):(mB (ze zQ (ze zB (zd i) (Ar 0)) (As y))) e s=.ok c s:=zJ (zj (zj (zh hi) rfl wq) rfl h)
def IQ (z:Str) (c:Bool) (h:((("let" : Str)==z)||(("call" : Str)==z))=c) (st:ae):yD false (.str z) (.tup [.str "let", .str "call"]) st=.ok (.bl c) st:=by
 rw [uW,zw ⟨rfl,rfl,by simp [cU,dep]⟩]
 simp [bg,h]
def qF {ft:Ak}{fe:Ai}{env:zc}{st:ae}{n:Nat}{p:PV->Bool}{f:PV->PV}(xs:An) (hn:st[n]?=some (.lst xs)) (h:∀x∈xs,ft (some x::env) st=.ok (p x) st) (h':∀x∈xs,p x=true->fe (some x::env) st=.ok (f x) st):∀(k i m:Nat) (ys:An),i+k=xs.length->k<m->cT ft fe env n m i ys st=.ok (.ref st.length) (st++[.lst (ys++(xs.drop i).flatMap λx=>if p x=true then [f x] else [])])
 | 0,i,m,ys,hk,hm=>by
  obtain ⟨m,rfl⟩:∃j,m=j+1:=⟨m-1,by omega⟩
  unfold cT
  rw [yp hn,iD (by omega),ww (by omega)]
  simp
 | k+1,i,m,ys,hk,hm=>by
  obtain ⟨m,rfl⟩:∃j,m=j+1:=⟨m-1,by omega⟩
  have hi:i<xs.length:=by omega
  have hx:xs[i]?=some (xs[i]'hi):=zK hi
  have mem:=jJ hi
  have ih:=qF (ft:=ft) (fe:=fe) (env:=env) xs hn h h' k (i+1) m
  unfold cT
  rw [yp hn,hx]
  simp only
  rw [h _ mem]
  simp only [wX,zD]
  rw [jc hi,List.flatMap_cons]
  cases hp:p (xs[i]'hi) with
  | true =>
   simp only [jX]
   rw [h' _ mem hp]
   simp only [wX,zD]
   rw [ih _ (by omega) (by omega)]
   simp
  | false =>
   rw [zC (by simp),ih _ (by omega) (by omega)]
   simp
def eI {g:PV->zc->Option zc}{body:Aj}(xs:An) (I:Nat->zc->ae->Prop) (step:∀i x e st,xs[i]?=some x->I i e st->∃e1 e2 aA,g x e=some e1/\body e1 st=.ok (.nx e2) aA/\I (i+1) e2 aA) :
  ∀(k i:Nat) (env:zc) (st:ae),i+k=xs.length->I i env st->∃a8 aU,forL g body (xs.drop i) env st=.ok (.nx a8) aU/\I xs.length a8 aU
 | 0,i,env,st,hk,h=>⟨env,st,by rw [ww (by omega)];rfl,by rw [<-hk];exact h⟩
 | k+1,i,env,st,hk,h=>by
  have hx:xs[i]?=some (xs[i]'(by omega)):=zK (by omega)
  obtain ⟨e1,e2,aA,q1,q2,q3⟩:=step i _ env st hx h
  obtain ⟨a8,aU,r,h2⟩:=eI xs I step k (i+1) e2 aA (by omega) q3
  refine ⟨a8,aU,?_,h2⟩
  rw [jc (by omega)]
  unfold forL
  rw [q1]
  simp only
  rw [q2]
  simp only [zD]
  exact r
def IU {A:PV->An}{ws:An}{i:Nat}{w:PV}(h:ws[i]?=some w):(ws.take (i+1)).flatMap A=(ws.take i).flatMap A++A w:=by
 rw [qB h,List.flatMap_append];simp
def IV {s:ae}{n k:Nat}{xs ys:An}(h:s[n]?=some (.lst xs)) (h':s[k]?=some (.lst ys)) (hl:xs.length+ys.length<=1000000):kW (.ref n) (.ref k) s=.ok .non (s.set n (.lst (xs++ys))):=by
 show z0 s n _=_
 rw [yp h,yp h']
 exact zw (by simpa [lim] using hl)
def g_ {α:Type}:∀{ks:Ad}{xs:List α}{j:Nat}{z:Str}{x:α},ks.Nodup->ks[j]?=some z->xs[j]?=some x->(ks.zip xs).lookup z=some x
 | [],_,_,_,_,_,h,_=>by simp at h
 | _::_,[],_,_,_,_,_,h=>by simp at h
 | k::ks,y::xs,0,z,x,_,h,h'=>by
  simp at h h'
  subst h h'
  simp [jf]
 | k::ks,y::xs,j+1,z,x,nd,h,h'=>by
  rw [ja] at nd
  simp at h h'
  have ne:(z==k)=false:=by
   rw [beq_eq_false_iff_ne]
   intro e
   exact nd.1 (e▸jY h)
  rw [List.zip_cons_cons,jf,ne]
  exact g_ nd.2 h h'
def nH {α:Type}{z:Str}:∀{ks:Ad}{xs:List α},z∉ks->(ks.zip xs).lookup z=none
 | [],_,_=>by simp
 | _::_,[],_=>by simp
 | k::ks,x::xs,h=>by
  have ne:(z==k)=false:=by
   rw [beq_eq_false_iff_ne]
   intro e
   exact h (by rw [e];exact yL ..)
  rw [List.zip_cons_cons,jf,ne]
  exact nH λhm=>h (y9 _ hm)
def qG {s:ae}{d:Nat}{ks:Ad}{xs:An}{z:Str}{b:Bool}(h:s[d]?=some (.dic ks xs)) (hb:((ks.zip xs).lookup z).isSome=b):yD false (.str z) (.ref d) s=.ok (.bl b) s:=by
 simp [yD,h,hb]
def nI {s:ae}{d:Nat}{ks:Ad}{xs:An}{z:Str}{x:PV}(h:s[d]?=some (.dic ks xs)) (hx:(ks.zip xs).lookup z=some x):zB (.ref d) (.str z) s=.ok x s:=by
 simp [zB,uD,yY,h,hx]
def Vl (s:ae):Nat->PV->Prop
 | 0,_=>False
 | n+1,v=>match v with
  | .int _=>True
  | .str _=>True
  | .tup xs=>(∀x∈xs,Vl s n x)/\xs.length<=1000
  | .ref r=>∃ks xs,s[r]?=some (.dic ks xs)/\ks.Nodup/\ks.length=xs.length/\0<ks.length/\ks.length<64/\∀x∈xs,Vl s n x
  | _=>False
def sz (s:ae):Nat->PV->Nat
 | 0,_=>1
 | n+1,v=>match v with
  | .tup xs=>1+(xs.map (sz s n)).sum
  | .ref r=>match s[r]? with
   | some (.dic _ xs)=>1+(xs.map (sz s n)).sum
   | _=>1
  | _=>1
def Kx (ms:List Nat) (s s':ae):Prop:=∀(m:Nat) so,m∉ms->s[m]?=some so->s'[m]?=some so
def Kd (s s':ae):Prop:=∀(m:Nat) ks xs,s[m]?=some (.dic ks xs)->s'[m]?=some (.dic ks xs)
def Kd.refl (s:ae):Kd s s:=λ_ _ _ e=>e
def Kd.trans {a b c:ae}(h:Kd a b) (h':Kd b c):Kd a c:=λm ks xs e=>h' m ks xs (h m ks xs e)
def Old.kd {s s':ae}(h:Old s s'):Kd s s':=λm _ _ e=>h m _ e
def Vl.kd {s s':ae}(k:Kd s s'):∀{n:Nat}{v:PV},Vl s n v->Vl s' n v:=by
 intro n
 induction n with
 | zero=>intro v h;exact h
 | succ n ih =>
  intro v h
  cases v with
  | int i=>trivial
  | str z=>trivial
  | tup xs=>exact ⟨λx hx=>ih (h.1 x hx),h.2⟩
  | ref r =>
   obtain ⟨ks,xs,e,h1,h2,h3,h4,h5⟩:=h
   exact ⟨ks,xs,k _ _ _ e,h1,h2,h3,h4,λx hx=>ih (h5 x hx)⟩
  | _=>exact h
def Vl.up {s:ae}:∀{n:Nat}{v:PV},Vl s n v->Vl s (n+1) v:=by
 intro n
 induction n with
 | zero=>intro v h;exact h.elim
 | succ n ih =>
  intro v h
  cases v with
  | int i=>trivial
  | str z=>trivial
  | tup xs=>exact ⟨λx hx=>ih (h.1 x hx),h.2⟩
  | ref r =>
   obtain ⟨ks,xs,e,h1,h2,h3,h4,h5⟩:=h
   exact ⟨ks,xs,e,h1,h2,h3,h4,λx hx=>ih (h5 x hx)⟩
  | _=>exact h
def IW {s:ae}:∀{n:Nat}{v:PV},Vl s n v->sz s (n+1) v=sz s n v:=by
 intro n
 induction n with
 | zero=>intro v h;exact h.elim
 | succ n ih =>
  intro v h
  have key:∀xs:An,(∀x∈xs,Vl s n x)->(xs.map (sz s (n+1))).sum=(xs.map (sz s n)).sum:=λxs hx=>by
   rw [List.map_congr_left λx h=>ih (hx x h)]
  cases v with
  | tup xs =>
   show 1+(xs.map (sz s (n+1))).sum=1+(xs.map (sz s n)).sum
   rw [key xs h.1]
  | ref r =>
   obtain ⟨ks,xs,e,h1,h2,h3,h4,h5⟩:=h
   simp only [sz,e]
   have:=key xs h5
   simp only [sz] at this
   exact congrArg (1+·) this
  | _=>rfl
def qH {s s':ae}(k:Kd s s'):∀{n:Nat}{v:PV},Vl s n v->sz s' n v=sz s n v:=by
 intro n
 induction n with
 | zero=>intro v h;exact h.elim
 | succ n ih =>
  intro v h
  have key:∀xs:An,(∀x∈xs,Vl s n x)->(xs.map (sz s' n)).sum=(xs.map (sz s n)).sum:=λxs hx=>by
   rw [List.map_congr_left λx h=>ih (hx x h)]
  cases v with
  | tup xs =>
   show 1+(xs.map (sz s' n)).sum=1+(xs.map (sz s n)).sum
   rw [key xs h.1]
  | ref r =>
   obtain ⟨ks,xs,e,h1,h2,h3,h4,h5⟩:=h
   simp only [sz,e,k _ _ _ e]
   exact congrArg (1+·) (key xs h5)
  | _=>rfl
def IY {s:ae}:∀(n:Nat) (v:PV),1<=sz s n v:=by
 intro n v
 cases n with
 | zero=>exact zI _
 | succ n =>
  cases v with
  | tup xs=>show 1<=1+_;omega
  | ref r =>
   simp only [sz]
   split<;>omega
  | _=>exact zI _
def xE {f:PV->PV->Option Bool}{P:PV->Prop}{Q:PV->Prop}(hf:∀x y,P x->Q y->∃b,f x y=some b/\(x=y->b=true)):∀(xs ys:An),(∀x∈xs,P x)->(∀y∈ys,Q y)->∃b,c_ f xs ys=some b/\(xs=ys->b=true)
 | [],[],_,_=>⟨true,rfl,λ_=>rfl⟩
 | [],y::ys,_,_=>⟨false,rfl,λh=>by cases h⟩
 | x::xs,[],_,_=>⟨false,rfl,λh=>by cases h⟩
 | x::xs,y::ys,hx,hy=>by
  obtain ⟨a,ea,ha⟩:=hf x y (hx x (by simp)) (hy y (by simp))
  obtain ⟨b,eb,hb⟩:=xE hf xs ys (λz hz=>hx z (by simp [hz])) (λz hz=>hy z (by simp [hz]))
  refine ⟨a&&b,by simp only [c_,ea,eb],λh=>?_⟩
  injection h with h1 h2
  rw [ha h1,hb h2];rfl
def xF {f:PV->PV->Option Bool}{P:PV->Prop}{Q:PV->Prop}(hf:∀x y,P x->Q y->∃b,f x y=some b) {ks':Ad}{bF:An}(hq:∀y∈bF,Q y):∀(ks:Ad) (xs:An),(∀x∈xs,P x)->∃b,bL f ks' bF ks xs=some b
 | [],xs,_=>⟨true,by cases xs<;>rfl⟩
 | k::ks,[],_=>⟨true,rfl⟩
 | k::ks,x::xs,hx=>by
  obtain ⟨b,eb⟩:=xF (ks':=ks') hf hq ks xs (λz hz=>hx z (by simp [hz]))
  cases hl:(ks'.zip bF).lookup k with
  | none=>exact ⟨false,by simp only [bL,hl]⟩
  | some y =>
   have hy:y∈bF:=by
    obtain ⟨l1,l2,e,_⟩:=List.lookup_eq_some_iff.mp hl
    have:(k,y)∈ks'.zip bF:=by rw [e];simp
    exact (List.of_mem_zip this).2
   obtain ⟨a,ea⟩:=hf x y (hx x (by simp)) (hq y hy)
   exact ⟨a&&b,by simp only [bL,hl,ea,eb]⟩
def cu {f:PV->PV->Option Bool}{ks0:Ad}{xs0:An}:∀(ks:Ad) (xs:An),(∀x∈xs,f x x=some true)->(∀p∈ks.zip xs,(ks0.zip xs0).lookup p.1=some p.2)->bL f ks0 xs0 ks xs=some true
 | [],xs,_,_=>by cases xs<;>rfl
 | k::ks,[],_,_=>rfl
 | k::ks,x::xs,h,hp=>by
  have e1:=hp (k,x) (by simp)
  have e2:=h x (by simp)
  have e3:=cu ks xs (λz hz=>h z (by simp [hz])) (λp hz=>hp p (by simp [hz]))
  simp only at e1
  simp only [bL,e1,e2,e3,Bool.and_self]
def xG {α:Type}{ks:Ad}{xs:List α}(nd:ks.Nodup) {p:Str×α}(h:p∈ks.zip xs):(ks.zip xs).lookup p.1=some p.2:=by
 obtain ⟨i,hi,e⟩:=jZ h
 rw [List.length_zip] at hi
 have h1:i<ks.length:=by omega
 have h2:i<xs.length:=by omega
 rw [List.getElem_zip] at e
 subst e
 exact g_ nd (zK h1) (zK h2)
def IZ {s:ae}:∀(k:Nat) (n m:Nat) (x y:PV),Vl s n x->Vl s m y->n<=k->∃b,eqT s k x y=some b/\(x=y->b=true):=by
 intro k
 induction k with
 | zero=>intro n m x y hx _ hn;rw [Nat.le_zero.mp hn] at hx;exact hx.elim
 | succ k ih =>
  intro n m x y hx hy hn
  cases n with
  | zero=>exact hx.elim
  | succ n =>
  cases m with
  | zero=>exact hy.elim
  | succ m =>
  have ap:∀i j,bx s x=some i->bx s y=some j->i≠j->(dc (bx s x) (bx s y)=some false):=λi j h1 h2 ne=>by simp [dc,h1,h2,ne]
  cases x with
  | int a =>
   cases y with
   | int b=>exact ⟨_,rfl,λh=>by cases h;simp⟩
   | str z=>exact ⟨false,rfl,λh=>by cases h⟩
   | tup xs=>exact ⟨false,rfl,λh=>by cases h⟩
   | ref r =>
    obtain ⟨ks,xs,e,_⟩:=hy
    exact ⟨false,by show dc _ _=_;simp [dc,bx,dB,e],λh=>by cases h⟩
   | _=>exact hy.elim
  | str a =>
   cases y with
   | int b=>exact ⟨false,rfl,λh=>by cases h⟩
   | str z=>exact ⟨_,rfl,λh=>by cases h;simp⟩
   | tup xs=>exact ⟨false,rfl,λh=>by cases h⟩
   | ref r =>
    obtain ⟨ks,xs,e,_⟩:=hy
    exact ⟨false,by show dc _ _=_;simp [dc,bx,dB,e],λh=>by cases h⟩
   | _=>exact hy.elim
  | tup xs =>
   cases y with
   | int b=>exact ⟨false,rfl,λh=>by cases h⟩
   | str z=>exact ⟨false,rfl,λh=>by cases h⟩
   | tup ys =>
    obtain ⟨b,e,hb⟩:=xE (f:=eqT s k) (P:=Vl s n) (Q:=Vl s m) (λx y h1 h2=>ih n m x y h1 h2 (by omega)) xs ys hx.1 hy.1
    exact ⟨b,e,λh=>hb (by injection h)⟩
   | ref r =>
    obtain ⟨ks,zs,e,_⟩:=hy
    exact ⟨false,by show dc _ _=_;simp [dc,bx,dB,e],λh=>by cases h⟩
   | _=>exact hy.elim
  | ref r =>
   obtain ⟨ks,xs,e,h1,h2,h3,h4,h5⟩:=hx
   cases y with
   | int b=>exact ⟨false,by show dc _ _=_;simp [dc,bx,dB,e],λh=>by cases h⟩
   | str z=>exact ⟨false,by show dc _ _=_;simp [dc,bx,dB,e],λh=>by cases h⟩
   | tup ys=>exact ⟨false,by show dc _ _=_;simp [dc,bx,dB,e],λh=>by cases h⟩
   | ref q =>
    obtain ⟨ks',bF,e',g1,g2,g3,g4,g5⟩:=hy
    have E:eqT s (k+1) (.ref r) (.ref q)=d6 (eqT s k) (some (.dic ks xs)) (some (.dic ks' bF)):=by
     show d6 _ s[r]? s[q]?=_
     rw [e,e']
    rw [E]
    by_cases hl:ks.length=ks'.length
    ·obtain ⟨b,eb⟩:=xF (f:=eqT s k) (P:=Vl s n) (Q:=Vl s m) (λx y a b=>let ⟨c,d,_⟩:=ih n m x y a b (by omega);⟨c,d⟩) (ks':=ks') g5 ks xs h5
     refine ⟨b,by simp only [d6];rw [zw ⟨h1,h2⟩,zw hl,eb],λh=>?_⟩
     injection h with h
     subst h
     rw [e] at e'
     cases e'
     have:=cu (f:=eqT s k) (ks0:=ks) (xs0:=xs) ks xs (λx hx=>by
      obtain ⟨c,ec,hc⟩:=ih n n x x (h5 x hx) (h5 x hx) (by omega)
      rw [ec,hc rfl]) (λp hp=>xG h1 hp)
     rw [this] at eb
     injection eb with eb
     exact eb.symm
    ·exact ⟨false,by simp only [d6];rw [zw ⟨h1,h2⟩,zC hl],λh=>by
      injection h with h
      subst h
      rw [e] at e'
      cases e'
      exact absurd rfl hl⟩
   | _=>exact hy.elim
  | _=>exact hx.elim
def xH {s:ae}{n m:Nat}{x y:PV}(hx:Vl s n x) (hy:Vl s m y) (hn:n<=150):∃b,wg x y s=.ok (.bl b) s/\(x=y->b=true):=by
 obtain ⟨b,e,h⟩:=IZ 150 n m x y hx hy hn
 exact ⟨b,by unfold wg;rw [e],h⟩
def I_ (is:List Int):cS (is.map PV.int)=some is:=by
 induction is with
 | nil=>rfl
 | cons i r ih=>simp [cS,ih]
def qI (ns:List Int) (k:Nat) (h9:k<1000) (st:ae):∃c s1,j5 [.frl (ns.map PV.int),.int (k:Int)] st=.ok (.int c) s1/\Old st s1:=by
 by_cases hk:(k:Int)<ns.length
 ·have:cb (ns.map PV.int) k=some (.int (ns[k]'(by omega))):=a9 (by rw [jp,zK (by omega)];rfl)
  simp only [j5,yz,qr,qq,qp]
  simp [this]
  rw [zw (by omega)]
  exact ⟨_,_,rfl,Old.refl _⟩
 ·have hc:bS (List.map PV.int ns) none (some 63)=(ns.take 63).map PV.int:=by
   simp [bS,HT.sIx,List.map_take]
  have h1:e9 977 k=true:=by simp [e9]
  simp only [j5,yz,qr,qq,qp]
  have hi:cS (List.take 63 (ns.map PV.int))=some (ns.take 63):=by rw [<-List.map_take];exact I_ _
  have qe:¬k<ns.length:=by omega
  simp [qe,hc,hi,h1,pz]
  generalize hx:yw ((ns.take 63).sum+977*(k:Int)+13) 1000003=x
  have Ja : -18446744073709551616<x/\x<18446744073709551616:=by
   rw [qA _ _ (by decide)] at hx
   have:=Int.emod_nonneg ((ns.take 63).sum+977*(k:Int)+13) (show (1000003:Int)≠0 by decide)
   have:=Int.emod_lt_of_pos ((ns.take 63).sum+977*(k:Int)+13) (show (0:Int)<1000003 by decide)
   constructor<;>omega
  rw [zw Ja]
  exact ⟨_,_,rfl,yk _ _⟩
abbrev sg:Str := "abcdefghijklmnopqrstuvwxyz0123456789"
def Jb:sg.cps.toList.length=36:=by decide +kernel
def fy (j:Nat):Nat:=(sg.cps.toList[j]?).getD 0
def xI (j:Nat) (h:j<36) (st:ae):zB (.str sg) (.int (j:Int)) st=.ok (.str ⟨#[fy j]⟩) st:=IG (by decide +kernel) (by unfold fy;rw [zK (by rw [Jb];exact h)];rfl) st
def Jc:∀i,i<36->∀j,j<36->fy i=fy j->i=j:=by decide +kernel
def Qs (l:List Nat):Bool:=decide (2<=l.length)&&l.head?==some 115&&l.getLast?==some 120
structure Nm (c:Nat) (nm:Nat->Str):Prop where
 no:c%4≠2->∀k:Nat,Qs (nm k).cps.toList=false
 one:∀i j:Nat,i<20->j<20->nm i=nm j->i=j
 at_:∀k:Nat,k<1000->∀st,∃s1,nu [.int (c:Int),.int (k:Int)] st=.ok (.str (nm k)) s1/\Old st s1
def nJ:Ad:=["of", "is", "let", "call", "go", "if", "give", "fail", "else", "end", "fun", "add", "head", "rest", "item"]
def wK:Ad:=["of", "is", "let", "call", "go", "if", "give", "fail", "else", "end", "fun", "add", "head", "rest", "item", "kind", "same", "put", "field", "many"]
def Jd:∀w∈wK,Qs w.cps.toList=false:=by decide +kernel
def Je (a b d:Str):Qs (("u" ++ a)++b++d:Str).cps.toList=false:=by
 have hu:("u" : Str).cps.toList=[117]:=by decide +kernel
 simp only [PySem.Str.cps_append,Array.toList_append,hu,Qs]
 simp
def Jf:wK.Nodup:=by decide +kernel
def xJ (n:Nat) (h:n<2000000):(n:Int).natAbs.log2<1920:=by
 have h1:n<2 ^ 21:=by
  have:(2:Nat) ^ 21=2097152:=by decide
  omega
 rw [Int.natAbs_natCast]
 by_cases hz:n=0
 ·rw [hz];decide
 ·have:=(Nat.log2_lt hz).mpr h1
  omega
def gz (n:Nat):Str:=Str.ofString (toString (n:Int))
def xK {i j:Nat}(h:gz i=gz j):i=j:=by
 unfold gz at h
 have h:=(F7 _ _).mp h
 have h:Nat.repr i=Nat.repr j:=h
 exact Nat.repr_injective h
def xM (n:Nat) (h:n<2000000):(gz n).length<=2000:=by
 have e:=int_text_length_le (a:=(n:Int)) (k:=1920) (by decide) (xJ n h)
 unfold gz
 rw [ofString_length]
 omega
def xN (n:Nat) (h:n<2000000) (st:ae):wF [.int (n:Int)] st=.ok (.str (gz n)) st:=by
 rw [GC,zw (xJ n h)];rfl
def qJ {a:Str}{x y:Str}(h:a++x=a++y):x=y:=by
 have:=congrArg (λz:Str=>z.cps.toList) h
 simp only [PySem.Str.cps_append,Array.toList_append] at this
 have:=List.append_cancel_left this
 rw [<-nE x,<-nE y,this]
def xO {a x y:Str}(h:x++a=y++a):x=y:=by
 have:=congrArg (λz:Str=>z.cps.toList) h
 simp only [PySem.Str.cps_append,Array.toList_append] at this
 have:=List.append_cancel_right this
 rw [<-nE x,<-nE y,this]
def xP {i j:Nat}(hi:i<36) (hj:j<36) (h:(⟨#[fy i]⟩:Str)=⟨#[fy j]⟩):i=j:=by
 injection h with h
 have:fy i=fy j:=by simpa using h
 exact Jc i hi j hj this
def nK {c k:Nat}{st:ae}{X:Res Fl}(h:qu [Au c,Au k,At st.length,some (.str sg),none] (st++[.lst (nJ.map PV.str)])=X):v7 [Au c,Au k,none,none,none] st=X:=zv (yh (jF (xs:=nJ.map PV.str) rfl (by decide))) (zv (yh rfl) h)
def Jg (c:Nat) (hb:c<2 ^ 50):∃nm,Nm c nm:=by
 have e4:∀s:ae,zH (.int (c:Int)) (.int 4) s=.ok (.int ((c%4:Nat):Int)) s:=λs=>wJ c 4 (by decide)
 have d4:∀s:ae,yl (.int (c:Int)) (.int 4) s=.ok (.int ((c/4:Nat):Int)) s:=λs=>qE c 4 (by decide) (by decide)
 by_cases c0:c%4=0
 ·refine ⟨λk=>⟨#[fy ((c/4+k)%26)]⟩,λ_ k=>rfl,λi j hi hj h=>?_,λk hk st=>⟨_,yj rfl (nK (yH (yy (zJ (zj (zj (zh rfl) rfl (e4 _)) rfl (cV true (by simp;omega) _))) (ya (zj (zh rfl) (zj (zj (zj (zh rfl) rfl (d4 _)) (zh rfl) (g8 _ _)) rfl (wJ _ 26 (by decide))) (xI _ (by have:=jK (c/4+k) (show 0<26 by decide);omega) _)))))),yk _ _⟩⟩
  have:=xP (by have:=jK (c/4+i) (show 0<26 by decide);omega) (by have:=jK (c/4+j) (show 0<26 by decide);omega) h
  omega
 have S1:∀{k:Nat} {st s:ae} {X:Res Fl},qt [Au c,Au k,At st.length,some (.str sg),none] s=X->qu [Au c,Au k,At st.length,some (.str sg),none] s=X:=λh=>zv (zM (zJ (zj (zj (zh rfl) rfl (e4 _)) rfl (cV false (by simp;omega) _)))) h
 by_cases c1:c%4=1
 ·generalize ep:c/4%7=p
  have hp:p<7:=by rw [<-ep];exact jK _ (by decide)
  have l7:("7" : Str).length=1:=by decide +kernel
  have le:("e" : Str).length=1:=by decide +kernel
  have lu:("u" : Str).length=1:=by decide +kernel
  have sb:(6:Int)-(p:Int)=((6-p:Nat):Int):=by omega
  have r1:∀s:ae,ju (.str "7") (.int (p:Int)) s=.ok (.str (bB "7" (p:Int))) s:=λs=>by rw [uV,zw ⟨by omega,by omega,by rw [l7];decide⟩]
  have r2:∀s:ae,ju (.str "e") (.int ((6-p:Nat):Int)) s=.ok (.str (bB "e" ((6-p:Nat):Int))) s:=λs=>by rw [uV,zw ⟨by omega,by omega,by rw [le];decide⟩]
  have z1:(bB "7" (p:Int)).length<=10:=by rw [pZ,l7];omega
  have z2:(bB "e" ((6-p:Nat):Int)).length<=10:=by rw [pZ,le];omega
  have z3:("u" ++ bB "7" (p:Int):Str).length<=20:=by rw [strLen_append,lu];omega
  refine ⟨λk=>("u" ++ bB "7" (p:Int))++⟨#[fy ((c/28+k)%36)]⟩++bB "e" ((6-p:Nat):Int),λ_ k=>Je _ _ _,λi j hi hj h=>?_,λk hk st=>⟨_,yj rfl (nK (S1 (yH (yy (zJ (zj (zj (zh rfl) rfl (e4 _)) rfl (cV true (by simp;omega) _))) (zv (yh (zj (zj (zh rfl) rfl (d4 _)) rfl ((wJ _ 7 (by decide)).trans (by rw [ep])))) (ya (zj (zj (zj rfl (zj rfl (zh rfl) (r1 _)) (ad _ _ (by omega) _)) (zj (zh rfl) (zj (zj (zj (zh rfl) rfl (qE c 28 (by decide) (by decide))) (zh rfl) (g8 _ _)) rfl (wJ _ 36 (by decide))) (xI _ (jK _ (by decide)) _)) (ad _ _ ?_ _)) (zj rfl (zj rfl (zh rfl) ((lF _ _).trans (by rw [sb]))) (r2 _)) (ad _ _ ?_ _)))))))),yk _ _⟩⟩
  ·have:=xP (jK _ (by decide)) (jK _ (by decide)) (qJ (xO h))
   omega
  ·show ("u" ++ bB "7" (p:Int):Str).length+1<=_
   omega
  ·rw [strLen_append]
   show ("u" ++ bB "7" (p:Int):Str).length+1+_<=_
   omega
 have S2:∀{k:Nat} {st s:ae} {X:Res Fl},v5 [Au c,Au k,At st.length,some (.str sg),none] s=X->qt [Au c,Au k,At st.length,some (.str sg),none] s=X:=λh=>zv (zM (zJ (zj (zj (zh rfl) rfl (e4 _)) rfl (cV false (by simp;omega) _)))) h
 by_cases c2:c%4=2
 ·have ln:("n" : Str).length=1:=by decide +kernel
  have h9:c/4%900000<900000:=jK _ (by decide)
  refine ⟨λk => "n" ++ gz (c/4%900000+k),λh=>absurd c2 h,λi j hi hj h=>?_,λk hk st=>⟨_,yj rfl (nK (S1 (S2 (yH (yy (zJ (zj (zj (zh rfl) rfl (e4 _)) rfl (cV true (by simp;omega) _))) (ya (zj rfl (zR (zU (zj (zj (zj (zh rfl) rfl (d4 _)) rfl (wJ _ 900000 (by decide))) (zh rfl) (g8 _ _))) (xN _ (by omega) _)) (ad _ _ (by have:=xM (c/4%900000+k) (by omega);omega) _)))))))),yk _ _⟩⟩
  have:=xK (qJ h)
  omega
 ·have hg:∀k,(c/4+k)%20<wK.length:=λk=>jK _ (by decide)
  refine ⟨λk=>wK[(c/4+k)%20]'(hg k),λ_ k=>Jd _ (jJ (hg k)),λi j hi hj h=>?_,λk hk st=>?_⟩
  ·have:=xB Jf (hg i) (hg j) h
   omega
  let s1:=st++[SO.lst (nJ.map PV.str)]
  let w5:Ad:=["kind", "same", "put", "field", "many"]
  let s2:=s1++[SO.lst (w5.map PV.str)]
  have A:z8 (.ref st.length) (.ref s1.length) s2=.ok (.ref s2.length) (s2++[.lst (wK.map PV.str)]):=xD (xs:=nJ.map PV.str) (ys:=w5.map PV.str) (yk _ _ _ _ (yq _ _)) (yq _ _) (by decide)
  have g:cb (wK.map PV.str) ((((c/4+k)%20:Nat)):Int)=some (.str (wK[(c/4+k)%20]'(hg k))):=a9 (by rw [jp,zK (hg k)];rfl)
  exact ⟨s2++[.lst (wK.map PV.str)],yj rfl (nK (S1 (S2 (zv (zM (zJ (zj (zj (zh rfl) rfl (e4 _)) rfl (cV false (by simp;omega) _)))) (ya (zj (zj (zh rfl) (jF (xs:=w5.map PV.str) rfl (by decide)) A) (zj (zj (zj (zh rfl) rfl (d4 _)) (zh rfl) (g8 _ _)) rfl (wJ _ 20 (by decide))) (by rw [m3,yp (yq _ _),g];rfl))))))),(yk _ _).trans ((yk _ _).trans (yk _ _))⟩
def sx (j:Nat):Str:=("s" ++ gz j) ++ "x"
def Jh (j:Nat):Qs (sx j).cps.toList=true:=by
 have hs:("s" : Str).cps.toList=[115]:=by decide +kernel
 have hx:("x" : Str).cps.toList=[120]:=by decide +kernel
 have hl:∀l:List Nat,(115::(l++[120])).getLast?=some 120:=λl=>by rw [<-List.cons_append,List.getLast?_append];rfl
 simp only [sx,PySem.Str.cps_append,Array.toList_append,hs,hx,Qs]
 simp [hl]
def Ji {i j:Nat}(h:sx i=sx j):i=j:=xK (qJ (xO h))
def Jj (j:Nat) (h:j<1000) (st:ae) {e:zc} {k:Nat} (hk:e[k]?=some (Au j)):(ze z8 (ze z8 (As "s") (zu wF (zf (zd k) zn))) (As "x")) e st=.ok (.str (sx j)) st:=by
 have l1:("s" : Str).length=1:=by decide +kernel
 have l2:("x" : Str).length=1:=by decide +kernel
 have l3:=xM j (by omega)
 exact zj (zj rfl (zR (zU (zh hk)) (xN j (by omega) st)) (ad _ _ (by omega) st)) rfl (ad _ _ (by rw [strLen_append];omega) st)
inductive Su (s:ae):PV->PV->Prop
 | refl (v:PV):Su s v v
 | row {u x:PV} {xs:An} (h:Su s u x) (hx:x∈xs):Su s u (.tup xs)
 | fld {u x:PV} {r:Nat} {ks:Ad} {xs:An} (h:Su s u x) (e:s[r]?=some (.dic ks xs)) (hx:x∈xs):Su s u (.ref r)
def Su.trans {s:ae}{a b c:PV}(h:Su s a b) (h':Su s b c):Su s a c:=by
 induction h' with
 | refl=>exact h
 | row _ hx ih=>exact .row ih hx
 | fld _ e hx ih=>exact .fld ih e hx
def Su.kd {s s':ae}(k:Kd s s') {a b:PV}(h:Su s a b):Su s' a b:=by
 induction h with
 | refl=>exact .refl _
 | row _ hx ih=>exact .row ih hx
 | fld _ e hx ih=>exact .fld ih (k _ _ _ e) hx
def Su.vl {s:ae}{a b:PV}(h:Su s a b):∀{n:Nat},Vl s n b->Vl s n a:=by
 induction h with
 | refl=>intro n h;exact h
 | row _ hx ih =>
  intro n h
  cases n with
  | zero=>exact h.elim
  | succ n=>exact (ih (h.1 _ hx)).up
 | fld _ e hx ih =>
  intro n h
  cases n with
  | zero=>exact h.elim
  | succ n =>
   obtain ⟨ks,xs,e',h1,h2,h3,h4,h5⟩:=h
   rw [e] at e'
   cases e'
   exact (ih (h5 _ hx)).up
def Mt (x u:PV):Prop:=x=u\/(∃a b:Int,x=.int a/\u=.int b/\0<=a/\a<=b)\/∃xs ys,x=.tup xs/\u=.tup ys/\xs <:+ ys
def Mt.vl {s:ae}{x u:PV}(h:Mt x u) {n:Nat}(hu:Vl s n u):Vl s n x:=by
 cases n with
 | zero=>exact hu.elim
 | succ n =>
  rcases h with rfl|⟨a,b,rfl,rfl,_,_⟩|⟨xs,ys,rfl,rfl,hs⟩
  ·exact hu
  ·trivial
  ·exact ⟨λx hx=>hu.1 x (hs.subset hx),yM hs.length_le hu.2⟩
def PC (s:ae) (x w:PV):Prop:=∃u,Su s u w/\Mt x u
def PC.refl (s:ae) (x:PV):PC s x x:=⟨x,.refl x,.inl rfl⟩
def PC.kd {s s':ae}(k:Kd s s') {x w:PV}(h:PC s x w):PC s' x w:=let ⟨u,a,b⟩:=h;⟨u,a.kd k,b⟩
def PC.vl {s:ae}{x w:PV}(h:PC s x w) {n:Nat}(hw:Vl s n w):Vl s n x:=let ⟨_,a,b⟩:=h;b.vl (a.vl hw)
inductive Fa (s:ae):PV->PV->Prop
 | down {i:Int} (h:0<i):Fa s (.int i) (.int (i-1))
 | item {x:PV} {xs:An} (h:x∈xs):Fa s (.tup xs) x
 | rest {x:PV} {xs:An}:Fa s (.tup (x::xs)) (.tup xs)
 | fld {x:PV} {r:Nat} {ks:Ad} {xs:An} (e:s[r]?=some (.dic ks xs)) (h:x∈xs):Fa s (.ref r) x
def Fa.kd {s s':ae}(k:Kd s s') {v t:PV}(h:Fa s v t):Fa s' v t:=by
 cases h with
 | down h=>exact .down h
 | item h=>exact .item h
 | rest=>exact .rest
 | fld e h=>exact .fld (k _ _ _ e) h
def Fa.vl {s:ae}{v t:PV}(h:Fa s v t) {n:Nat}(hv:Vl s n v):Vl s n t:=by
 cases n with
 | zero=>exact hv.elim
 | succ n =>
  cases h with
  | down h=>trivial
  | item h=>exact (hv.1 _ h).up
  | rest=>exact ⟨λx hx=>hv.1 x (y9 _ hx),by have:=hv.2;simp at this;omega⟩
  | fld e h =>
   obtain ⟨ks,xs,e',h1,h2,h3,h4,h5⟩:=hv
   rw [e] at e'
   cases e'
   exact (h5 _ h).up
def PC.fall {s:ae}{v t w:PV}(h:PC s v w) (f:Fa s v t):PC s t w:=by
 obtain ⟨u,su,mt⟩:=h
 cases f with
 | @down i hi =>
  rcases mt with rfl|⟨a,b,e,rfl,h1,h2⟩|⟨xs,ys,e,_⟩
  ·exact ⟨_,su,.inr (.inl ⟨_,_,rfl,rfl,by omega,by omega⟩)⟩
  ·injection e with e
   exact ⟨_,su,.inr (.inl ⟨_,_,rfl,rfl,by omega,by omega⟩)⟩
  ·cases e
 | item hx =>
  rcases mt with rfl|⟨a,b,e,_⟩|⟨xs,ys,e,rfl,hs⟩
  ·exact ⟨_,(Su.row (.refl _) hx).trans su,.inl rfl⟩
  ·cases e
  ·injection e with e
   subst e
   exact ⟨_,(Su.row (.refl _) (hs.subset hx)).trans su,.inl rfl⟩
 | @rest x xs =>
  rcases mt with rfl|⟨a,b,e,_⟩|⟨zs,ys,e,rfl,hs⟩
  ·exact ⟨_,su,.inr (.inr ⟨_,_,rfl,rfl,List.suffix_cons x xs⟩)⟩
  ·cases e
  ·injection e with e
   subst e
   exact ⟨_,su,.inr (.inr ⟨_,_,rfl,rfl,(List.suffix_cons x xs).trans hs⟩)⟩
 | fld e hx =>
  rcases mt with rfl|⟨a,b,e,_⟩|⟨xs,ys,e,_⟩
  ·exact ⟨_,(Su.fld (.refl _) e hx).trans su,.inl rfl⟩
  ·cases e
  ·cases e
def Jk:PV->String
 | .int _ => "int"
 | .str _ => "str"
 | .tup _ => "tuple"
 | _ => "dict"
def qK {s:ae}{n:Nat}{v:PV}(h:Vl s n v) (t:String):jk isT [v,.ty t] s=fF (mP (Jk v) t) s:=by
 cases n with
 | zero=>exact h.elim
 | succ n =>
  cases v with
  | int i=>rfl
  | str z=>rfl
  | tup xs=>rfl
  | ref r =>
   obtain ⟨ks,xs,e,_⟩:=h
   show kR isT s _ (fS s[r]?) s=_
   rw [e]
   rfl
  | _=>exact h.elim
def gA:PV->Bool
 | .int _=>true
 | _=>false
def Jl:PV->Bool
 | .tup _=>true
 | _=>false
def Jm:PV->Bool
 | .ref _=>true
 | _=>false
def nM {s:ae}{n:Nat}{v:PV}(h:Vl s n v):jH [v] s=.ok (.bl (gA v)) s:=by
 refine yj rfl (ya (zR (yi (zh rfl) rfl) ((qK h _).trans ?_)))
 cases n with
 | zero=>exact h.elim
 | succ n=>cases v<;>first|rfl|exact h.elim
def qL {s:ae} {n:Nat} {v:PV} (h:Vl s n v) {e:zc} {i:Nat} (hi:e[i]?=some (some v)):(mB (zu (jk isT) (zf (zd i) (zf (mC (.ty "tuple")) zn)))) e s=.ok (Jl v) s:=by
 refine zJ (zR (yi (zh hi) rfl) ((qK h _).trans ?_))
 cases n with
 | zero=>exact h.elim
 | succ n=>cases v<;>first|rfl|exact h.elim
def qM {s:ae} {n:Nat} {v:PV} (h:Vl s n v) {e:zc} {i:Nat} (hi:e[i]?=some (some v)):(mB (zu (jk isT) (zf (zd i) (zf (mC (.ty "dict")) zn)))) e s=.ok (Jm v) s:=by
 refine zJ (zR (yi (zh hi) rfl) ((qK h _).trans ?_))
 cases n with
 | zero=>exact h.elim
 | succ n=>cases v<;>first|rfl|exact h.elim
def xQ:("is" : Str) ≠ "of" := by decide +kernel
def nO:("of" : Str) ≠ "is" := by decide +kernel
def nQ {t:Ak}{b:Aj}{e:zc}{s s1:ae}(h:t e s=.ok false s1) (fuel:Nat) (hf:0<fuel):bp t b fuel e s=.ok (.nx e) s1:=by
 obtain ⟨f,rfl⟩:∃f,fuel=f+1:=⟨fuel-1,by omega⟩
 rw [pS,h,zD,zC (by simp)]
def xR {t:Ak}{b:Aj}{e e':zc}{s s1 s2:ae}(h:t e s=.ok true s1) (h':b e s1=.ok (.nx e') s2) (f:Nat):bp t b (f+1) e s=bp t b f e' s2:=by
 rw [pS,h,zD,zw rfl,h',zD]
def Jn {t:Ak}{b:Aj}{e:zc}{s s1 s2:ae}{v:PV}(h:t e s=.ok true s1) (h':b e s1=.ok (.rt v) s2) (fuel:Nat) (hf:0<fuel):bp t b fuel e s=.ok (.rt v) s2:=by
 obtain ⟨f,rfl⟩:∃f,fuel=f+1:=⟨fuel-1,by omega⟩
 rw [pS,h,zD,zw rfl,h',zD]
def kids (s:ae):PV->An
 | .tup xs=>xs
 | .ref r=>match s[r]? with
  | some (.dic _ xs)=>xs
  | _=>[]
 | _=>[]
def nR {s:ae}{r:Nat}{ks:Ad}{xs:An}(e:s[r]?=some (.dic ks xs)):kids s (.ref r)=xs:=by simp only [kids,e]
def Jo {s:ae}{n:Nat}{v:PV}(h:Vl s (n+1) v):((kids s v).map (sz s (n+1))).sum+1=sz s (n+1) v:=by
 have key:∀xs:An,(∀x∈xs,Vl s n x)->(xs.map (sz s (n+1))).sum+1=1+(xs.map (sz s n)).sum:=λxs hx=>by
  rw [List.map_congr_left λx h=>IW (hx x h)]
  exact Nat.add_comm _ _
 cases v with
 | tup xs=>exact key xs h.1
 | ref r =>
  obtain ⟨ks,xs,e,h1,h2,h3,h4,h5⟩:=h
  rw [nR e,key xs h5]
  simp only [sz,e]
 | _=>rfl
def Jp {s:ae}{n:Nat}{v:PV}(h:Vl s (n+1) v):∀x∈kids s v,Vl s (n+1) x:=by
 cases v with
 | tup xs=>exact λx hx=>(h.1 x hx).up
 | ref r =>
  obtain ⟨ks,xs,e,h1,h2,h3,h4,h5⟩:=h
  rw [nR e]
  exact λx hx=>(h5 x hx).up
 | _=>intro x hx;cases hx
def Jq {s:ae}{one v:PV}(h:PC s one v):Mt one v\/∃x∈kids s v,PC s one x:=by
 obtain ⟨u,su,mt⟩:=h
 cases su with
 | refl=>exact .inl mt
 | row h hx=>exact .inr ⟨_,hx,_,h,mt⟩
 | fld h e hx=>exact .inr ⟨_,by rw [nR e];exact hx,_,h,mt⟩
def qN {s:ae}{t:Nat}{xs:An}{so:SO}(h:s[t]?=some (.lst xs)):Kd s (s.set t so):=λm ks ys e=>by
 by_cases hm:t=m
 ·subst hm
  rw [h] at e
  cases e
 ·rw [y0 hm]
  exact e
def Kx.refl (ms:List Nat) (s:ae):Kx ms s s:=λ_ _ _ e=>e
def Kx.trans {ms:List Nat}{a b c:ae}(h:Kx ms a b) (h':Kx ms b c):Kx ms a c:=λm so q e=>h' m so q (h m so q e)
def Old.kx {ms:List Nat}{s s':ae}(h:Old s s'):Kx ms s s':=λm so _ e=>h m so e
def j6 {ms:List Nat}{s:ae}{n:Nat}{so:SO}(h:n∈ms):Kx ms s (s.set n so):=λm x q e=>by
 rw [y0 (λ(hh:n=m)=>q (hh▸h))]
 exact e
def Kx.kd {s s':ae}{t:Nat}{xs:An}(k:Kx [t] s s') (h:s[t]?=some (.lst xs)):Kd s s':=λm ks ys e=>k m _ (by
 intro hm
 rw [jh.mp hm,h] at e
 cases e) e
def Jr {s:ae}{i:Nat}{a:SO}(h:s[i]?=some a):s.set i a=s:=by
 apply List.ext_getElem?
 intro j
 by_cases hj:i=j
 ·subst hj;rw [yW (yB h),h]
 ·rw [y0 hj]
def xS {s:ae}{n:Nat}{xs ys:An}(h:s[n]?=some (.lst xs)) (hl:xs.length+ys.length<=1000000):w6 (.ref n) (.tup ys) s=.ok .non (s.set n (.lst (xs++ys))):=by
 show z0 s n _=_
 rw [yp h]
 exact zw (by simpa [lim] using hl)
def xT (xs:An) (k:Nat) (hk:k<=xs.length):bS xs (some (k:Int)) none=xs.drop k:=by
 simp only [bS,HT.sIx]
 have h0:¬((k:Int)<0):=by omega
 simp [h0,Nat.min_eq_left hk]
 exact List.take_of_length_le (by simp)
abbrev eQ (one w:PV) (t:Nat) (z:Ao):zc:=[some one,some w,At t,z]
abbrev tQ:Ak:=(mB (ze wQ (zu yg (zf (zd 2) zn)) (Ar 0)))
abbrev xU:Ak:=(yE (mB (zu jH (zf (zd 3) zn))) (yE (mB (zu jH (zf (zd 0) zn))) (yE (mB (ze wb (Ar 0) (zd 0))) (mB (ze wb (zd 0) (zd 3))))))
abbrev xV:Ak:=(yE (mB (zu (jk isT) (zf (zd 0) (zf (mC (.ty "tuple")) zn)))) (yE (mB (ze wb (zu yg (zf (zd 0) zn)) (zu yg (zf (zd 3) zn)))) (mB (ze wg (jB (zd 3) (bC (ze jQ (zu yg (zf (zd 3) zn)) (zu yg (zf (zd 0) zn)))) cP) (zd 0)))))
abbrev iC:Aj:=(zT (mB (zu (jk isT) (zf (zd 3) (zf (mC (.ty "dict")) zn))))
  (jC (jn kW (zd 2) (ly (zd 3) (ze zV (zd 4) (zd 0)))))
  zW)
abbrev iR:Aj:=(zT (mB (zu (jk isT) (zf (zd 3) (zf (mC (.ty "tuple")) zn))))
  (zA (zT xV
  (zP (mC (.bl true)))
  zW)
  (jC (jn w6 (zd 2) (zd 3))))
  zW)
abbrev bQ:Aj:=(zA (zZ 3 (jz k9 (zd 2)))
  (zA (zT (mB (ze wg (zd 0) (zd 3)))
  (zP (mC (.bl true)))
  zW)
  (zA (zT xU
  (zP (mC (.bl true)))
  zW)
  (zA iR
  iC))))
section
variable {s:ae}{one v w:PV}{t:Nat}{n m:Nat}
def hG {i j:Int}(b:Bool) (h:decide (i<=j)=b) (st:ae):wb (.int i) (.int j) st=.ok (.bl b) st:=by rw [HA,h]
def Js (h1:Vl s n one) (h2:Vl s m v):∃b,xU (eQ one w t (some v)) s=.ok b s/\(b=false->¬∃i j:Int,one=.int i/\v=.int j/\0<=i/\i<=j):=by
 have N2:=nM h2
 have N1:=nM h1
 by_cases c2:gA v=true
 ·rw [c2] at N2
  have T2:(mB (zu jH (zf (zd 3) zn))) (eQ one w t (some v)) s=.ok true s:=zJ (zR (zU (zh rfl)) N2)
  by_cases c1:gA one=true
  ·rw [c1] at N1
   have T1:(mB (zu jH (zf (zd 0) zn))) (eQ one w t (some v)) s=.ok true s:=zJ (zR (zU (zh rfl)) N1)
   cases v with
   | int j =>
    cases one with
    | int i =>
     by_cases c:0<=i
     ·by_cases d:i<=j
      ·exact ⟨true,yI T2 (yI T1 (yI (zJ (zj rfl (zh rfl) (hG true (je c) _))) (zJ (zj (zh rfl) (zh rfl) (hG true (je d) _))))),λh=>by cases h⟩
      ·exact ⟨false,yI T2 (yI T1 (yI (zJ (zj rfl (zh rfl) (hG true (je c) _))) (zJ (zj (zh rfl) (zh rfl) (hG false (yA d) _))))),λ_ ⟨a,b,e1,e2,_,h⟩=>by cases e1;cases e2;exact d h⟩
     ·exact ⟨false,yI T2 (yI T1 (yZ (zJ (zj rfl (zh rfl) (hG false (yA c) _))))),λ_ ⟨a,b,e1,e2,h,_⟩=>by cases e1;exact c h⟩
    | _=>cases c1
   | _=>cases c2
  ·have c1:gA one=false:=by simpa using c1
   rw [c1] at N1
   exact ⟨false,yI T2 (yZ (zJ (zR (zU (zh rfl)) N1))),λ_ ⟨a,b,e1,_⟩=>by rw [e1] at c1;cases c1⟩
 ·have c2:gA v=false:=by simpa using c2
  rw [c2] at N2
  exact ⟨false,yZ (zJ (zR (zU (zh rfl)) N2)),λ_ ⟨a,b,_,e2,_⟩=>by rw [e2] at c2;cases c2⟩
def Jt {xs:An}(h1:Vl s n one) (h2:Vl s m (.tup xs)) (hn:m<=150):∃b,xV (eQ one w t (some (.tup xs))) s=.ok b s/\(b=false->¬∃zs,one=.tup zs/\zs <:+ xs):=by
 have R:=qL h1 (e:=eQ one w t (some (.tup xs))) (i:=0) rfl
 cases one with
 | tup zs =>
  have L1:(zu yg (zf (zd 0) zn)) (eQ (.tup zs) w t (some (.tup xs))) s=.ok (.int (zs.length:Int)) s:=zR (zU (zh rfl)) rfl
  have L2:(zu yg (zf (zd 3) zn)) (eQ (.tup zs) w t (some (.tup xs))) s=.ok (.int (xs.length:Int)) s:=zR (zU (zh rfl)) rfl
  by_cases c:zs.length<=xs.length
  ·cases m with
   | zero=>exact h2.elim
   | succ m =>
   have V:Vl s (m+1) (.tup (xs.drop (xs.length-zs.length))):=⟨λx hx=>h2.1 x (List.mem_of_mem_drop hx),by have:=h2.2;simp;omega⟩
   obtain ⟨b,eb,hb⟩:=xH V h1 hn
   have sl:(jB (zd 3) (bC (ze jQ (zu yg (zf (zd 3) zn)) (zu yg (zf (zd 0) zn)))) cP) (eQ (.tup zs) w t (some (.tup xs))) s=.ok (.tup (xs.drop (xs.length-zs.length))) s:=ql (zh rfl) (nk (i:=((xs.length-zs.length:Nat):Int)) (zj L2 L1 ((lF _ _).trans (by congr 2;omega)))) vG (by rw [uq,xT _ _ (by omega)])
   refine ⟨b,yI R (yI (zJ (zj L1 L2 (hG true (by simp;omega) _))) (zJ (zj sl (zh rfl) eb))),λh ⟨ys,e,hs⟩=>?_⟩
   injection e with e
   subst e
   rw [hb (by rw [<-List.suffix_iff_eq_drop.mp hs])] at h
   cases h
  ·exact ⟨false,yI R (yZ (zJ (zj L1 L2 (hG false (by simp;omega) _)))),λ_ ⟨ys,e,hs⟩=>by injection e with e;subst e;exact c hs.length_le⟩
 | int i=>exact ⟨false,yZ R,λ_ ⟨ys,e,_⟩=>by cases e⟩
 | str z=>exact ⟨false,yZ R,λ_ ⟨ys,e,_⟩=>by cases e⟩
 | ref r=>exact ⟨false,yZ R,λ_ ⟨ys,e,_⟩=>by cases e⟩
 | _=>cases n<;>exact h1.elim
def xW {e:zc}{r:Nat}{ks:Ad}{xs:An}{st:ae}(he:e[3]?=some (At r)) (hr:st[r]?=some (.fdi ks xs)):∀(kz:Ad) (xz acc:An),kz.length=xz.length->(∀p∈kz.zip xz,(ks.zip xs).lookup p.1=some p.2)->dC (ze zV (zd 4) (zd 0)) e (kz.map PV.str) acc st=.ok (acc++xz) st
 | [],[],acc,_,_=>by simp [dC]
 | k::kz,[],acc,h,_=>by simp at h
 | [],x::xz,acc,h,_=>by simp at h
 | k::kz,x::xz,acc,h,hp=>by
  have lk:=hp (k,x) (by simp)
  have F:(ze zV (zd 4) (zd 0)) (some (.str k)::e) st=.ok x st:=zj (zh (by simpa using he)) (zh rfl) (by simp only [zV,hr];rw [lk];rfl)
  have:=xW he hr kz xz (acc++[x]) (by simpa using h) λp hz=>hp p (by simp [hz])
  show (bw ((ze zV (zd 4) (zd 0)) (some (.str k)::e) st)).bind _=_
  rw [F]
  show dC _ e (kz.map PV.str) (acc++[x]) st=_
  rw [this,iF]
  rfl
def Ju {e:zc}{r:Nat}{ks:Ad}{xs:An}(he:e[3]?=some (At r)) (hr:s[r]?=some (.dic ks xs)) (nd:ks.Nodup) (hl:ks.length=xs.length):(ly (zd 3) (ze zV (zd 4) (zd 0))) e s=.ok (.ref s.length) (s++[.lst xs]):=by
 have xX:(s.set r (.fdi ks xs))[r]?=some (.fdi ks xs):=yW (yB hr)
 have K:=xW (e:=e) (st:=s.set r (.fdi ks xs)) he xX ks xs [] hl λp hp=>xG nd hp
 have e1:(s.set r (.fdi ks xs)++[SO.lst xs])[r]?=some (.fdi ks xs):=by rw [jj (by simpa using yB hr)];exact xX
 have e2:(s.set r (.fdi ks xs)++[SO.lst xs]).set r (.dic ks xs)=s++[.lst xs]:=by
  rw [List.set_append_left _ _ (by simpa using yB hr),List.set_set,Jr hr]
 unfold ly
 rw [zh he,zD]
 unfold w4
 simp only
 rw [ng hr,K]
 show de r (s.set r (.fdi ks xs)++[SO.lst xs]) _=_
 unfold de
 rw [e1]
 simp only [e2,List.length_set]
end
section
variable {s:ae}{one v w:PV}{t:Nat}
def turn {W:An}{z:Ao}(ht:s[t]?=some (.lst (W++[v]))) (h1:Vl s 6 one) (h2:Vl s 6 v) (hl:W.length<=100000) :
  ∃s',Kx [t] s s'/\(bQ (eQ one w t z) s=.ok (.rt (.bl true)) s'\/(¬Mt one v/\bQ (eQ one w t z) s=.ok (.nx (eQ one w t (some v))) s'/\s'[t]?=some (.lst (W++kids s v)))):=by
 let s1:=s.set t (SO.lst W)
 have kd:Kd s s1:=qN ht
 have kx:Kx [t] s s1:=j6 (by simp)
 have t1:s1[t]?=some (.lst W):=yW (yB ht)
 have v1:=h1.kd kd
 have v2:=h2.kd kd
 have PO:(zZ 3 (jz k9 (zd 2))) (eQ one w t z) s=.ok (.nx (eQ one w t (some v))) s1:=yh (vC (zh rfl) (IM ht))
 obtain ⟨b,eb,hb⟩:=xH v1 v2 (by decide)
 have TE:(mB (ze wg (zd 0) (zd 3))) (eQ one w t (some v)) s1=.ok b s1:=zJ (zj (zh rfl) (zh rfl) eb)
 cases b with
 | true=>exact ⟨s1,kx,.inl (zv PO (yH (yy TE (ya rfl))))⟩
 | false =>
 have ne:one≠v:=λh=>by cases hb h
 obtain ⟨c,ec,hc⟩:=Js (w:=w) (t:=t) v1 v2
 cases c with
 | true=>exact ⟨s1,kx,.inl (zv PO (zv (zM TE) (yH (yy ec (ya rfl)))))⟩
 | false =>
 have nn:=hc rfl
 have PRE:∀{X:Res Fl},zA iR iC (eQ one w t (some v)) s1=X->bQ (eQ one w t z) s=X:=λh=>zv PO (zv (zM TE) (zv (zM ec) h))
 have RT:=qL v2 (e:=eQ one w t (some v)) (i:=3) rfl
 have CT:=qM v2 (e:=eQ one w t (some v)) (i:=3) rfl
 have no:∀{v},one≠v->(¬∃i j:Int,one=.int i/\v=.int j/\0<=i/\i<=j)->(¬∃zs xs,one=.tup zs/\v=.tup xs/\zs <:+ xs)->¬Mt one v:=λa b c h=>by
  rcases h with h|h|h
  ·exact a h
  ·exact b h
  ·exact c h
 cases v with
 | int j=>exact ⟨s1,kx,.inr ⟨no ne nn (λ⟨_,_,_,e,_⟩=>by cases e),PRE (zv (zM RT) (zM CT)),by simpa [kids] using t1⟩⟩
 | str j=>exact ⟨s1,kx,.inr ⟨no ne nn (λ⟨_,_,_,e,_⟩=>by cases e),PRE (zv (zM RT) (zM CT)),by simpa [kids] using t1⟩⟩
 | tup xs =>
  obtain ⟨d,ed,hd⟩:=Jt (w:=w) (t:=t) v1 v2 (by decide)
  cases d with
  | true=>exact ⟨s1,kx,.inl (PRE (yH (yy RT (yH (yy ed (ya rfl))))))⟩
  | false =>
   have x9:xs.length<=1000:=h2.2
   have E:=xS (ys:=xs) t1 (by omega)
   let s2:=s1.set t (SO.lst (W++xs))
   have t2:s2[t]?=some (.lst (W++xs)):=yW (yB t1)
   have CT:=qM (v2.kd (qN (so:=SO.lst (W++xs)) t1)) (e:=eQ one w t (some (.tup xs))) (i:=3) rfl
   exact ⟨s2,kx.trans (j6 (by simp)),.inr ⟨no ne nn (λ⟨zs,ys,e1,e2,h⟩=>by injection e2 with e2;subst e2;exact hd rfl ⟨zs,e1,h⟩),PRE (zv (yy RT (zv (zM ed) (nj (nq (zh rfl) t1 (zh rfl) E)))) (zM CT)),t2⟩⟩
 | ref r =>
  obtain ⟨ks,xs,e,g1,g2,g3,g4,g5⟩:=v2
  have C:=Ju (e:=eQ one w t (At r)) rfl e g1 g2
  let s2:=s1++[SO.lst xs]
  have o2:Old s1 s2:=yk _ _
  have E:=IV (o2 _ _ t1) (yq s1 (SO.lst xs)) (by omega)
  let s3:=s2.set t (SO.lst (W++xs))
  have t3:s3[t]?=some (.lst (W++xs)):=yW (yB (o2 _ _ t1))
  have ek:kids s (.ref r)=xs:=by
   obtain ⟨ks',bF,e',_⟩:=h2
   have:=kd _ _ _ e'
   rw [e] at this
   cases this
   exact nR e'
  exact ⟨s3,kx.trans (o2.kx.trans (j6 (by simp))),.inr ⟨no ne nn (λ⟨_,_,_,e,_⟩=>by cases e),PRE (zv (zM RT) (yy CT (nj (nq (zh rfl) t1 C E)))),by rw [ek];exact t3⟩⟩
 | _=>exact h2.elim
abbrev tz (s:ae) (W:An):Nat:=(W.map (sz s 6)).sum
def Jv {s':ae}(k:Kd s s') {W:An}(h:∀v∈W,Vl s 6 v):tz s' W=tz s W:=by
 unfold tz
 rw [List.map_congr_left λx hx=>qH k (h x hx)]
def xY:∀(W:An),W.length<=tz s W
 | []=>yX _
 | v::W=>by
  have:=xY W
  have:=IY (s:=s) 6 v
  simp only [tz,yC,List.sum_cons,jx] at *
  omega
def search:∀(fuel:Nat) {s:ae}{W:An}{z:Ao},s[t]?=some (.lst W)->Vl s 6 one->(∀v∈W,Vl s 6 v)->tz s W<fuel->tz s W<=10000 ->
  ∃s',Kx [t] s s'/\(bp tQ bQ fuel (eQ one w t z) s=.ok (.rt (.bl true)) s'\/((∀v∈W,¬PC s one v)/\∃z',bp tQ bQ fuel (eQ one w t z) s=.ok (.nx (eQ one w t z')) s')):=by
 intro fuel
 induction fuel with
 | zero=>intro s W z _ _ _ h;omega
 | succ fuel ih =>
  intro s W z ht h1 hW hf hb
  have L:=qk ht
  rcases List.eq_nil_or_concat W with rfl|⟨W0,v,qO⟩
  ·have T:tQ (eQ one w t z) s=.ok false s:=zJ (zj (zR (zU (zh rfl)) L) rfl (i6 false (by simp) _))
   exact ⟨s,Kx.refl _ _,.inr ⟨(λv hv=>nomatch hv),z,nQ T _ (by omega)⟩⟩
  ·first
    | (rw [List.concat_eq_append] at qO;subst qO)
    | subst qO
   have T:tQ (eQ one w t z) s=.ok true s:=zJ (zj (zR (zU (zh rfl)) L) rfl (i6 true (by simp) _))
   have hv:Vl s 6 v:=hW v (by simp)
   have Jw:∀x∈W0,Vl s 6 x:=λx hx=>hW x (by simp [hx])
   have zl:W0.length<=10000:=by
    have:=xY (s:=s) (W0++[v])
    rw [jW] at this
    omega
   have zs:tz s (W0++[v])=tz s W0+sz s 6 v:=by simp [tz]
   have zk:((kids s v).map (sz s 6)).sum+1=sz s 6 v:=Jo hv
   obtain ⟨s1,k1,R|⟨nm,R,t1⟩⟩:=turn (w:=w) (z:=z) ht h1 hv (by omega)
   ·exact ⟨s1,k1,.inl (Jn T R _ (by omega))⟩
   ·have kd:Kd s s1:=k1.kd ht
    have all:∀x∈W0++kids s v,Vl s 6 x:=λx hx=>by
     rcases j1.mp hx with h|h
     ·exact Jw x h
     ·exact Jp hv x h
    have ez:tz s1 (W0++kids s v)=tz s W0+((kids s v).map (sz s 6)).sum:=by
     rw [Jv kd all];simp [tz]
    obtain ⟨s2,k2,E⟩:=ih (z:=some v) t1 (h1.kd kd) (λx hx=>(all x hx).kd kd) (by omega) (by omega)
    refine ⟨s2,k1.trans k2,?_⟩
    rw [xR T R]
    rcases E with E|⟨no,z',E⟩
    ·exact .inl E
    ·refine .inr ⟨λx hx hp=>?_,z',E⟩
     rcases j1.mp hx with h|h
     ·exact no x (jI _ h) (hp.kd kd)
     ·rw [jh.mp h] at hp
      rcases Jq hp with hp|⟨y,hy,hp⟩
      ·exact nm hp
      ·exact no y (yb _ hy) (hp.kd kd)
def xZ (h1:Vl s 6 one) (h2:Vl s 6 w) (hb:sz s 6 w<=1000):∃b s',i0 [one,w] s=.ok (.bl b) s'/\Old s s'/\(PC s one w->b=true):=by
 let s1:=s++[SO.lst [w]]
 have o1:Old s s1:=yk _ _
 have ez:sz s1 6 w=sz s 6 w:=qH o1.kd h2
 obtain ⟨s2,k2,E⟩:=search (one:=one) (w:=w) (t:=s.length) lim (s:=s1) (W:=[w]) (z:=none) (yq _ _) (h1.kd o1.kd) (λv hv=>by rw [jh.mp hv];exact h2.kd o1.kd) (by simp only [tz,yC,List.map_nil,List.sum_cons,List.sum_nil,ez,lim];omega) (by simp only [tz,yC,List.map_nil,List.sum_cons,List.sum_nil,ez];omega)
 have oo:Old s s2:=λm so e=>k2 m so (by have:=yB e;simp;omega) (o1 _ _ e)
 have PRE:∀{X:Res Fl},zA (mW tQ bQ) xf (eQ one w s.length none) s1=X->xg [some one,some w,none,none] s=X:=λh=>zv (yh (jF (zU (zh rfl)) (by simp))) h
 rcases E with E|⟨no,z',E⟩
 ·exact ⟨true,s2,yj rfl (PRE (yH E)),oo,λ_=>rfl⟩
 ·exact ⟨false,s2,yj rfl (PRE (zv E (ya rfl))),oo,λh=>absurd (h.kd o1.kd) (no w (by simp))⟩
end
def iB {k:Int}{p:Int}(cp:iw 10 k=true) (pw:((10:Int) ^ k.toNat)=p) (st:ae):y4 (.int 10) (.int k) st=.ok (.int p) st:=by
 show (if iw 10 k=true then Res.ok (PV.int (10 ^ k.toNat)) st else .stuck)=_
 rw [zw cp,pw]
def Jx (st:ae):y4 (.int 10) (.int 12) st=.ok (.int 1000000000000) st:=iB (by decide) (by decide) st
def lJ (st:ae):y4 (.int 10) (.int 17) st=.ok (.int 100000000000000000) st:=iB (by decide) (by decide) st
def Jy (st:ae):y4 (.int 10) (.int 18) st=.ok (.int 1000000000000000000) st:=iB (by decide) (by decide) st
def x4 (st:ae):y4 (.int 10) (.int 24) st=.ok (.int 1000000000000000000000000) st:=iB (by decide) (by decide) st
def Raw (s:ae) (v:PV):Prop:=Vl s 6 v/\sz s 6 v<=1000
def Raw.kd {s s':ae}{v:PV}(h:Raw s v) (k:Kd s s'):Raw s' v:=⟨h.1.kd k,by rw [qH k h.1];exact h.2⟩
section
variable {f fa fb:Ai}{e:zc}{s s1 s2 s3:ae}{x y z:PV}
def vals1 (h:f e s=.ok x s1):wG [f] e s=.ok [x] s1:=by
 simp only [wG]
 rw [h,zD,zD]
def Jz (h:f e s=.ok x s1) (h':fa e s1=.ok y s2) (h2:fb e s2=.ok z s3):wG [f,fa,fb] e s=.ok [x,y,z] s3:=by
 simp only [wG]
 rw [h,zD,h',zD,h2,zD,zD,zD,zD]
def qP {zs:Ad}{fs:List (Ai)}{xs:An}(hv:wG fs e (s++[.dic [] []])=.ok xs s1) (o:Old (s++[.dic [] []]) s1) (hd:wf (zs.zip xs) [] []=(zs,xs)):∃s2,iV zs fs e s=.ok (.ref s.length) s2/\s2[s.length]?=some (.dic zs xs)/\Old s s2/\Kx [s.length] s1 s2:=by
 have top:s1[s.length]?=some (.dic [] []):=o _ _ (yq _ _)
 refine ⟨s1.set s.length (.dic zs xs),?_,yW (yB top),λm so q=>?_,j6 (by simp)⟩
 ·unfold iV
  rw [hv,zD,top,zw (show fV (some (SO.dic [] []))=true from rfl),hd]
 ·have:=yB q
  rw [y0 (by omega)]
  exact o _ _ (yk _ _ _ _ q)
end
def qQ {s:ae}{n:Nat}{xs:An}(h:∀x∈xs,Vl s n x) (hl:xs.length<=1000):Vl s (n+1) (.tup xs):=⟨h,hl⟩
def x_ (s s1 u:ae):Prop:=∀(m:Nat) so,s.length<=m->s1[m]?=some so->u[m]?=some so
def y_ (c:Int) (s:ae):∃v s1,g7 [.int c] s=.ok v s1/\Old s s1/\∀u,x_ s s1 u->Raw u v:=by
 obtain ⟨c',cC⟩:∃c',c'=yw c 1000000000000000000000000:=⟨_,rfl⟩
 obtain ⟨d,hd⟩:∃d,d=yK c' 6:=⟨_,rfl⟩
 obtain ⟨k,hk,ek⟩:=dS c' 6 (by decide)
 have ek:yw c' 6=(k:Int):=ek
 have PRE:∀{X:Res Fl},v8 [some (.int c'),some (.int d)] s=X->v9 [some (.int c),none] s=X:=λh=>zv (yh (zj (zh rfl) (zj rfl rfl (x4 _)) ((wn _ _ (by decide)).trans (by rw [<-cC])))) (zv (yh (zj (zh rfl) rfl ((jG _ _ (by decide) (by decide)).trans (by rw [<-hd])))) h)
 have T:∀(j:Nat) (b:Bool),decide ((k:Int)=(j:Int))=b->(mB (ze zQ (ze zH (zd 0) (Ar 6)) (Ar (j:Int)))) [some (.int c'),some (.int d)] s=.ok b s:=λj b h=>zJ (zj (zj (zh rfl) rfl ((wn _ _ (by decide)).trans (by rw [ek]))) rfl (cV b h _))
 have MD:∀(a j:Int) (s:ae),j≠0->zH (.int a) (.int j) s=.ok (.int (yw a j)) s:=λa j s h=>wn _ _ h
 have DV:∀(j:Int) (s:ae),j≠0->j.natAbs<2 ^ 200->(ze yl (zd 1) (Ar j)) [some (.int c'),some (.int d)] s=.ok (.int (yK d j)) s:=λj s h h'=>zj (zh rfl) rfl (jG _ _ h h')
 have F:∀(j:Nat),k≠j->decide ((k:Int)=(j:Int))=false:=λj h=>by simp;omega
 match k,hk with
 | 0,_=>exact ⟨.int (yw d 12),s,yj rfl (PRE (yH (yy (T 0 true rfl) (ya (zj (zh rfl) rfl (MD _ _ _ (by decide))))))),Old.refl _,λ_ _=>⟨trivial,by show 1<=_;omega⟩⟩
 | 1,_=>exact ⟨.int (yw d 1000000000000000000),s,yj rfl (PRE (zv (zM (T 0 false (by decide))) (yH (yy (T 1 true rfl) (ya (zj (zh rfl) (zj rfl rfl (Jy _)) (MD _ _ _ (by decide)))))))),Old.refl _,λ_ _=>⟨trivial,by show 1<=_;omega⟩⟩
 | 2,_ =>
  refine ⟨.tup [.tup [.int (yw d 5),.str "to"],.tup [.int (yw (yK d 5) 9),.tup []],.int (yw (yK d 45) 3)],s,yj rfl (PRE (zv (zM (T 0 false (by decide))) (zv (zM (T 1 false (by decide))) (yH (yy (T 2 true rfl) (ya (yc (jS (yc (yi (zj (zh rfl) rfl (MD _ _ _ (by decide))) rfl) (by simp)) (yc (yi (zj (DV 5 _ (by decide) (by decide)) rfl (MD _ _ _ (by decide))) (yc wI (by simp))) (by simp)) (zj (DV 45 _ (by decide) (by decide)) rfl (MD _ _ _ (by decide)))) (by simp)))))))),Old.refl _,λ_ _=>⟨by simp [Vl],by simp [sz]⟩⟩
 | 3,_ =>
  let s0:=s++[SO.dic [] []]
  let x1:PV:=.int (yw d 7)
  let x2:PV:=.tup [.tup [.int (yw (yK d 7) 4)],.str "b"]
  obtain ⟨s2,E2,t2,o2,k2⟩:=qP (s:=s0) (s1:=s0++[SO.dic [] []]) (zs:=["a"]) (fs:=[(ze zH (ze yl (zd 1) (Ar 28)) (Ar 3))]) (e:=[some (.int c'),some (.int d)]) (xs:=[.int (yw (yK d 28) 3)]) (vals1 (zj (DV 28 _ (by decide) (by decide)) rfl (MD _ _ _ (by decide)))) (Old.refl _) rfl
  have V:=Jz (s:=s0) (f:=(ze zH (zd 1) (Ar 7))) (fa:=(zS (zf (zS (zf (ze zH (ze yl (zd 1) (Ar 7)) (Ar 4)) zn)) (zf (As "b") zn)))) (e:=[some (.int c'),some (.int d)]) (x:=x1) (y:=x2) (zj (zh rfl) rfl (MD _ _ _ (by decide))) (yc (yi (yc (zU (zj (DV 7 _ (by decide) (by decide)) rfl (MD _ _ _ (by decide)))) (by simp)) rfl) (by simp)) E2
  have dp:wf ((["a", "longword", "to"]:Ad).zip [x1,x2,.ref s0.length]) [] []=((["a", "longword", "to"]:Ad),[x1,x2,.ref s0.length]):=by
   have n1:([("a" : Str)].contains "longword")=false:=by decide +kernel
   have n2:([("a" : Str),"longword"].contains "to")=false:=by decide +kernel
   simp [wf,jt,n1,n2]
  obtain ⟨s4,E4,t4,o4,k4⟩:=qP (s:=s) V o2 dp
  have l0:s0.length=s.length+1:=by simp [s0]
  have t5:s4[s0.length]?=some (.dic ["a"] [.int (yw (yK d 28) 3)]):=k4 _ _ (by simp;omega) t2
  refine ⟨.ref s.length,s4,yj rfl (PRE (zv (zM (T 0 false (by decide))) (zv (zM (T 1 false (by decide))) (zv (zM (T 2 false (by decide))) (yH (yy (T 3 true rfl) (ya E4))))))),o4,λu hu=>?_⟩
  have t4:=hu _ _ (zI _) t4
  have t5:=hu _ _ (by omega) t5
  refine ⟨⟨_,_,t4,by decide +kernel,rfl,by decide,by decide,?_⟩,?_⟩
  ·intro x hx
   simp only [yv,List.not_mem_nil,or_false] at hx
   rcases hx with rfl|rfl|rfl
   ·trivial
   ·simp [x2,Vl]
   ·exact ⟨_,_,t5,by decide +kernel,rfl,by decide,by decide,λx hx=>by rw [jh.mp hx];trivial⟩
  ·simp only [sz,t4,yC,List.map_nil,List.sum_cons,List.sum_nil,t5,x1,x2]
   omega
 | 4,_ =>
  obtain ⟨m,hm,em⟩:=dS d 12 (by decide)
  have em:yw d 12=(m:Int):=em
  obtain ⟨ys,s',C,hy,o⟩:=xA (fe:=(ze zH (ze z8 (zd 2) (zd 0)) (Ar 4))) (fs:=(zf (ze zH (zd 1) (Ar 12)) zn)) (env:=[some (.int c'),some (.int d)]) (st:=s) (s0:=s) m (by omega) (zU (zj (zh rfl) rfl ((MD _ _ _ (by decide)).trans (by rw [em])))) (λi ys st=>(∃is:List Int,ys=is.map PV.int/\is.length=i)/\st=s) (λi ys st hi ⟨⟨is,h,hl⟩,hs⟩=>by
   subst hs
   exact ⟨_,st,zj (zj (zh rfl) (zh rfl) (qm _ _)) rfl (MD _ _ _ (by decide)),⟨is++[yw (d+(i:Int)) 4],by rw [h];simp,by simp [hl]⟩,rfl⟩) ⟨⟨[],rfl,rfl⟩,rfl⟩
  obtain ⟨is,rfl,hl⟩:=hy
  subst o
  refine ⟨.tup (is.map PV.int),_,yj rfl (PRE (zv (zM (T 0 false (by decide))) (zv (zM (T 1 false (by decide))) (zv (zM (T 2 false (by decide))) (zv (zM (T 3 false (by decide))) (yH (yy (T 4 true rfl) (ya (zR (zU C) (by rw [m5,yp (yq _ _)])))))))))),yk _ _,λu hu=>⟨⟨λx hx=>?_,by simp;omega⟩,?_⟩⟩
  ·obtain ⟨i,_,rfl⟩:=jw.mp hx
   trivial
  ·have:∀(s:ae) (is:List Int),((is.map PV.int).map (sz s 5)).sum=is.length:=λs is=>by
    induction is with
    | nil=>rfl
    | cons i r ih=>rw [yC,yC,List.sum_cons,ih,jx];show 1+_=_;omega
   show 1+((is.map PV.int).map (sz _ 5)).sum<=1000
   rw [this]
   omega
 | 5,_ =>
  obtain ⟨s2,E2,t2,o2,k2⟩:=qP (s:=s) (s1:=s++[SO.dic [] []]) (zs:=["x"]) (fs:=[(zS (zf (ze zH (zd 1) (Ar 3)) (zf (Ar 0) zn)))]) (e:=[some (.int c'),some (.int d)]) (xs:=[.tup [.int (yw d 3),.int 0]]) (vals1 (yc (yi (zj (zh rfl) rfl (MD _ _ _ (by decide))) rfl) (by simp))) (Old.refl _) rfl
  refine ⟨.tup [.tup [.ref s.length],.int (yw d 100000000000000000),.tup [.str "y", .tup [.str "z"]]],s2,yj rfl (PRE (zv (zM (T 0 false (by decide))) (zv (zM (T 1 false (by decide))) (zv (zM (T 2 false (by decide))) (zv (zM (T 3 false (by decide))) (zv (zM (T 4 false (by decide))) (ya (yc (jS (yc (zU E2) (by simp)) (zj (zh rfl) (zj rfl rfl (lJ _)) (MD _ _ _ (by decide))) (yc (yi rfl (yc (zU rfl) (by simp))) (by simp))) (by simp))))))))),o2,λu hu=>?_⟩
  have t2:=hu _ _ (zI _) t2
  refine ⟨?_,?_⟩
  ·have V:Vl u 4 (.ref s.length):=⟨_,_,t2,by decide +kernel,rfl,by decide,by decide,λx hx=>by rw [jh.mp hx];simp [Vl]⟩
   refine qQ (λx hx=>?_) (by simp)
   simp only [yv,List.not_mem_nil,or_false] at hx
   rcases hx with rfl|rfl|rfl
   ·exact qQ (λx hx=>by rw [jh.mp hx];exact V) (by simp)
   ·trivial
   ·simp [Vl]
  ·simp only [sz,t2,yC,List.map_nil,List.sum_cons,List.sum_nil]
   omega
 | k+6,h=>omega
abbrev hd (D:Nat) (s:ae):ae:=s.set D (.lst [])
section
variable {s s' u:ae}{D:Nat}{v:PV}{n:Nat}{c:Int}
def z_:Kd (hd D s) s:=λm ks xs e=>by
 by_cases h:D=m
 ·subst h
  by_cases hl:D<s.length
  ·rw [yW hl] at e;cases e
  ·rw [iD (by simpa using hl)] at e;cases e
 ·rwa [y0 h] at e
def hU (k:Kx [D] s s'):Kd (hd D s) (hd D s'):=λm ks xs e=>by
 by_cases h:D=m
 ·subst h
  by_cases hl:D<s.length
  ·rw [yW hl] at e;cases e
  ·rw [iD (by simpa using hl)] at e;cases e
 ·rw [y0 h] at e ⊢
  exact k _ _ (by simpa using y3 h) e
def Ag (h:D<s.length):x_ s s' (hd D s'):=λm so hm e=>by
 rw [y0 (by omega)]
 exact e
def JA {xs:An}{j:Nat}(h:j<xs.length) (st:ae):zB (.tup xs) (.int (j:Int)) st=.ok (xs[j]'h) st:=by
 show br (cb xs (j:Int)) st=_
 rw [a9 (zK h)]
 rfl
def lK {r:Nat}{xs:An}{j:Nat}(hr:s[r]?=some (.lst xs)) (h:j<xs.length):zB (.ref r) (.int (j:Int)) s=.ok (xs[j]'h) s:=by
 rw [m3,yp hr,a9 (zK h)]
 rfl
def h7 {x:Int}{j:Nat}(hj:0<j) (st:ae):∃b:Nat,b<j/\zH (.int x) (.int (j:Int)) st=.ok (.int (b:Int)) st:=by
 obtain ⟨b,hb,e⟩:=dS x j hj
 exact ⟨b,hb,(wn _ _ (by omega)).trans (by rw [e])⟩
def Aq (i:Int):Raw u (.int i):=⟨trivial,by show 1<=_;omega⟩
def JB (z:Str):Raw u (.str z):=⟨trivial,by show 1<=_;omega⟩
def JC:Raw u (.tup []):=⟨⟨λ_ h=>(nomatch h),by simp⟩,by show 1+0<=_;omega⟩
def JD (u s1:ae) (v R:PV):Prop:=R=.non\/∃(op:Str) (q:Nat) (as:An) (t:PV),R=.tup [.str op,.ref q,t]/\s1[q]?=some (.lst as)/\op∈ct_FALLING/\Fa u v t/\as.length<=1/\∀a∈as,∀u,Raw u a
def JE (h:Vl u n v) (k:Kd u s) (c:Int):∃R s1,qv [v,.int c] s=.ok R s1/\Old s s1/\JD u s1 v R:=by
 have hs:=h.kd k
 have N:=nM hs
 have R:=qL hs (e:=[some v,some (.int c),none,none,none,none]) (i:=0) rfl
 have C:=qM hs (e:=[some v,some (.int c),none,none,none,none]) (i:=0) rfl
 have TN:(mB (zu jH (zf (zd 0) zn))) [some v,some (.int c),none,none,none,none] s=.ok (gA v) s:=zJ (zR (zU (zh rfl)) N)
 cases n with
 | zero=>exact h.elim
 | succ n =>
 cases v with
 | int i =>
  by_cases hi:0<i
  ·exact ⟨_,s++[.lst []],yj rfl (yH (yy (yI TN (zJ (zj (zh rfl) rfl (i6 true (je hi) _)))) (ya (yc (jS rfl (jF wI (by simp)) (zj (zh rfl) rfl (lF _ _))) (by simp))))),yk _ _,.inr ⟨"down", s.length,[],_,rfl,yq _ _,by decide +kernel,.down hi,by simp,λa h=>nomatch h⟩⟩
  ·exact ⟨_,s,yj rfl (zv (zM (yI TN (zJ (zj (zh rfl) rfl (i6 false (yA hi) _))))) (zv (zM (yZ R)) (zv (zM C) (ya rfl)))),Old.refl _,.inl rfl⟩
 | str z=>exact ⟨_,s,yj rfl (zv (zM (yZ TN)) (zv (zM (yZ R)) (zv (zM C) (ya rfl)))),Old.refl _,.inl rfl⟩
 | tup xs =>
  have L:∀(e:zc) (s:ae),e[0]?=some (some (.tup xs))->(zu yg (zf (zd 0) zn)) e s=.ok (.int (xs.length:Int)) s:=λe s h=>zR (zU (zh h)) rfl
  by_cases h0:0<xs.length
  ·obtain ⟨x,r,rfl⟩:∃x r,xs=x::r:=by
    cases xs with
    | nil=>simp at h0
    | cons x r=>exact ⟨x,r,rfl⟩
   obtain ⟨w,hw,W⟩:=h7 (x:=c) (j:=4) (by decide) s
   have PRE:∀{X:Res Fl} {v:PV} {s1:ae},X=.ok (.rt v) s1->(zA (zT (mB (ze zQ (zd 2) (Ar 0))) (zP (zS (zf (As "head") (zf (yU zn) (zf (ze zB (zd 0) (Ar 0)) zn))))) zW)
     (zA (zT (mB (ze zQ (zd 2) (Ar 1))) (zP (zS (zf (As "rest") (zf (yU zn) (zf (jB (zd 0) (bC (Ar 1)) cP) zn))))) zW)
     (zA (zZ 3 (ze zH (ze yl (zd 1) (Ar 4)) (zu yg (zf (zd 0) zn))))
     (zP (zS (zf (As "item") (zf (yU (zf (zd 3) zn)) (zf (ze zB (zd 0) (zd 3)) zn)))))))) [some (.tup (x::r)),some (.int c),Au w,none,none,none] s=X->v_ [some (.tup (x::r)),some (.int c),none,none,none,none] s=X:=λhX h=>by
    subst hX
    exact zv (zM (yZ TN)) (yH (yy (yI R (zJ (zj (L _ _ rfl) rfl (i6 true (by simp) _)))) (zv (yh (zj (zh rfl) rfl W)) h)))
   have T:∀(j:Nat) (b:Bool),decide ((w:Int)=(j:Int))=b->(mB (ze zQ (zd 2) (Ar (j:Int)))) [some (.tup (x::r)),some (.int c),Au w,none,none,none] s=.ok b s:=λj b h=>zJ (zj (zh rfl) rfl (cV b h _))
   by_cases w0:w=0
   ·exact ⟨_,s++[.lst []],yj rfl (PRE rfl (yH (yy (T 0 true (by simp [w0])) (ya (yc (jS rfl (jF wI (by simp)) (zj (zh rfl) rfl wq)) (by simp)))))),yk _ _,.inr ⟨"head", s.length,[],_,rfl,yq _ _,by decide +kernel,.item (by simp),by simp,λa h=>nomatch h⟩⟩
   by_cases w1:w=1
   ·exact ⟨_,s++[.lst []],yj rfl (PRE rfl (zv (zM (T 0 false (by simp [w0]))) (yH (yy (T 1 true (by simp [w1])) (ya (yc (jS rfl (jF wI (by simp)) (ql (zh rfl) (nk (i:=((1:Nat):Int)) rfl) vG (by rw [uq,xT _ _ (by simp)];rfl))) (by simp))))))),yk _ _,.inr ⟨"rest", s.length,[],.tup r,rfl,yq _ _,by decide +kernel,.rest,by simp,λa h=>nomatch h⟩⟩
   ·obtain ⟨p,hp,P⟩:=h7 (x:=yK c 4) (j:=(x::r).length) h0 s
    exact ⟨_,s++[.lst [.int (p:Int)]],yj rfl (PRE rfl (zv (zM (T 0 false (yA (by omega)))) (zv (zM (T 1 false (yA (by omega)))) (zv (yh (zj (zj (zh rfl) rfl (jG _ _ (by decide) (by decide))) (L _ _ rfl) P)) (ya (yc (jS rfl (jF (zU (zh rfl)) (by simp)) (zj (zh rfl) (zh rfl) (JA hp _))) (by simp))))))),yk _ _,.inr ⟨"item", s.length,[.int (p:Int)],_,rfl,yq _ _,by decide +kernel,.item (jJ hp),by simp,λa h u=>by rw [jh.mp h];exact Aq _⟩⟩
  ·exact ⟨_,s,yj rfl (zv (zM (yZ TN)) (zv (zM (yI R (zJ (zj (L _ _ rfl) rfl (i6 false (yA (by omega)) _))))) (zv (zM C) (ya rfl)))),Old.refl _,.inl rfl⟩
 | ref r =>
  obtain ⟨ks,xs,e,g1,g2,g3,g4,g5⟩:=h
  have e':=k _ _ _ e
  have so:nr [.ref r] s=.ok (.ref s.length) (s++[.lst ((bz ks).map PV.str)]):=by
   show yY s r _=_
   rw [ng e',zw g4]
  have ls:(bz ks).length=ks.length:=(List.mergeSort_perm ks cJ).length_eq
  let s1:=s++[SO.lst ((bz ks).map PV.str)]
  have L:yg [.ref s.length] s1=.ok (.int (((bz ks).map PV.str).length:Int)) s1:=qk (yq _ _)
  have hl:0<((bz ks).map PV.str).length:=by simp;omega
  obtain ⟨p,hp,P⟩:=h7 (x:=yK c 4) hl s1
  have hp':p<(bz ks).length:=by simpa using hp
  have IX:=lK (s:=s1) (yq s (SO.lst ((bz ks).map PV.str))) hp
  obtain ⟨z,hz⟩:∃z,(bz ks)[p]'hp'=z:=⟨_,rfl⟩
  rw [List.getElem_map,hz] at IX
  have zm:z∈ks:=(List.mergeSort_perm ks cJ).mem_iff.mp (hz▸jJ hp')
  obtain ⟨j,hj,ej⟩:=jZ zm
  have lk:(ks.zip xs).lookup z=some (xs[j]'(by omega)):=g_ g1 (by rw [zK hj,ej]) (zK (by omega))
  let s2:=s1++[SO.lst [.str z]]
  have o1:Old s s1:=yk _ _
  have o2:Old s1 s2:=yk _ _
  exact ⟨_,s2,yj rfl (zv (zM (yZ TN)) (zv (zM (yZ R)) (yH (yy C (zv (yh (zR (zU (zh rfl)) so)) (zv (yh (zj (zh rfl) (zj (zj (zh rfl) rfl (jG _ _ (by decide) (by decide))) (zR (zU (zh rfl)) L) P) IX)) (ya (yc (jS rfl (jF (zU (zh rfl)) (by simp)) (zj (zh rfl) (zh rfl) (nI (o2 _ _ (o1 _ _ e')) lk))) (by simp))))))))),o1.trans o2,.inr ⟨"field", s1.length,[.str z],_,rfl,yq _ _,by decide +kernel,.fld e (jJ (by omega)),by simp,λa h u=>by rw [jh.mp h];exact JB _⟩⟩
 | _=>exact h.elim
end
abbrev isA (v:PV):PV:=.tup [.str "is", v]
abbrev fz (z:Str):PV:=.tup [.str "of", .str z]
abbrev dU (z op:Str) (as:An):PV:=.tup [.str "let", .str z,.str op,.tup as]
def h8 (u:ae) (ks:Ad) (vs:An) (a v:PV):Prop:=(a=isA v/\Raw u v)\/∃z,a=fz z/\z∈ks/\(ks.zip vs).lookup z=some v
structure Sp (u:ae) (ks:Ad) (vs:An) (z:Str) (fh val:PV):Prop where
 ex:∃op a as v,fh=dU z op (a::as)/\h8 u ks vs a v/\(∀b∈as,∃w,b=isA w/\Raw u w)/\as.length<=1/\((op = "add" \/ op = "front")\/(op∈ct_FALLING/\Fa u v val))
 vl:∃n,Vl u n val
abbrev eT (c:Int) (z:Str) (D N:Nat) (old:Str) (v a:PV) (r:Ao):zc:=[some (.int c),some (.str z),At D,At N,some (.str old),some v,some a,r]
section
variable {s:ae}{D:Nat}{ks:Ad}{vs:An}{z:Str}{c:Int}
def qR {r:Nat}{xs:An}{j:Nat}(hr:s[r]?=some (.lst xs)) (h:j<xs.length):zB (.ref r) (.int (0-1-(j:Int))) s=.ok (xs[xs.length-1-j]'(by omega)) s:=by
 have e:gg xs.length (0-1-(j:Int))=some (xs.length-1-j):=by
  unfold gg
  rw [zC (by omega),zw (by omega)]
  congr 1
  omega
 rw [m3,yp hr]
 simp only [cb,e,Option.bind_some,zK (show xs.length-1-j<xs.length by omega)]
 rfl
def pick (hD:s[D]?=some (.dic ks vs)) (nd:ks.Nodup) (hl:ks.length=vs.length) (h0:0<ks.length) (hv:∀v∈vs,∃n,Vl (hd D s) n v):∃N old v a s2,∃m:Nat,m<16/\yw c 16=(m:Int)/\(∀{X:Res Fl},xb (eT c z D N old v a none) s2=X->qw [some (.int c),some (.str z),At D,none,none,none,none,none] s=X)/\Old s s2/\(∃n,Vl (hd D s2) n v)/\h8 (hd D s2) ks vs a v:=by
 let s1:=s++[SO.lst (ks.map PV.str)]
 have o1:Old s s1:=yk _ _
 have LD:wZ [.ref D] s=.ok (.ref s.length) s1:=by simp only [wZ,hD];rfl
 have t1:s1[s.length]?=some (.lst (ks.map PV.str)):=yq _ _
 have D1:=o1 _ _ hD
 have lm:(ks.map PV.str).length=ks.length:=ji ..
 have L:yg [.ref s.length] s1=.ok (.int (ks.length:Int)) s1:=(qk t1).trans (by rw [lm])
 obtain ⟨q,hq,JF,Q⟩:∃q:Nat,q<=ks.length/\0<q/\iW [.int 4,.int (ks.length:Int)] s1=.ok (.int (q:Int)) s1:=by
  rw [GO]
  by_cases h:(ks.length:Int)<4
  ·exact ⟨ks.length,zI _,h0,by rw [zw h]⟩
  ·exact ⟨4,by omega,by decide,by rw [zC h];rfl⟩
 obtain ⟨p,hp,P⟩:=h7 (x:=yK c 16) JF s1
 have pk:p<(ks.map PV.str).length:=by rw [lm];omega
 have I1:=qR t1 pk
 obtain ⟨z1,Av⟩:∃z1,ks[ks.length-1-p]'(by omega)=z1:=⟨_,rfl⟩
 have I1:zB (.ref s.length) (.int (0-1-(p:Int))) s1=.ok (.str z1) s1:=I1.trans (by rw [List.getElem_map];simp only [ji,Av])
 have E4:(zZ 4 (ze zB (zd 3) (ze jQ (ze jQ (Ar 0) (Ar 1)) (ze zH (ze yl (zd 0) (Ar 16)) (zu iW (zf (Ar 4) (zf (zu yg (zf (zd 3) zn)) zn))))))) [some (.int c),some (.str z),At D,At s.length,none,none,none,none] s1=.ok (.nx [some (.int c),some (.str z),At D,At s.length,some (.str z1),none,none,none]) s1:=yh (zj (zh rfl) (zj (zj rfl rfl (lF _ _)) (zj (zj (zh rfl) rfl (jG _ _ (by decide) (by decide))) (zR (yi rfl (zR (zU (zh rfl)) L)) Q) P) (lF _ _)) I1)
 have JG:z1∈ks:=Av▸jJ _
 obtain ⟨old,om,E5⟩:∃old,old∈ks/\(zT (mB (ze zQ (ze zH (ze yl (zd 0) (Ar 64)) (Ar 3)) (Ar 0))) (zZ 4 (ze zB (zd 3) (ze zH (ze yl (zd 0) (Ar 192)) (zu yg (zf (zd 3) zn))))) zW) [some (.int c),some (.str z),At D,At s.length,some (.str z1),none,none,none] s1=.ok (.nx [some (.int c),some (.str z),At D,At s.length,some (.str old),none,none,none]) s1:=by
  obtain ⟨w,hw,W⟩:=h7 (x:=yK c 64) (j:=3) (by decide) s1
  obtain ⟨y,hy,Y⟩:=h7 (x:=yK c 192) h0 s1
  by_cases w0:w=0
  ·have I2:=lK t1 (show y<(ks.map PV.str).length by rw [lm];exact hy)
   rw [List.getElem_map] at I2
   exact ⟨_,jJ hy,yy (zJ (zj (zj (zj (zh rfl) rfl (jG _ _ (by decide) (by decide))) rfl W) rfl (cV true (by simp [w0]) _))) (yh (zj (zh rfl) (zj (zj (zh rfl) rfl (jG _ _ (by decide) (by decide))) (zR (zU (zh rfl)) L) Y) I2))⟩
  ·exact ⟨z1,JG,zM (zJ (zj (zj (zj (zh rfl) rfl (jG _ _ (by decide) (by decide))) rfl W) rfl (cV false (yA (by omega)) _)))⟩
 obtain ⟨j,hj,ej⟩:=jZ om
 have h_:j<vs.length:=by omega
 have lk:(ks.zip vs).lookup old=some (vs[j]'h_):=g_ nd (by rw [zK hj,ej]) (zK h_)
 obtain ⟨n0,V0⟩:=hv _ (jJ h_)
 have E6:=nI D1 lk
 obtain ⟨m,hm,em⟩:=dS c 16 (by decide)
 have em:yw c 16=(m:Int):=em
 have T:∀(e:zc) (s:ae) (b:Bool),e[0]?=some (some (.int c))->decide ((m:Int)=0)=b->(mB (ze zQ (ze zH (zd 0) (Ar 16)) (Ar 0))) e s=.ok b s:=λe s b he h=>zJ (zj (zj (zh he) rfl ((wn _ _ (by decide)).trans (by rw [em]))) rfl (cV b h _))
 by_cases m0:m=0
 ·obtain ⟨v,s2,EV,o2,hV⟩:=y_ (yK c 16) s1
  have R:=hV (hd D s2) (Ag (by have:=yB D1;exact this))
  exact ⟨s.length,old,v,isA v,s2,m,hm,em,λh=>zv (yh (zR (zU (zh rfl)) LD)) (zv E4 (zv E5 (zv (yh (zj (zh rfl) (zh rfl) E6)) (zv (yy (T _ _ true rfl (by simp [m0])) (yh (zR (zU (zj (zh rfl) rfl (jG _ _ (by decide) (by decide)))) EV))) (zv (yh (yc (yi rfl (zh rfl)) (by simp))) (zv (yy (T _ _ true rfl (by simp [m0])) (yh (yc (yi rfl (zh rfl)) (by simp)))) h)))))),o1.trans o2,⟨6,R.1⟩,.inl ⟨rfl,R⟩⟩
 ·have mF:decide ((m:Int)=0)=false:=yA (by omega)
  exact ⟨s.length,old,vs[j]'h_,fz old,s1,m,hm,em,λh=>zv (yh (zR (zU (zh rfl)) LD)) (zv E4 (zv E5 (zv (yh (zj (zh rfl) (zh rfl) E6)) (zv (zM (T _ _ false rfl mF)) (zv (yh (yc (yi rfl (zh rfl)) (by simp))) (zv (zM (T _ _ false rfl mF)) h)))))),o1,⟨n0,V0.kd (hU o1.kx)⟩,.inr ⟨old,rfl,om,lk⟩⟩
def qS {z:Str}{x:PV}{ks:Ad}{xs:An}(h:z∉ks):jt z x ks xs=(ks++[z],xs++[x]):=by
 unfold jt
 rw [zC (by simpa using h)]
def JH (hD:s[D]?=some (.dic ks vs)) (nd:ks.Nodup) (hl:ks.length=vs.length) (h0:0<ks.length) (h9:ks.length<=900) (hz:z∉ks) (hv:∀v∈vs,∃n,Vl (hd D s) n v):∃fh val s1,lH [.int c,.str z,.ref D] s=.ok fh s1/\Kx [D] s s1/\s1[D]?=some (.dic (ks++[z]) (vs++[val]))/\Sp (hd D s1) ks vs z fh val:=by
 obtain ⟨N,old,v,a,s2,m,hm,em,PRE,o2,⟨n,V⟩,A⟩:=pick (c:=c) (z:=z) hD nd hl h0 hv
 have D2:=o2 _ _ hD
 have V2:=V.kd z_
 obtain ⟨R,s3,EF,o3,FR⟩:=JE V z_ (yK c 3)
 have D3:=o3 _ _ D2
 have N3:=nM (V2.kd o3.kd)
 let e7:=eT c z D N old v a (some R)
 have lL:∀{X:Res Fl},w_ e7 s3=X->qw [some (.int c),some (.str z),At D,none,none,none,none,none] s=X:=λh=>PRE (zv (yh (zR (yi (zh rfl) (zj (zh rfl) rfl (jG _ _ (by decide) (by decide)))) EF)) h)
 have T:∀(j:Nat) (b:Bool),decide ((m:Int)=(j:Int))=b->(mB (ze zQ (ze zH (zd 0) (Ar 16)) (Ar (j:Int)))) e7 s3=.ok b s3:=λj b h=>zJ (zj (zj (zh rfl) rfl ((wn _ _ (by decide)).trans (by rw [em]))) rfl (cV b h _))
 have fin:∀{s4:ae} (val:PV) (fv:Ai),fv e7 s3=.ok val s4->Old s3 s4->∃s5,(jD (zd 2) (zd 1) fv) e7 s3=.ok (.nx e7) s5/\Kx [D] s s5/\s5[D]?=some (.dic (ks++[z]) (vs++[val]))/\s5=s4.set D (.dic (ks++[z]) (vs++[val])):=λ{s4} val fv hf o4=>by
  have D4:=o4 _ _ D3
  have P:=qD (fo:=zd 2) (fi:=zd 1) (fv:=fv) (e:=e7) (s:=s3) hf (zh rfl) (zh rfl) D4 (by omega)
  rw [qS hz] at P
  exact ⟨_,P,(((o2.trans o3).trans o4).kx).trans (j6 (by simp)),yW (yB D4),rfl⟩
 have kA:∀{s5:ae},Kd (hd D s2) (hd D s5)->h8 (hd D s5) ks vs a v:=λ{s5} k=>by
  rcases A with ⟨h,r⟩|h
  ·exact .inl ⟨h,r.kd k⟩
  ·exact .inr h
 have kv:∀{x:PV},Kd (hd D s2) (hd D (s3.set D (.dic (ks++[z]) (vs++[x])))):=λ{x}=>hU (o3.kx.trans (j6 (by simp)))
 by_cases c1:m=1/\∃i:Int,v=.int i/\i<100000000000000000
 ·obtain ⟨m1,i,rfl,hi⟩:=c1
  obtain ⟨s5,E5,k5,t5,e5⟩:=fin (.int (i+100000000000000000)) (ze z8 (zd 5) (ze y4 (Ar 10) (Ar 17))) (zj (zh rfl) (zj rfl rfl (lJ _)) (qm _ _)) (Old.refl _)
  refine ⟨_,_,s5,yj rfl (lL (yH (yy (yI (T 1 true (by simp [m1])) (yI (zJ (zR (zU (zh rfl)) N3)) (zJ (zj (zh rfl) (zj rfl rfl (lJ _)) (xy true (je hi) _))))) (zv E5 (ya (yc (nF rfl (zh rfl) rfl (yc (yi (zh rfl) (yc (yi rfl (zj rfl rfl (lJ _))) (by simp))) (by simp))) (by simp))))))),k5,t5,⟨⟨"add", a,_,.int i,rfl,kA (by rw [e5];exact kv),λb hb=>⟨.int 100000000000000000,jh.mp hb,Aq _⟩,by simp,.inl (.inl rfl)⟩,1,trivial⟩⟩
 have NA:(yE (mB (ze zQ (ze zH (zd 0) (Ar 16)) (Ar 1))) (yE (mB (zu jH (zf (zd 5) zn))) (mB (ze oLt (zd 5) (ze y4 (Ar 10) (Ar 17)))))) e7 s3=.ok false s3:=by
  by_cases m1:m=1
  ·by_cases hn:gA v=true
   ·cases v with
    | int i =>
     have hi:¬i<100000000000000000:=λh=>c1 ⟨m1,i,rfl,h⟩
     exact yI (T 1 true (by simp [m1])) (yI (zJ (zR (zU (zh rfl)) N3)) (zJ (zj (zh rfl) (zj rfl rfl (lJ _)) (xy false (yA hi) _))))
    | _=>cases hn
   ·have hn:gA v=false:=by simpa using hn
    rw [hn] at N3
    exact yI (T 1 true (by simp [m1])) (yZ (zJ (zR (zU (zh rfl)) N3)))
  ·exact yZ (T 1 false (yA (by omega)))
 have lM:(jO (mB (ze lh (zd 7) (mC .non))) (mB (ze zQ (ze zH (zd 0) (Ar 16)) (Ar 2)))) e7 s3=.ok true s3->∃fh val s1,lH [.int c,.str z,.ref D] s=.ok fh s1/\Kx [D] s s1/\s1[D]?=some (.dic (ks++[z]) (vs++[val]))/\Sp (hd D s1) ks vs z fh val:=λTT=>by
  obtain ⟨s5,E5,k5,t5,e5⟩:=fin (.tup [v]) (zS (zf (zd 5) zn)) (yc (zU (zh rfl)) (by simp)) (Old.refl _)
  refine ⟨_,_,s5,yj rfl (lL (zv (zM NA) (yH (yy TT (zv E5 (ya (yc (nF rfl (zh rfl) rfl (yc (yi (zh rfl) (yc (yi rfl (yc wI (by simp))) (by simp))) (by simp))) (by simp)))))))),k5,t5,⟨⟨"front", a,_,v,rfl,kA (by rw [e5];exact kv),λb hb=>⟨.tup [],jh.mp hb,JC⟩,by simp,.inl (.inr rfl)⟩,n+1,qQ (λx hx=>by rw [jh.mp hx,e5];exact V.kd kv) (by simp)⟩⟩
 rcases FR with rfl|⟨op,q,as,t,rfl,hq,ho,fa,la,ra⟩
 ·exact lM (vD (zJ (zj (zh rfl) rfl rfl)))
 have NO:(mB (ze lh (zd 7) (mC .non))) e7 s3=.ok false s3:=zJ (zj (zh rfl) rfl rfl)
 by_cases m2:m=2
 ·exact lM (lE NO (T 2 true (by simp [m2])))
 ·obtain ⟨s5,E5,k5,t5,e5⟩:=fin t (ze zB (zd 7) (Ar 2)) (zj (zh rfl) rfl nG) (Old.refl _)
  have JI:s5[q]?=some (.lst as):=by
   rw [e5,y0 (λh=>by rw [h,hq] at D3;cases D3)]
   exact hq
  let s6:=s5++[SO.lst [a]]
  have Aw:s6[q]?=some (.lst as):=yk _ _ _ _ JI
  let s7:=s6++[SO.lst (as.map isA)]
  have C:(jE (jm (ze zB (zd 7) (Ar 1))) (zS (zf (As "is") (zf (zd 0) zn)))) e7 s6=.ok (.ref s6.length) s7:=by
   rw [p6,iU,zj (op:=zB) (zh (v:=.tup [.str op,.ref q,t]) rfl) rfl jT]
   simp only [zD,c9]
   rw [yp Aw]
   have:=GG (fe:=(zS (zf (As "is") (zf (zd 0) zn)))) (env:=e7) (f:=isA) (st:=s6) Aw (λx hx=>yc (yi rfl (zh rfl)) (by simp)) as.length 0 (lim+1) [] (by omega) (by omega) (by simp [lim];omega)
   rw [List.drop_zero] at this
   exact this
  have AD:z8 (.ref s5.length) (.ref s6.length) s7=.ok (.ref s7.length) (s7++[.lst ([a]++as.map isA)]):=xD (yk _ _ _ _ (yq _ _)) (yq _ _) (by simp;omega)
  let s8:=s7++[SO.lst ([a]++as.map isA)]
  have o8:Old s5 s8:=((yk _ _).trans (yk _ _)).trans (yk _ _)
  have k8:Kd (hd D s2) (hd D s8):=by
   have:Kd (hd D s2) (hd D s5):=by rw [e5];exact kv
   exact this.trans (hU o8.kx)
  refine ⟨_,t,s8,yj rfl (lL (zv (zM NA) (zv (zM (lE NO (T 2 false (yA (by omega))))) (zv E5 (ya (yc (nF rfl (zh rfl) (zj (zh rfl) rfl wq) (zR (zU (zj (jF (zU (zh rfl)) (by simp)) C AD)) (by rw [m5,yp (yq _ _)];rfl))) (by simp))))))),k5.trans o8.kx,o8 _ _ t5,⟨⟨op,a,as.map isA,v,rfl,kA k8,λb hb=>?_,by simpa using la,.inr ⟨ho,fa.kd k8⟩⟩,n,(fa.vl V).kd k8⟩⟩
  obtain ⟨x,hx,rfl⟩:=jw.mp hb
  exact ⟨x,rfl,ra x hx _⟩
end
structure All (u:ae) (ps:Ad) (aZ:An) (zs:Ad) (aJ vals:An):Prop where
 l0:ps.length=aZ.length
 l1:aJ.length=zs.length
 l2:vals.length=zs.length
 few:zs.length<=100
 nd:(ps++zs).Nodup
 pr:∀v∈aZ,Raw u v
 st:∀(i:Nat) z s v,zs[i]?=some z->aJ[i]?=some s->vals[i]?=some v->Sp u (ps++zs.take i) (aZ++vals.take i) z s v
def lN (op:Str):Prop:=(op = "add" \/ op = "front")\/op∈ct_FALLING
abbrev ia (w:Str) (k:Int):SO:=.ins "Op" ["word", "many"] [.str w,.int k]
def JJ {α:Type}(x:α) (r:List α):cb (x::r) 0=some x:=a9 (k:=0) rfl
def qT:∀zs:Ad,bo (zs.map PV.str)=true
 | []=>rfl
 | z::zs=>by simp [bo,Mi.plain,qT zs]
def qU:∀zs:Ad,cU (zs.map PV.str)=0
 | []=>rfl
 | z::zs=>by simp [cU,dep,qU zs]
def Ax (z:Str) (zs:Ad):(zs.map PV.str).any (λy=>bg y (.str z))=decide (z∈zs):=by
 simp only [List.any_map,Function.comp_def,bg]
 rw [Bool.eq_iff_iff,List.any_eq_true,wx]
 constructor
 ·rintro ⟨x,hx,e⟩
  rw [beq_iff_eq] at e
  exact e▸hx
 ·intro h
  exact ⟨z,h,by simp⟩
def JK (n:Bool) (z:Str) (zs:Ad) (st:ae):yD n (.str z) (.tup (zs.map PV.str)) st=.ok (.bl (n.xor (decide (z∈zs)))) st:=by
 rw [uW,zw ⟨rfl,qT zs,by rw [qU];omega⟩,Ax]
def JL {op f:Str}{ks:Ad}(h:(w8.zip w9).lookup op=some (.tup [.tup (ks.map PV.str),.fn f])) (st:ae):lI [.str op] st=.ok (.ref st.length) (st++[ia op ks.length]):=by
 simp [lI,yz,xm,xl,kU,h,ix,qx,xk,xj,jb,insOf,Mi.putK,JJ]
def JM {o:Str}(h:lN o):∃(ks:Ad) (f:Str),(w8.zip w9).lookup o=some (.tup [.tup (ks.map PV.str),.fn f]):=by
 have h:o = "add" \/ o = "front" \/ o = "down" \/ o = "head" \/ o = "rest" \/ o = "item" \/ o = "field" := by
  rcases h with (h|h)|h
  ·exact .inl h
  ·exact .inr (.inl h)
  ·simp only [ct_FALLING,yv,List.not_mem_nil,or_false] at h
   exact .inr (.inr h)
 rcases h with h|h|h|h|h|h|h<;>(rw [h];first|exact ⟨["number"],_,rfl⟩|exact ⟨["number", "number"],_,rfl⟩|exact ⟨["row"],_,rfl⟩|exact ⟨["any", "row"],_,rfl⟩|exact ⟨["row", "number"],_,rfl⟩|exact ⟨["record", "word"],_,rfl⟩)
def JN {st:ae}{o:Nat}{w:Str}{k:Int}(ho:st[o]?=some (ia w k)):m_Op_falls [.ref o] st=.ok (.bl (decide (w∈ct_FALLING))) st:=by
 refine yj rfl (ya (zj (vC (zh rfl) (X:=.ok (.str w) st) ?_) rfl ((JK false _ _ _).trans (by simp))))
 rw [F4,uv ho,zw (show insOf "Op" = true by simp [insOf])]
 simp [jf]
def JO {z op:Str}{as:An}(ho:lN op) (st:ae):∃s1,nA [dU z op as] st=.ok (.bl (decide (op∈ct_FALLING))) s1/\Old st s1:=by
 obtain ⟨ks',f,hk⟩:=JM ho
 have N:=JL hk st
 have hO:(st++[ia op ks'.length])[st.length]?=some (ia op ks'.length):=yq _ _
 have F:=JN hO
 have M:(mR "falls" i3 (zu lI (zf (ze zB (zd 0) (Ar 2)) zn)) zn) [some (dU z op as)] st=.ok (.bl (decide (op∈ct_FALLING))) (st++[ia op ks'.length]):=by
  unfold mR
  rw [zR (zU (zj (zh rfl) rfl nG)) N,zD]
  have hm:∀(c:Nat->(Al)->Res PV),dN "falls" i3 (.ref st.length) (st++[ia op ks'.length]) c=c st.length m_Op_falls:=F3 hO (by decide +kernel) (by simp [i3])
  rw [hm]
  exact F
 exact ⟨st++[ia op ks'.length],yj rfl (ya (vF (zj (zj (zh rfl) rfl wq) rfl (i7 _)) M)),yk _ _⟩
abbrev gd:PV:=.tup [.str "give", isA (.int 0)]
abbrev dr (ss:An):PV:=.tup [.tup ss,gd]
def JP:("give" : Str) ≠ "if" := by decide +kernel
def JQ {ss:An}(hl:ss.length<=1000) (st:ae):i5 2 [dr ss] st=.ok (.tup (ss++[gd])) st:=by
 show qy (i5 1) [dr ss] st=_
 exact yj rfl (zv (yh (zj (zh rfl) rfl jT)) (zv (yh (zj (zj (zh rfl) rfl wq) (yc (zU (zh rfl)) (by simp)) (IL (by simp;omega)))) (zv (zM (zJ (zj (zj (zh rfl) rfl wq) rfl (g9 JP _)))) (ya (zh rfl)))))
abbrev bN:Aj:=(zT (mB (zu nB (zf (zd 2) zn)))
  (jD (zd 1) (ze zB (zd 2) (Ar 1)) (zd 2))
  zW)
def Ay {w:Str} {r:An} {c:Bool} (hc:((("let" : Str)==w)||(("call" : Str)==w))=c) (st:ae):nB [.tup (.str w::r)] st=.ok (.bl c) st:=yj rfl (ya (zj (zj (zh rfl) rfl wq) (yc (yi rfl rfl) (by simp)) (IQ w c hc st)))
section
variable {u:ae}{ps zs:Ad}{aZ aJ vals:An}
def All.at_ (A:All u ps aZ zs aJ vals) {i:Nat}(h:i<zs.length):∃z s v,zs[i]?=some z/\aJ[i]?=some s/\vals[i]?=some v/\Sp u (ps++zs.take i) (aZ++vals.take i) z s v:=by
 have h1:i<aJ.length:=by rw [A.l1];exact h
 have h2:i<vals.length:=by rw [A.l2];exact h
 exact ⟨_,_,_,zK h,zK h1,zK h2,A.st i _ _ _ (zK h) (zK h1) (zK h2)⟩
def JR (A:All u ps aZ zs aJ vals) (nz pv:PV) (st:ae):∃s1,qz [.tup [nz,pv,dr aJ]] st=.ok (.ref st.length) s1/\s1[st.length]?=some (.dic zs aJ)/\Old st s1:=by
 have few:=A.few
 have E:=JQ (ss:=aJ) (by rw [A.l1];omega) (st++[.dic [] []])
 obtain ⟨e',s1,F,h⟩:=eI (g:=gN 2) (body:=bN) (aJ++[gd]) (λi e aU=>(∃y,e=[some (.tup [nz,pv,dr aJ]),At st.length,y])/\aU[st.length]?=some (.dic (zs.take i) (aJ.take i))/\Kx [st.length] (st++[.dic [] []]) aU) (λi x e aU hx ⟨⟨y,he⟩,hd,k⟩=>by
  subst he
  by_cases hi:i<aJ.length
  ·have hz:i<zs.length:=by rw [<-A.l1];exact hi
   obtain ⟨z,s,v,ez,es,ev,S⟩:=A.at_ hz
   rw [jj hi,es] at hx
   cases hx
   obtain ⟨op,a,as,w,rfl,_⟩:=S.ex
   have P:=qD (fo:=zd 1) (fi:=(ze zB (zd 2) (Ar 1))) (fv:=zd 2) (e:=[some (.tup [nz,pv,dr aJ]),At st.length,some (dU z op (a::as))]) (s:=aU) (zh rfl) (zh rfl) (zj (zh rfl) rfl jT) hd (by simp;omega)
   have JS:z∉zs.take i:=λhm=>by
    obtain ⟨j,hj,ej⟩:=jZ hm
    have nS:zs.Nodup:=(List.nodup_append.mp A.nd).2.1
    simp at hj
    rw [List.getElem_take] at ej
    have JT:zs[i]'hz=z:=by rw [zK hz] at ez;injection ez
    have:=xB nS (by omega) hz (ej.trans JT.symm)
    omega
   rw [qS JS,<-qB ez,<-qB es] at P
   exact ⟨_,_,_,rfl,yy (zJ (zR (zU (zh rfl)) (Ay (c:=true) (by decide +kernel) _))) P,⟨_,rfl⟩,yW (yB hd),k.trans (j6 (by simp))⟩
  ·have e1:i=aJ.length:=by
    have:=(yf.mp hx).1
    simp at this
    omega
   rw [e1,jd (zI _),Nat.sub_self] at hx
   cases hx
   rw [e1,List.take_of_length_le (zI _),List.take_of_length_le (by rw [A.l1];exact zI _)] at hd
   refine ⟨_,_,_,rfl,zM (zJ (zR (zU (zh rfl)) (Ay (c:=false) (by decide +kernel) _))),⟨_,rfl⟩,?_,k⟩
   rw [List.take_of_length_le (by rw [<-A.l1];omega),List.take_of_length_le (by omega)]
   exact hd) (aJ++[gd]).length 0 [some (.tup [nz,pv,dr aJ]),At st.length,none] (st++[.dic [] []]) (by omega) ⟨⟨_,rfl⟩,by simp,Kx.refl _ _⟩
 obtain ⟨⟨y,rfl⟩,hd,k⟩:=h
 have FO:(we (jm (zu (i5 2) (zf (ze zB (zd 0) (Ar 2)) zn))) (gN 2) bN) [some (.tup [nz,pv,dr aJ]),At st.length,none] (st++[.dic [] []])=.ok (.nx [some (.tup [nz,pv,dr aJ]),At st.length,y]) s1:=by
  rw [pR,iU,zR (zU (zj (zh rfl) rfl nG)) E]
  simp only [zD,c9]
  rw [List.drop_zero] at F
  exact F
 rw [List.take_of_length_le (by simp [<-A.l1]),List.take_of_length_le (by simp)] at hd
 exact ⟨s1,yj rfl (zv (yh rfl) (zv FO (ya (zh rfl)))),hd,λm so e=>k m so (by have:=yB e;simp;omega) (yk _ _ _ _ e)⟩
end
abbrev tP:Ak:=(yE (mB (ze zQ (ze zB (zd 1) (Ar 0)) (As "of"))) (yE (mB (ze (yD false) (ze zB (zd 1) (Ar 1)) (zd 0))) (mB (zu nA (zf (ze zB (zd 0) (ze zB (zd 1) (Ar 1))) zn)))))
abbrev bP:Aj:=(zZ 1 (ze zB (ze zB (ze zB (zd 0) (ze zB (zd 1) (Ar 1))) (Ar 3)) (Ar 0)))
def PR (zs:Ad) (JU:An) (i:Nat) (a R:PV):Prop:=∀d s,s[d]?=some (.dic zs JU)->∃a' s',Old s s'/\(∀fuel,i<fuel->bp tP bP fuel [At d,some a] s=.ok (.nx [At d,some a']) s')/\xn [At d,some a'] s'=.ok (.rt R) s'
def AM (aJ:An) (a:PV):Prop:=∃z op as,dU z op as∈aJ/\a∈as
def Ou (u:ae) (ps:Ad) (aZ aJ:An) (v R:PV):Prop:=(∃p w,R=fz p/\p∈ps/\(ps.zip aZ).lookup p=some w/\PC u v w)\/(∃z op as,R=.tup [.str "made", .str z]/\dU z op as∈aJ/\(op = "add" \/ op = "front"))\/(R=.tup [.str "is", .non]/\∃w,Raw u w/\AM aJ (isA w)/\PC u v w)
def Ou.fall {u:ae}{ps:Ad}{aZ aJ:An}{v t R:PV}(h:Ou u ps aZ aJ v R) (f:Fa u v t):Ou u ps aZ aJ t R:=by
 rcases h with ⟨p,w,h1,h2,h3,h4⟩|h|⟨h1,w,h2,h3,h4⟩
 ·exact .inl ⟨p,w,h1,h2,h3,h4.fall f⟩
 ·exact .inr (.inl h)
 ·exact .inr (.inr ⟨h1,w,h2,h3,h4.fall f⟩)
section
variable {u:ae}{ps zs:Ad}{aZ aJ vals:An}
def qV {α:Type}{k:Str}{ks ls:Ad}{xs ys:List α}(hl:ks.length=xs.length):((ks++ls).zip (xs++ys)).lookup k=((ks.zip xs).lookup k).or ((ls.zip ys).lookup k):=by
 rw [List.zip_append hl]
 induction ks.zip xs with
 | nil=>simp
 | cons p r ih =>
  obtain ⟨a,b⟩:=p
  rw [List.cons_append,jf,jf]
  cases k==a<;>simp [ih]
def JV:∀op:Str,(op = "add" \/ op = "front")->op∉ct_FALLING:=by
 have h1:("add" : Str)∉ct_FALLING:=by decide +kernel
 have h2:("front" : Str)∉ct_FALLING:=by decide +kernel
 rintro op (rfl|rfl)
 ·exact h1
 ·exact h2
def roots (A:All u ps aZ zs aJ vals):∀(i:Nat) (a v:PV),i<=zs.length->h8 u (ps++zs.take i) (aZ++vals.take i) a v->(a=isA v->AM aJ a)->∃R,PR zs aJ i a R/\Ou u ps aZ aJ v R:=by
 have nS:zs.Nodup:=(List.nodup_append.mp A.nd).2.1
 have l0:=A.l0
 have l1:=A.l1
 have l2:=A.l2
 intro i
 induction i using Nat.strongRecOn with
 | _ i ih =>
  intro a v hi ha hm
  rcases ha with ⟨rfl,hr⟩|⟨z,rfl,hz,lk⟩
  ·exact ⟨.tup [.str "is", .non],λd s hd=>⟨_,s,Old.refl _,λfuel hf=>nQ (yZ (q0 rfl (g9 xQ _))) fuel (by omega),yH (yy (q0 rfl (i7 _)) (ya (yc (yi rfl rfl) (by simp))))⟩,.inr (.inr ⟨rfl,v,hr,hm rfl,PC.refl _ _⟩)⟩
  ·by_cases hp:z∈ps
   ·have hn:z∉zs:=λh=>(List.nodup_append.mp A.nd).2.2 z hp z h rfl
    have JW:=nH (xs:=aJ) hn
    have JX:=nH (xs:=vals.take i) (λh=>hn (List.mem_of_mem_take h):z∉zs.take i)
    rw [qV l0,JX,Option.or_none] at lk
    refine ⟨fz z,λd s hd=>?_,.inl ⟨z,v,rfl,hp,lk,PC.refl _ _⟩⟩
    have I:=qG (b:=false) hd (by rw [JW];rfl)
    exact ⟨_,s,Old.refl _,λfuel hf=>nQ (yI (q0 rfl (i7 _)) (yZ (zJ (zj (zj (zh rfl) rfl jT) (zh rfl) I)))) fuel (by omega),zv (zM (q0 rfl (g9 nO _))) (zv (zM (zJ (zj (zj (zh rfl) rfl jT) (zh rfl) I))) (ya (zh rfl)))⟩
   ·have tq:z∈zs.take i:=(j1.mp hz).resolve_left hp
    obtain ⟨j,hj,ej⟩:=jZ tq
    have nU:j<i:=by simp at hj;omega
    have Az:j<zs.length:=by omega
    obtain ⟨z',sv,val,ez,es,ev,S⟩:=A.at_ Az
    have e1:zs[j]?=some z:=by rw [zK Az,<-ej];simp
    rw [e1] at ez
    cases ez
    have nV:=g_ nS e1 es
    have ll:val=v:=by
     have lp:=nH (xs:=aZ) hp
     rw [qV l0,lp,Option.none_or] at lk
     have:((zs.take i).zip (vals.take i)).lookup z=some val:=g_ (List.Nodup.sublist (List.take_sublist _ _) nS) (by rw [List.getElem?_take_of_lt nU];exact e1) (by rw [List.getElem?_take_of_lt nU];exact ev)
     rw [this] at lk
     injection lk
    subst ll
    obtain ⟨op,b,as,w,rfl,hb,has,la,ho⟩:=S.ex
    have JY:lN op:=by
     rcases ho with h|h
     ·exact .inl h
     ·exact .inr h.1
    have sm:dU z op (b::as)∈aJ:=jY es
    have tp:∀(s:ae) (d:Nat),s[d]?=some (.dic zs aJ)->∃s1,Old s s1/\tP [At d,some (fz z)] s=.ok (decide (op∈ct_FALLING)) s1:=λs d hd=>by
     obtain ⟨s1,F,o⟩:=JO (z:=z) (as:=b::as) JY s
     exact ⟨s1,o,yI (q0 rfl (i7 _)) (yI (zJ (zj (zj (zh rfl) rfl jT) (zh rfl) (qG (b:=true) hd (by rw [nV];rfl)))) (zJ (zR (zU (zj (zh rfl) (zj (zh rfl) rfl jT) (nI hd nV))) F)))⟩
    by_cases hf:op∈ct_FALLING
    ·have fa:Fa u w val:=by
      rcases ho with h|h
      ·exact absurd hf (JV op h)
      ·exact h.2
     obtain ⟨R,hP,hO⟩:=ih j nU b w (by omega) hb (λ_=>⟨z,op,b::as,sm,by simp⟩)
     refine ⟨R,λd s hd=>?_,hO.fall fa⟩
     obtain ⟨s1,o1,T⟩:=tp s d hd
     rw [je hf] at T
     obtain ⟨a',s',o',L,G⟩:=hP d s1 (o1 _ _ hd)
     refine ⟨a',s',o1.trans o',λfuel JZ=>?_,G⟩
     obtain ⟨f,rfl⟩:∃f,fuel=f+1:=⟨fuel-1,by omega⟩
     rw [xR T (yh (zj (zj (zj (zh rfl) (zj (zh rfl) rfl jT) (nI (o1 _ _ hd) nV)) rfl xC) rfl wq))]
     exact L f (by omega)
    ·have ad:op = "add" \/ op = "front" := ho.resolve_right λh=>hf h.1
     refine ⟨.tup [.str "made", .str z],λd s hd=>?_,.inr (.inl ⟨z,op,_,rfl,sm,ad⟩)⟩
     obtain ⟨s1,o1,T⟩:=tp s d hd
     rw [yA hf] at T
     exact ⟨_,s1,o1,λfuel JZ=>nQ T fuel (by omega),zv (zM (q0 rfl (g9 nO _))) (yH (yy (zJ (zj (zj (zh rfl) rfl jT) (zh rfl) (qG (b:=true) (o1 _ _ hd) (by rw [nV];rfl)))) (ya (yc (yi rfl (zj (zh rfl) rfl jT)) (by simp)))))⟩
def J1 (A:All u ps aZ zs aJ vals) (nz pv:PV) {z:Str}{v:PV}(hz:z∈ps++zs) (lk:((ps++zs).zip (aZ++vals)).lookup z=some v):∃R,Ou u ps aZ aJ v R/\∀st,∃s1,nC [.tup [nz,pv,dr aJ],fz z] st=.ok R s1/\Old st s1:=by
 have ln:lim=1000000:=rfl
 have few:=A.few
 have l2:=A.l2
 obtain ⟨R,hP,hO⟩:=roots A zs.length (fz z) v (zI _) (.inr ⟨z,rfl,by rw [List.take_length];exact hz,by rw [List.take_length,List.take_of_length_le (by omega)];exact lk⟩) (λh=>by
  injection h with h
  injection h with h
  injection h with h
  exact absurd h nO)
 refine ⟨R,hO,λst=>?_⟩
 obtain ⟨s1,E1,h1,o1⟩:=JR A nz pv st
 obtain ⟨a',s2,o2,L,G⟩:=hP st.length s1 h1
 exact ⟨s2,yj rfl (ya (zR (yi (zR (zU (zh rfl)) E1) (zh rfl)) (yj rfl (zv (L lim (by omega)) G)))),o1.trans o2⟩
end
def AA {st:ae}{n:Nat}{z:Str}{zs:Ad}(h:st[n]?=some (.lst (zs.map PV.str))):wj false (.str z) (.ref n) st=.ok (.bl (decide (z∈zs))) st:=by
 simp only [wj,h]
 have e:yD false (.str z) (.ref n) st=if okIn (.str z) (zs.map PV.str) then .ok (.bl (false.xor ((zs.map PV.str).any λy=>bg y (.str z)))) st else .stuck:=by
  simp only [yD,h]
 rw [e,zw ⟨rfl,qT zs,by rw [qU];omega⟩,Ax]
 simp
def wL {x:PV}{r:An}{st:ae}:zV (.tup (x::r)) (.int 0) st=.ok x st:=wq
def ib {x y:PV}{r:An}{st:ae}:zV (.tup (x::y::r)) (.int 1) st=.ok y st:=jT
def J2 {x y z:PV}{r:An}{st:ae}:zV (.tup (x::y::z::r)) (.int 2) st=.ok z st:=nG
def J3 {x y z w:PV}{r:An}{st:ae}:zV (.tup (x::y::z::w::r)) (.int 3) st=.ok w st:=xC
def qW {st:ae}{D:Nat}{ks:Ad}{vs:An}{z:Str}{v:PV}(h:st[D]?=some (.fdi ks vs)) (lk:(ks.zip vs).lookup z=some v):zV (.ref D) (.str z) st=.ok v st:=by
 simp only [zV,h,lk]
 rfl
def cB:∀bs:List Bool,cg (bs.map PV.bl)=some bs
 | []=>rfl
 | b::bs=>by simp [cg,cB bs]
def J4 {st:ae}{n:Nat}{bs:List Bool}(h:st[n]?=some (.lst (bs.map PV.bl))):ni [.ref n] st=.ok (.bl (bs.any id)) st:=by
 unfold ni
 rw [GB,yp h,zD,yp h]
 simp only [cB]
def qX {p:PV->Bool}{f:PV->PV}:∀l:An,(l.flatMap λx=>if p x=true then [f x] else [])=(l.filter p).map f
 | []=>rfl
 | x::l=>by
  rw [List.flatMap_cons,qX l]
  cases h:p x with
  | true=>rw [List.filter_cons_of_pos h];rfl
  | false=>rw [List.filter_cons_of_neg (by simp [h])];simp
abbrev eF (R:PV) (z:Str) (D P L:Nat) (x5 x6 x7:Ao):zc:=[some R,some (.str z),At D,At P,At L,x5,x6,x7]
def qY {R x y:PV}{z:Str}{D P L:Nat}{s:ae}{X:Res Fl}(hR:R=.tup [x,y]) (h:xh (eF R z D P L none none none) s=X):xi (eF R z D P L none none none) s=X:=by
 subst hR
 exact zv (zM (lE (vE (b:=true) (zJ (zR (yi (zh rfl) rfl) rfl))) (zJ (zj (zR (zU (zh rfl)) rfl) rfl ((HD 2 2).trans rfl))))) h
def lQ:PV->Str
 | .tup (_ :: .str z::_)=>z
 | _ => ""
def AB:PV->Str
 | .tup (_::_ :: .str z::_)=>z
 | _ => ""
def i9:PV->An
 | .tup [_,_,_,.tup as]=>as
 | _=>[]
def J5:PV->Str
 | .tup (.str w::_)=>w
 | _ => ""
def AE:PV->PV
 | .tup [_,v]=>v
 | _=>.non
def gE (x:PV):Bool:=decide (AB x = "add")||decide (AB x = "front")
def n_ (x:PV):Bool:=decide (J5 x = "is")
def J6:("made" : Str) ≠ "of" := by decide +kernel
def J7:("is" : Str) ≠ "made" := by decide +kernel
section
variable {u:ae}{ps zs:Ad}{aZ aJ vals:An}{s:ae}{D P L:Nat}{z:Str}{v R:PV}
def nW (A:All u ps aZ zs aJ vals):∀x∈aJ,∃z op a as w,x=dU z op (a::as)/\(a=isA w/\Raw u w\/∃y,a=fz y)/\(∀b∈as,∃w,b=isA w/\Raw u w)/\as.length<=1:=λx hx=>by
 obtain ⟨i,hi,e⟩:=jZ hx
 obtain ⟨z,s,v,ez,es,ev,S⟩:=A.at_ (i:=i) (by rw [<-A.l1];exact hi)
 rw [zK hi,e] at es
 cases es
 obtain ⟨op,a,as,w,h1,h2,h3,h4,_⟩:=S.ex
 refine ⟨z,op,a,as,w,h1,?_,h3,h4⟩
 rcases h2 with h|⟨y,h,_⟩
 ·exact .inl h
 ·exact .inr ⟨y,h⟩
def nX (A:All u ps aZ zs aJ vals) {x:PV}(hx:x∈aJ):(i9 x).length<=2/\∀b∈i9 x,(∃w,b=isA w/\Raw u w)\/∃y,b=fz y:=by
 obtain ⟨z,op,a,as,w,rfl,h2,h3,h4⟩:=nW A x hx
 refine ⟨by show (a::as).length<=2;simp;omega,λb hb=>?_⟩
 rcases yv.mp (show b∈a::as from hb) with rfl|hb
 ·rcases h2 with h|h
  ·exact .inl ⟨w,h⟩
  ·exact .inr h
 ·exact .inl (h3 b hb)
def qZ {A:PV->An}{m:Nat}:∀(ws:An),(∀w∈ws,(A w).length<=m)->(ws.flatMap A).length<=ws.length*m
 | [],_=>by simp
 | w::ws,h=>by
  have:=qZ ws λx hx=>h x (by simp [hx])
  have:=h w (by simp)
  rw [List.flatMap_cons,jW,jx,Nat.add_mul]
  omega
def J8 (A:All u ps aZ zs aJ vals) (O:Ou u ps aZ aJ v R) (k:Kd u s) (hD:s[D]?=some (.fdi (ps++zs) (aZ++vals))) (hP:s[P]?=some (.lst (ps.map PV.str))) (hL:s[L]?=some (.lst aJ)) (lk:((ps++zs).zip (aZ++vals)).lookup z=some v):∃s1,nv [R,.str z,.ref D,.ref P,.ref L] s=.ok (.bl true) s1/\Old s s1:=by
 have few:=A.few
 have l1:=A.l1
 rcases O with ⟨p,w,rfl,hp,lp,pc⟩|⟨y,op,as,rfl,hm,ho⟩|⟨rfl,w,lR,⟨y,op,as,hm,ha⟩,pc⟩
 ·have wm:w∈aZ:=by
   obtain ⟨l1,l2,e,_⟩:=List.lookup_eq_some_iff.mp lp
   have:(p,w)∈ps.zip aZ:=by rw [e];simp
   exact (List.of_mem_zip this).2
  have lR:=(A.pr w wm).kd k
  have J9:((ps++zs).zip (aZ++vals)).lookup p=some w:=by rw [qV A.l0,lp];rfl
  have AF:=pc.kd k
  obtain ⟨b,s1,E,o,hb⟩:=xZ (AF.vl lR.1) lR.1 lR.2
  rw [hb AF] at E
  exact ⟨s1,yj rfl (qY rfl (yH (yy (zJ (zj (zj (zh rfl) rfl wL) rfl (i7 _))) (ya (vF (zj (zj (zh rfl) rfl ib) (zh rfl) ((AA hP).trans (by rw [je hp]))) (zR (yi (zj (zh rfl) (zh rfl) (qW hD lk)) (zj (zh rfl) (zj (zh rfl) rfl ib) (qW hD J9))) E)))))),o⟩
 ·let e:=eF (.tup [.str "made", .str y]) z D P L none none none
  have C:(wH (jm (zd 4)) (jO (mB (ze zQ (ze zV (zd 0) (Ar 2)) (As "add"))) (mB (ze zQ (ze zV (zd 0) (Ar 2)) (As "front")))) (ze zV (zd 0) (Ar 1))) e s=.ok (.ref s.length) (s++[.lst (((aJ.filter gE).map lQ).map PV.str)]):=by
   rw [vB,iU,zh (v:=.ref L) rfl]
   simp only [zD,c9]
   rw [yp hL]
   have:=qF (ft:=(jO (mB (ze zQ (ze zV (zd 0) (Ar 2)) (As "add"))) (mB (ze zQ (ze zV (zd 0) (Ar 2)) (As "front"))))) (fe:=(ze zV (zd 0) (Ar 1))) (env:=e) (st:=s) (n:=L) (p:=gE) (f:=λx=>.str (lQ x)) aJ hL (λx hx=>by
    obtain ⟨z',gy,a,as',w,rfl,_⟩:=nW A x hx
    have T:∀(k:Str) (b:Bool),decide (gy=k)=b->(mB (ze zQ (ze zV (zd 0) (Ar 2)) (As k))) (some (dU z' gy (a::as'))::e) s=.ok b s:=λk b h=>zJ (zj (zj (zh rfl) rfl J2) rfl (eqs _ _ _ h _))
    show _=Res.ok (decide (gy = "add")||decide (gy = "front")) s
    by_cases h:gy = "add"
    ·rw [je h];exact vD (T _ true (je h))
    ·rw [yA h,Bool.false_or];exact lE (T _ false (yA h)) (T _ _ rfl)) (λx hx _=>by
    obtain ⟨z',gy,a,as',w,rfl,_⟩:=nW A x hx
    exact zj (zh rfl) rfl ib) aJ.length 0 (lim+1) [] (by omega) (by simp [lim];omega)
   rw [List.drop_zero,qX] at this
   have e2:((aJ.filter gE).map lQ).map PV.str=(aJ.filter gE).map (λx=>.str (lQ x)):=by rw [List.map_map];rfl
   rw [e2]
   exact this
  have ym:y∈(aJ.filter gE).map lQ:=jw.mpr ⟨_,List.mem_filter.mpr ⟨hm,by
   show (decide (op = "add")||decide (op = "front"))=true
   rcases ho with h|h
   ·rw [je h];rfl
   ·rw [je h,Bool.or_true]⟩,rfl⟩
  exact ⟨_,yj rfl (qY rfl (zv (zM (zJ (zj (zj (zh rfl) rfl wL) rfl (g9 J6 _)))) (yH (yy (zJ (zj (zj (zh rfl) rfl wL) rfl (i7 _))) (ya (zj (zj (zh rfl) rfl ib) C ((AA (yq _ _)).trans (by rw [je ym])))))))),yk _ _⟩
 ·let R:PV:=.tup [.str "is", .non]
  let s1:=s++[SO.lst []]
  have o1:Old s s1:=yk _ _
  obtain ⟨e',s2,F,⟨x6,rfl⟩,t2,k2⟩:=xx (g:=gN 6) (body:=(jC (jn w6 (zd 5) (ze zV (zd 6) (Ar 3))))) (n:=L) aJ (λi e st=>(∃x6,e=eF R z D P L (At s.length) x6 none)/\st[s.length]?=some (.lst ((aJ.take i).flatMap i9))/\Kx [s.length] s1 st) (λi e st h=>h.2.2 _ _ (by have:=yB hL;simp;omega) (o1 _ _ hL)) (λi x e st hx ⟨⟨x6,he⟩,ht,kx⟩=>by
   subst he
   obtain ⟨z',gy,a,as',w,rfl,_⟩:=nW A x (jY hx)
   have fl:=qZ (A:=i9) (m:=2) (aJ.take i) λw hw=>(nX A (List.mem_of_mem_take hw)).1
   have al:=(nX A (jY hx)).1
   have:(aJ.take i).length<=aJ.length:=by simp;omega
   have E:=xS (ys:=a::as') ht (by have:(a::as').length<=2:=al;omega)
   refine ⟨_,_,_,rfl,nj (nq (zh rfl) ht (zj (zh rfl) rfl J3) E),⟨_,rfl⟩,?_,kx.trans (j6 (by simp))⟩
   rw [yW (yB ht),IU hx]
   rfl) aJ.length 0 (lim+1) (eF R z D P L (At s.length) none none) s1 (by omega) (by simp [lim];omega) ⟨⟨none,rfl⟩,yq _ _,Kx.refl _ _⟩
  rw [List.take_length] at t2
  have o2:Old s s2:=λm so e=>k2 m so (by have:=yB e;simp;omega) (o1 _ _ e)
  have FO:(we (jm (zd 4)) (gN 6) (jC (jn w6 (zd 5) (ze zV (zd 6) (Ar 3))))) (eF R z D P L (At s.length) none none) s1=.ok (.nx (eF R z D P L (At s.length) x6 none)) s2:=by
   rw [pR,iU,zh (v:=.ref L) rfl]
   simp only [zD,c9]
   rw [yp (o1 _ _ hL)]
   exact F
  let bs:=aJ.flatMap i9
  have bl:bs.length<=200:=yM (qZ (A:=i9) (m:=2) aJ λw hw=>(nX A hw).1) (by omega)
  have ba:∀b∈bs,(∃w,b=isA w/\Raw u w)\/∃y,b=fz y:=λb hb=>by
   obtain ⟨x,hx,hb⟩:=List.mem_flatMap.mp hb
   exact (nX A hx).2 b hb
  let ws:=(bs.filter n_).map AE
  let s3:=s2++[SO.lst ws]
  have C:(wH (jm (zd 5)) (mB (ze zQ (ze zV (zd 0) (Ar 0)) (As "is"))) (ze zV (zd 0) (Ar 1))) (eF R z D P L (At s.length) x6 none) s2=.ok (.ref s2.length) s3:=by
   rw [vB,iU,zh (v:=.ref s.length) rfl]
   simp only [zD,c9]
   rw [yp t2]
   have:=qF (ft:=(mB (ze zQ (ze zV (zd 0) (Ar 0)) (As "is")))) (fe:=(ze zV (zd 0) (Ar 1))) (env:=(eF R z D P L (At s.length) x6 none)) (st:=s2) (n:=s.length) (p:=n_) (f:=AE) bs t2 (λb hb=>by
    rcases ba b hb with ⟨w,rfl,_⟩|⟨y,rfl⟩
    ·exact zJ (zj (zj (zh rfl) rfl wL) rfl (eqs _ _ _ rfl _))
    ·exact zJ (zj (zj (zh rfl) rfl wL) rfl (eqs _ _ _ rfl _))) (λb hb _=>by
    rcases ba b hb with ⟨w,rfl,_⟩|⟨y,rfl⟩
    ·exact zj (zh rfl) rfl ib
    ·exact zj (zh rfl) rfl ib) bs.length 0 (lim+1) [] (by omega) (by simp [lim];omega)
   rw [List.drop_zero,qX] at this
   exact this
  have wr:∀w∈ws,Raw u w:=λw hw=>by
   obtain ⟨b,hb,rfl⟩:=jw.mp hw
   obtain ⟨hb,hi⟩:=List.mem_filter.mp hb
   rcases ba b hb with ⟨w,rfl,h⟩|⟨y,rfl⟩
   ·exact h
   ·exact absurd hi (by show ¬(decide (("of" : Str) = "is")=true);rw [yA nO];simp)
  have wm:w∈ws:=jw.mpr ⟨isA w,List.mem_filter.mpr ⟨List.mem_flatMap.mpr ⟨_,hm,ha⟩,by show decide (("is" : Str) = "is")=true;simp⟩,rfl⟩
  have wl:ws.length<=200:=by
   have:ws.length<=bs.length:=by simp only [ws,ji];exact List.length_filter_le _ _
   omega
  have o3:Old s s3:=o2.trans (yk _ _)
  let e7:=eF R z D P L (At s.length) x6 (At s2.length)
  obtain ⟨ys,s4,CR,hy,o4⟩:=xw (fe:=(zu i0 (zf (ze zV (zd 3) (zd 2)) (zf (zd 0) zn)))) (env:=e7) (n:=s2.length) ws (λi ys st=>(∃bs:List Bool,ys=bs.map PV.bl/\bs.length=i/\∀j,ws[j]?=some w->j<i->true∈bs)/\Old s3 st) (λi ys st h=>h.2 _ _ (yq _ _)) (λi x ys st hx ⟨⟨lG,hb,hl,ht⟩,o⟩=>by
   have oo:Old s st:=o3.trans o
   have kk:=k.trans oo.kd
   have rx:=(wr x (jY hx)).kd kk
   have pv:=(pc.kd kk).vl (lR.kd kk).1
   obtain ⟨b,s5,E,o5,J_⟩:=xZ pv rx.1 rx.2
   refine ⟨.bl b,s5,zR (yi (zj (zh rfl) (zh rfl) (qW (oo _ _ hD) lk)) (zh rfl)) E,⟨lG++[b],by rw [hb];simp,by simp [hl],λj hj nU=>?_⟩,o.trans o5⟩
   by_cases hj2:j<i
   ·exact jI _ (ht j hj hj2)
   ·have:j=i:=by omega
    subst this
    rw [hx] at hj
    cases hj
    rw [J_ (pc.kd kk)]
    simp) ws.length 0 (lim+1) [] s3 (by omega) (by simp [lim];omega) ⟨⟨[],rfl,rfl,λj _ h=>by omega⟩,Old.refl _⟩
  obtain ⟨lG,rfl,hl,ht⟩:=hy
  obtain ⟨j,hj,ej⟩:=jZ wm
  have tb:lG.any id=true:=List.any_eq_true.mpr ⟨true,ht j (by rw [zK hj,ej]) hj,rfl⟩
  have CC:(jE (jm (zd 7)) (zu i0 (zf (ze zV (zd 3) (zd 2)) (zf (zd 0) zn)))) e7 s3=.ok (.ref s4.length) (s4++[.lst (lG.map PV.bl)]):=by
   rw [p6,iU,zh (v:=.ref s2.length) rfl]
   simp only [zD,c9]
   rw [yp (yq _ _)]
   exact CR
  have NE:wR (.str "is") (.str "is") s3=.ok (.bl false) s3:=by rw [HF];simp
  exact ⟨_,yj rfl (qY rfl (zv (zM (zJ (zj (zj (zh rfl) rfl wL) rfl (g9 xQ _)))) (zv (zM (zJ (zj (zj (zh rfl) rfl wL) rfl (g9 J7 _)))) (zv (yh (jF wI (by simp))) (zv FO (zv (yh C) (zv (zM (lE (zJ (zj (zj (zh rfl) rfl wL) rfl NE)) (zJ (zj (zj (zh rfl) rfl ib) rfl rfl)))) (ya (zR (zU CC) ((J4 (yq _ _)).trans (by rw [tb]))))))))))),(o3.trans o4).trans (yk _ _)⟩
end
def AG {g:PV->zc->Option zc}{body:Aj}{n:Nat}(xs:An) (I:Nat->zc->ae->Prop) (at_:∀i e st,I i e st->st[n]?=some (.lst xs)) (step:∀(i:Nat) x e st,xs[i]?=some x->I i e st->∃e1 e2 aA,g (.tup [.int (i:Int),x]) e=some e1/\body e1 st=.ok (.nx e2) aA/\I (i+1) e2 aA) :
  ∀(k i m:Nat) (env:zc) (st:ae),i+k=xs.length->k<m->I i env st->∃a8 aU,dP g body n m i env st=.ok (.nx a8) aU/\I xs.length a8 aU
 | 0,i,m,env,st,hk,hm,h=>by
  obtain ⟨m,rfl⟩:∃j,m=j+1:=⟨m-1,by omega⟩
  refine ⟨env,st,?_,by rw [<-hk];exact h⟩
  unfold dP
  rw [yp (at_ _ _ _ h),iD (by omega)]
 | k+1,i,m,env,st,hk,hm,h=>by
  obtain ⟨m,rfl⟩:∃j,m=j+1:=⟨m-1,by omega⟩
  have hx:xs[i]?=some (xs[i]'(by omega)):=zK (by omega)
  obtain ⟨e1,e2,aA,q1,q2,q3⟩:=step i _ env st hx h
  obtain ⟨a8,aU,r,h2⟩:=AG xs I at_ step k (i+1) m e2 aA (by omega) (by omega) q3
  refine ⟨a8,aU,?_,h2⟩
  unfold dP
  rw [yp (at_ _ _ _ h),hx]
  simp only
  rw [q1]
  simp only
  rw [q2]
  simp only [zD]
  exact r
def Ka {fs:Ah}{g:PV->zc->Option zc}{body:Aj}{e:zc}{s0 s:ae}{r:Nat}{xs:An}{X:Res Fl}(hf:fs e s0=.ok [.ref r] s) (h:s[r]?=some (.lst xs)) (hX:dP g body r (lim+1) 0 e s=X):k_ fs g body e s0=X:=by
 rw [GA,hf,zD]
 show ((z0 s r _).bind _)=_
 rw [yp h,zD]
 exact hX
def AH {g:PV->zc->Option zc}{body:Aj}(xs:An) (I:Nat->zc->ae->Prop) (step:∀(i:Nat) x e st,xs[i]?=some x->I i e st->∃e1 e2 aA,g x e=some e1/\body e1 st=.ok (.nx e2) aA/\I (i+1) e2 aA) :
  ∀(k i:Nat) (env:zc) (st:ae),i+k=xs.length->I i env st->∃a8 aU,dQ g body (xs.drop i) env st=.ok a8 aU/\I xs.length a8 aU
 | 0,i,env,st,hk,h=>⟨env,st,by rw [ww (by omega)];rfl,by rw [<-hk];exact h⟩
 | k+1,i,env,st,hk,h=>by
  have hx:xs[i]?=some (xs[i]'(by omega)):=zK (by omega)
  obtain ⟨e1,e2,aA,q1,q2,q3⟩:=step i _ env st hx h
  obtain ⟨a8,aU,r,h2⟩:=AH xs I step k (i+1) e2 aA (by omega) q3
  refine ⟨a8,aU,?_,h2⟩
  rw [jc (by omega)]
  unfold dQ
  rw [q1]
  simp only
  rw [q2,wX,zD]
  exact r
def Kb {fo:Ai}{g:PV->zc->Option zc}{body:Aj}{e e':zc}{s s2:ae}{D:Nat}{ks:Ad}{vs:An}(hf:fo e s=.ok (.ref D) s) (hD:s[D]?=some (.dic ks vs)) (F:dQ g body (ks.map PV.str) e (s.set D (.fdi ks vs))=.ok e' s2) (h2:s2[D]?=some (.fdi ks vs)):m8 fo g body e s=.ok (.nx e') (s2.set D (.dic ks vs)):=by
 rw [Hn,hf,zD]
 unfold w4
 simp only
 rw [ng hD,F,wX,zD]
 unfold de
 rw [h2]
section
variable {u u':ae}{ps zs:Ad}{aZ aJ vals:An}
def h8.kd {ks:Ad}{vs:An}{a v:PV}(h:h8 u ks vs a v) (k:Kd u u'):h8 u' ks vs a v:=by
 rcases h with ⟨h,r⟩|h
 ·exact .inl ⟨h,r.kd k⟩
 ·exact .inr h
def Sp.kd {ks:Ad}{vs:An}{z:Str}{s v:PV}(h:Sp u ks vs z s v) (k:Kd u u'):Sp u' ks vs z s v:=by
 obtain ⟨⟨op,a,as,w,h1,h2,h3,h4,h5⟩,n,hv⟩:=h
 refine ⟨⟨op,a,as,w,h1,h2.kd k,λb hb=>let ⟨w,e,r⟩:=h3 b hb;⟨w,e,r.kd k⟩,h4,?_⟩,n,hv.kd k⟩
 rcases h5 with h|⟨h,f⟩
 ·exact .inl h
 ·exact .inr ⟨h,f.kd k⟩
def All.kd (A:All u ps aZ zs aJ vals) (k:Kd u u'):All u' ps aZ zs aJ vals:=⟨A.l0,A.l1,A.l2,A.few,A.nd,λv hv=>(A.pr v hv).kd k,λi z s v a b c=>(A.st i z s v a b c).kd k⟩
def All.snoc (A:All u ps aZ zs aJ vals) {z:Str}{s v:PV}(S:Sp u (ps++zs) (aZ++vals) z s v) (hz:z∉ps++zs) (few:zs.length<100):All u ps aZ (zs++[z]) (aJ++[s]) (vals++[v]):=by
 have l1:=A.l1
 have l2:=A.l2
 refine ⟨A.l0,by simp [l1],by simp [l2],by simp;omega,?_,A.pr,λi z' s' v' a b c=>?_⟩
 ·rw [<-iF]
  refine List.nodup_append.mpr ⟨A.nd,by simp,λa ha b hb=>?_⟩
  rw [jh.mp hb]
  exact λh=>hz (h▸ha)
 ·by_cases hi:i<zs.length
  ·rw [jj hi] at a
   rw [jj (by omega)] at b c
   have:=A.st i z' s' v' a b c
   rw [List.take_append_of_le_length (by omega),List.take_append_of_le_length (by omega)]
   exact this
  ·have:i=zs.length:=by
    have:=(yf.mp a).1
    simp at this
    omega
   subst this
   rw [jd (zI _),Nat.sub_self] at a
   rw [jd (by omega),l1,Nat.sub_self] at b
   rw [jd (by omega),l2,Nat.sub_self] at c
   cases a;cases b;cases c
   rw [List.take_append_of_le_length (zI _),List.take_length,List.take_append_of_le_length (by omega),List.take_of_length_le (by omega)]
   exact S
def All.vall (A:All u ps aZ zs aJ vals):∀v∈aZ++vals,∃n,Vl u n v:=λv hv=>by
 rcases j1.mp hv with h|h
 ·exact ⟨6,(A.pr v h).1⟩
 ·obtain ⟨i,hi,e⟩:=jZ h
  obtain ⟨z,s,w,ez,es,ev,S⟩:=A.at_ (i:=i) (by rw [<-A.l2];exact hi)
  rw [zK hi,e] at ev
  cases ev
  exact S.vl
end
def fK {s:ae}{n:Nat}{zs:Ad}(h:s[n]?=some (.lst (zs.map PV.str))) {i:Nat}(hi:i<zs.length):zB (.ref n) (.int (i:Int)) s=.ok (.str (zs[i]'hi)) s:=by
 rw [m3,yp h,a9 (x:=PV.str (zs[i]'hi)) (by rw [jp,zK hi];rfl)]
 rfl
def Kc (ns:List Int):∃is:List Int,bS (ns.map PV.int) (some 4) (some 40)=is.map PV.int/\is.length<=40:=by
 refine ⟨(ns.drop (HT.sIx (ns.map PV.int).length 0 (some 4))).take (HT.sIx (ns.map PV.int).length (ns.map PV.int).length (some 40)-HT.sIx (ns.map PV.int).length 0 (some 4)),?_,?_⟩
 ·unfold bS
  rw [List.map_take,List.map_drop]
 ·have:HT.sIx (ns.map PV.int).length (ns.map PV.int).length (some 40)<=40:=by
   simp [HT.sIx]
   omega
  simp only [List.length_take]
  omega
def Ke (ns:List Int) {nm:Nat->Str}{m Pm:Nat}(one:∀i j:Nat,i<20->j<20->nm i=nm j->i=j) (hm:m<=3) {s:ae}{x1 x2:Ao}(hP:s[Pm]?=some (.lst (((List.range m).map nm).map PV.str))) :
  ∃aZ x6 s1,(we (cD (zf (zd 3) zn)) (gN 6) (jD (zd 5) (ze zB (zd 4) (zd 6)) (zu g7 (zf (ze yl (zu j5 (zf (zd 0) (zf (ze z8 (Ar 1) (zd 6)) zn))) (Ar 3)) zn)))) [some (.frl (ns.map PV.int)),x1,x2,Au m,At Pm,At s.length,none,none,none,none,none] (s++[.dic [] []])=.ok (.nx [some (.frl (ns.map PV.int)),x1,x2,Au m,At Pm,At s.length,x6,none,none,none,none]) s1/\s1[s.length]?=some (.dic ((List.range m).map nm) aZ)/\aZ.length=m/\(∀v∈aZ,Raw (hd s.length s1) v)/\Old s s1:=by
 obtain ⟨e',s1,F,⟨x6,rfl⟩,aZ,q8,hl,hr,k⟩:=IF (gt:=gN 6) (body:=(jD (zd 5) (ze zB (zd 4) (zd 6)) (zu g7 (zf (ze yl (zu j5 (zf (zd 0) (zf (ze z8 (Ar 1) (zd 6)) zn))) (Ar 3)) zn)))) (fs:=(zf (zd 3) zn)) (e:=[some (.frl (ns.map PV.int)),x1,x2,Au m,At Pm,At s.length,none,none,none,none,none]) (st:=s++[.dic [] []]) (λi e st=>(∃x6,e=[some (.frl (ns.map PV.int)),x1,x2,Au m,At Pm,At s.length,x6,none,none,none,none])/\∃aZ,st[s.length]?=some (.dic ((List.range i).map nm) aZ)/\aZ.length=i/\(∀v∈aZ,Raw (hd s.length st) v)/\Kx [s.length] (s++[.dic [] []]) st) m (by omega) (zU (zh rfl)) (λi e st hi ⟨⟨x6,he⟩,aZ,q8,hl,hr,k⟩=>by
  subst he
  obtain ⟨c,s2,C,o2⟩:=qI ns (1+i) (by omega) st
  obtain ⟨v,s3,V,o3,hv⟩:=y_ (yK c 3) s2
  have D2:=o2 _ _ q8
  have D3:=o3 _ _ D2
  have oo:=o2.trans o3
  have P2:s3[Pm]?=some (.lst (((List.range m).map nm).map PV.str)):=oo _ _ (k _ _ (by have:=yB hP;simp;omega) (yk _ _ _ _ hP))
  have I:=fK P2 (i:=i) (by simpa using hi)
  simp only [List.getElem_map,List.getElem_range] at I
  have R:=hv (hd s.length s3) (Ag (yB D2))
  have P:=qD (fo:=zd 5) (fi:=(ze zB (zd 4) (zd 6))) (fv:=(zu g7 (zf (ze yl (zu j5 (zf (zd 0) (zf (ze z8 (Ar 1) (zd 6)) zn))) (Ar 3)) zn))) (e:=[some (.frl (ns.map PV.int)),x1,x2,Au m,At Pm,At s.length,Au i,none,none,none,none]) (s:=st) (zR (zU (zj (zR (yi (zh rfl) (zj rfl (zh rfl) (g8 1 i))) C) rfl (jG _ _ (by decide) (by decide)))) V) (zh rfl) (zj (zh rfl) (zh rfl) I) D3 (by simp;omega)
  have hn:nm i∉(List.range i).map nm:=λh=>by
   obtain ⟨j,hj,e⟩:=jw.mp h
   have:=wM.mp hj
   have:=one j i (by omega) (by omega) e
   omega
  rw [qS hn] at P
  have er:(List.range i).map nm++[nm i]=(List.range (i+1)).map nm:=by rw [List.range_succ,i_];rfl
  rw [er] at P
  have kk:Kx [s.length] st (s3.set s.length (.dic ((List.range (i+1)).map nm) (aZ++[v]))):=oo.kx.trans (j6 (by simp))
  refine ⟨_,_,_,rfl,P,⟨_,rfl⟩,aZ++[v],yW (yB D3),by simp [hl],λw hw=>?_,k.trans kk⟩
  rcases j1.mp hw with h|h
  ·exact (hr w h).kd (hU kk)
  ·rw [jh.mp h]
   exact R.kd (hU (j6 (by simp)))) ⟨⟨none,rfl⟩,[],yq _ _,rfl,λ_ h=>(nomatch h),Kx.refl _ _⟩
 exact ⟨aZ,x6,s1,F,q8,hl,hr,λm so e=>k m so (by have:=yB e;simp;omega) (yk _ _ _ _ e)⟩
section
variable {ns:List Int}{x1 x2 x3:Ao}{Pm D L:Nat}{nm:Nat->Str}{ps:Ad}{aZ:An}
abbrev eL (ns:List Int) (x1 x2 x3:Ao) (Pm D L:Nat) (x6 x8 x9 Kf:Ao):zc:=[some (.frl (ns.map PV.int)),x1,x2,x3,At Pm,At D,x6,At L,x8,x9,Kf]
abbrev bE:Aj:=(jC (jn iS (zd 7) (zu lH (zf (ze zH (zd 8) (ze y4 (Ar 10) (Ar 24))) (zf (ze z8 (ze z8 (As "s") (zu wF (zf (zd 6) zn))) (As "x")) (zf (zd 5) zn))))))
structure GI (Pm D L:Nat) (ps:Ad) (aZ:An) (i:Nat) (aJ vals:An) (st:ae):Prop where
 all:All (hd D st) ps aZ ((List.range i).map sx) aJ vals
 atD:st[D]?=some (.dic (ps++(List.range i).map sx) (aZ++vals))
 atL:st[L]?=some (.lst aJ)
def Kg {s:ae}(hD:s[D]?=some (.dic ps aZ)) (hP:s[Pm]?=some (.lst (ps.map PV.str))) (nd:ps.Nodup) (hl:ps.length=aZ.length) (h0:0<ps.length) (h3:ps.length<=3) (hq:∀p∈ps,Qs p.cps.toList=false) (hr:∀v∈aZ,Raw (hd D s) v) {x6:Ao} :
  ∃i aJ vals y6 y8 s1,(k_ (zf (jB (zd 0) (bC (Ar 4)) (bC (Ar 40))) zn) (g2 6 8) bE) (eL ns x1 x2 x3 Pm D s.length x6 none none none) (s++[.lst []])=.ok (.nx (eL ns x1 x2 x3 Pm D s.length y6 y8 none none)) s1/\GI Pm D s.length ps aZ i aJ vals s1/\s1[Pm]?=some (.lst (ps.map PV.str)):=by
 obtain ⟨is,ec,il⟩:=Kc ns
 let s0:=s++[SO.lst []]
 let q:=s0.length
 let s1:=s0++[SO.lst (is.map PV.int)]
 have l0:s0.length=s.length+1:=by simp [s0]
 have o1:Old s s1:=(yk _ _).trans (yk _ _)
 have lD:=yB hD
 have lP:=yB hP
 have SL:(zf (jB (zd 0) (bC (Ar 4)) (bC (Ar 40))) zn) (eL ns x1 x2 x3 Pm D s.length x6 none none none) s0=.ok [.ref q] s1:=zU (ql (zh rfl) (nk rfl) (nk rfl) (by rw [FU,ec]))
 have k0:Kd (hd D s) (hd D s1):=hU o1.kx
 obtain ⟨e',s2,F,⟨y6,y8,rfl⟩,uc,Kh,aJ,vals,G⟩:=AG (g:=g2 6 8) (body:=bE) (n:=q) (is.map PV.int) (λi e st=>(∃y6 y8,e=eL ns x1 x2 x3 Pm D s.length y6 y8 none none)/\st[q]?=some (.lst (is.map PV.int))/\st[Pm]?=some (.lst (ps.map PV.str))/\∃aJ vals,GI Pm D s.length ps aZ i aJ vals st) (λi e st h=>h.2.1) (λi x e st hx ⟨⟨y6,y8,he⟩,Ki,hP1,aJ,vals,G⟩=>by
  subst he
  have hi:=(yf.mp hx).1
  rw [ji] at hi
  rw [jp,zK hi] at hx
  cases hx
  have A:=G.all
  have l1:=A.l1
  have l2:=A.l2
  have hz:sx i∉ps++(List.range i).map sx:=λh=>by
   rcases j1.mp h with h|h
   ·have:=hq _ h
    rw [Jh] at this
    cases this
   ·obtain ⟨j,hj,e⟩:=jw.mp h
    have:=wM.mp hj
    have:=Ji e
    omega
  obtain ⟨fh,val,s3,E,k3,D3,S⟩:=JH (c:=yw (is[i]'hi) 1000000000000000000000000) (z:=sx i) G.atD A.nd (by simp [hl];simpa using l2.symm) (by simp;omega) (by simp;omega) hz A.vall
  have L3:s3[s.length]?=some (.lst aJ):=k3 _ _ (by simp;omega) G.atL
  let s4:=s3.set s.length (SO.lst (aJ++[fh]))
  have AP:iS (.ref s.length) fh s3=.ok .non s4:=IK L3 (by rw [l1];simp;omega)
  have Kj:Kd (hd D s3) (hd D s4):=λm ks xs e=>by
   by_cases h:D=m
   ·subst h
    rw [yW (yB D3)] at e
    cases e
   ·rw [y0 h] at e ⊢
    exact qN L3 _ _ _ e
  have Kk:Kd (hd D st) (hd D s3):=hU k3
  have er:(List.range i).map sx++[sx i]=(List.range (i+1)).map sx:=by rw [List.range_succ,i_];rfl
  have A4:=((A.kd Kk).snoc S hz (by simp;omega)).kd Kj
  rw [er] at A4
  refine ⟨_,_,s4,rfl,nj (nq (zh rfl) G.atL (zR (jS (zj (zh rfl) (zj rfl rfl (x4 _)) (wn _ _ (by decide))) (Jj i (by omega) _ rfl) (zh rfl)) E) AP),⟨_,_,rfl⟩,?_,?_,aJ++[fh],vals++[val],⟨A4,?_,yW (yB L3)⟩⟩
  ·rw [y0 (by omega)];exact k3 _ _ (by simp;omega) Ki
  ·rw [y0 (by omega)];exact k3 _ _ (by
    intro h
    rw [jh.mp h] at hP1
    rw [G.atD] at hP1
    cases hP1) hP1
  ·rw [y0 (by omega),D3,iF,er,iF]) (is.map PV.int).length 0 (lim+1) (eL ns x1 x2 x3 Pm D s.length x6 none none none) s1 (by omega) (by simp [lim];omega) ⟨⟨_,_,rfl⟩,yq _ _,o1 _ _ hP,[],[],⟨⟨hl,rfl,rfl,by simp,by simpa using nd,λv hv=>(hr v hv).kd k0,λi z s v h=>by simp at h⟩,by simpa using o1 _ _ hD,yk _ _ _ _ (yq _ _)⟩⟩
 exact ⟨_,aJ,vals,y6,y8,s2,Ka SL (yq _ _) F,G,Kh⟩
def Kl {s:ae}{i:Nat}{aJ vals:An}{y6 y8:Ao}(G:GI Pm D L ps aZ i aJ vals s) (hP:s[Pm]?=some (.lst (ps.map PV.str))):∃s1,xr (eL ns x1 x2 x3 Pm D L y6 y8 none none) s=.ok (.rt (.bl true)) s1:=by
 have A:=G.all
 have few:=A.few
 let fv:PV:=.tup [.str "main", .tup (ps.map PV.str),dr aJ]
 let ks:=ps++(List.range i).map sx
 let vs:=aZ++vals
 let sf:=s.set D (.fdi ks vs)
 have lD:=yB G.atD
 have kf:Kd (hd D s) sf:=λm a b e=>by
  by_cases h:D=m
  ·subst h
   rw [yW lD] at e
   cases e
  ·rw [y0 h] at e ⊢
   exact e
 have nL:D≠L:=λh=>by
  have:=G.atD
  rw [h,G.atL] at this
  cases this
 have nP:D≠Pm:=λh=>by
  have:=G.atD
  rw [h,hP] at this
  cases this
 have fD:sf[D]?=some (.fdi ks vs):=yW lD
 have fL:sf[L]?=some (.lst aJ):=by rw [y0 nL];exact G.atL
 have fP:sf[Pm]?=some (.lst (ps.map PV.str)):=by rw [y0 nP];exact hP
 have hlen:ks.length=vs.length:=by simp only [ks,vs,jW];rw [A.l0,A.l2]
 obtain ⟨e',s2,F,⟨q9,rfl⟩,o2⟩:=AH (g:=gN 10) (body:=(zT (iQ (mB (zu nv (zf (zu nC (zf (zd 9) (zf (zS (zf (As "of") (zf (zd 10) zn))) zn))) (zf (zd 10) (zf (zd 5) (zf (zd 4) (zf (zd 7) zn))))))))
  (zP (mC (.bl false)))
  zW)) (ks.map PV.str) (λj e st=>(∃q9,e=eL ns x1 x2 x3 Pm D L y6 y8 (some fv) q9)/\Old sf st) (λj x e st hx ⟨⟨q9,he⟩,o⟩=>by
  subst he
  have hj:=(yf.mp hx).1
  rw [ji] at hj
  rw [jp,zK hj] at hx
  cases hx
  have h_:j<vs.length:=by omega
  have lk:(ks.zip vs).lookup (ks[j]'hj)=some (vs[j]'h_):=g_ A.nd (zK hj) (zK h_)
  obtain ⟨R,hO,hR⟩:=J1 A (.str "main") (.tup (ps.map PV.str)) (jJ hj) lk
  obtain ⟨s3,E3,o3⟩:=hR st
  have oo:=o.trans o3
  obtain ⟨s4,E4,o4⟩:=J8 A hO (kf.trans oo.kd) (oo _ _ fD) (oo _ _ fP) (oo _ _ fL) lk
  exact ⟨_,_,s4,rfl,zM (vE (b:=true) (zJ (zR (lC (zR (yi (zh rfl) (yc (yi rfl (zh rfl)) (by simp))) E3) (nF (zh rfl) (zh rfl) (zh rfl) (zh rfl))) E4))),⟨_,rfl⟩,oo.trans o4⟩) (ks.map PV.str).length 0 (eL ns x1 x2 x3 Pm D L y6 y8 (some fv) none) sf (by omega) ⟨⟨_,rfl⟩,Old.refl _⟩
 rw [List.drop_zero] at F
 have T1:wA [.ref Pm] s=.ok (.tup (ps.map PV.str)) s:=by rw [m5,yp hP]
 have T2:wA [.ref L] s=.ok (.tup aJ) s:=by rw [m5,yp G.atL]
 exact ⟨_,zv (yh (yc (jS rfl (zR (zU (zh rfl)) T1) (yc (yi (zR (zU (zh rfl)) T2) (yc (yi rfl (yc (yi rfl rfl) (by simp))) (by simp))) (by simp))) (by simp))) (zv (Kb (zh rfl) G.atD F (o2 _ _ fD)) (ya rfl))⟩
end
def zoK (ns:List Int):∃st,xt [.frl (ns.map .int)] []=.ok (.bl true) st:=by
 obtain ⟨c0,s1,E1,_⟩:=qI ns 0 (by decide) []
 obtain ⟨c,hc,ec⟩:=dS c0 1000000000000 (by decide)
 have ec:yw c0 1000000000000=(c:Int):=ec
 let s2:=s1++[SO.lst [.int 0,.int 1,.int 3]]
 have h3:c/900000%3<3:=jK _ (by decide)
 obtain ⟨d,Lv,ID⟩:∃d:Nat,(d=0\/d=1\/d=3)/\zB (.ref s1.length) (.int ((c/900000%3:Nat):Int)) s2=.ok (.int (d:Int)) s2:=by
  have key:∀k:Nat,k<3->∃d:Nat,(d=0\/d=1\/d=3)/\zB (.ref s1.length) (.int (k:Int)) s2=.ok (.int (d:Int)) s2:=λk hk=>by
   match k,hk with
   | 0,_=>exact ⟨0,.inl rfl,lK (yq s1 (SO.lst [.int 0,.int 1,.int 3])) (j:=0) (by simp)⟩
   | 1,_=>exact ⟨1,.inr (.inl rfl),lK (yq s1 (SO.lst [.int 0,.int 1,.int 3])) (j:=1) (by simp)⟩
   | 2,_=>exact ⟨3,.inr (.inr rfl),lK (yq s1 (SO.lst [.int 0,.int 1,.int 3])) (j:=2) (by simp)⟩
  exact key _ h3
 have cl:c%900000<900000:=jK _ (by decide)
 obtain ⟨nm,N⟩:=Jg (4*(c%900000)+d) (by
  have:(2:Nat) ^ 50=1125899906842624:=by decide
  omega)
 have E2:(ze z8 (ze ju (Ar 4) (ze zH (zd 1) (Ar 900000))) (ze zB (yU (zf (Ar 0) (zf (Ar 1) (zf (Ar 3) zn)))) (ze zH (ze yl (zd 1) (Ar 900000)) (Ar 3)))) [some (.frl (ns.map PV.int)),Au c,none,none,none,none,none,none,none,none,none] s1=.ok (.int ((4*(c%900000)+d:Nat):Int)) s2:=zj (zj rfl (zj (zh rfl) rfl (wJ c 900000 (by decide))) (IJ 4 _ (.inl (by decide)))) (zj (jF (jS rfl rfl rfl) (by simp)) (zj (zj (zh rfl) rfl (qE c 900000 (by decide) (by decide))) rfl (wJ _ 3 (by decide))) ID) (g8 _ _)
 obtain ⟨c1,s3,E3,o3⟩:=qI ns 1 (by decide) s2
 obtain ⟨m,hm,M⟩:=h7 (x:=c1) (j:=3) (by decide) s3
 obtain ⟨ys,s4,C,hy,o4⟩:=xA (fe:=(zu nu (zf (zd 3) (zf (zd 0) zn)))) (fs:=(zf (zd 3) zn)) (env:=[some (.frl (ns.map PV.int)),Au c,some (.int ((4*(c%900000)+d:Nat):Int)),some (.int ((1+m:Nat):Int)),none,none,none,none,none,none,none]) (st:=s3) (s0:=s3) (1+m) (by omega) (zU (zh rfl)) (λi ys st=>ys=((List.range i).map nm).map PV.str/\Old s3 st) (λi ys st hi ⟨h,o⟩=>by
  obtain ⟨s5,E5,o5⟩:=N.at_ i (by omega) st
  refine ⟨_,s5,zR (yi (zh rfl) (zh rfl)) E5,?_,o.trans o5⟩
  rw [h,List.range_succ,i_,i_]
  rfl) ⟨rfl,Old.refl _⟩
 subst hy
 let ps:=(List.range (1+m)).map nm
 let s5:=s4++[SO.lst (ps.map PV.str)]
 obtain ⟨aZ,x6,s6,E6,t6,l6,r6,o6⟩:=Ke ns (nm:=nm) (m:=1+m) (Pm:=s4.length) (s:=s5) (x1:=Au c) (x2:=some (.int ((4*(c%900000)+d:Nat):Int))) N.one (by omega) (yq _ _)
 have P6:s6[s4.length]?=some (.lst (ps.map PV.str)):=o6 _ _ (yq _ _)
 have pl:ps.length=1+m:=by simp [ps]
 have nd:ps.Nodup:=by
  refine List.pairwise_map.mpr ?_
  have:=List.nodup_range (n:=1+m)
  refine List.Pairwise.imp_of_mem ?_ this
  intro a b ha hb ne e
  have:=wM.mp ha
  have:=wM.mp hb
  exact ne (N.one a b (by omega) (by omega) e)
 obtain ⟨i,aJ,vals,y6,y8,s7,E7,G,P7⟩:=Kg (ns:=ns) (x1:=Au c) (x2:=some (.int ((4*(c%900000)+d:Nat):Int))) (x3:=some (.int ((1+m:Nat):Int))) (x6:=x6) t6 P6 nd (by rw [pl,l6]) (by simp;try omega) (by simp;omega) (λp hp=>by
  obtain ⟨k,_,rfl⟩:=jw.mp hp
  exact N.no (by omega) k) r6
 obtain ⟨s8,E8⟩:=Kl (ns:=ns) (x1:=Au c) (x2:=some (.int ((4*(c%900000)+d:Nat):Int))) (x3:=some (.int ((1+m:Nat):Int))) (y6:=y6) (y8:=y8) G P7
 exact ⟨s8,yj rfl (zv (yh (zj (zR (yi (zh rfl) rfl) E1) (zj rfl rfl (Jx _)) ((wn _ _ (by decide)).trans (by rw [ec])))) (zv (yh E2) (zv (yh (zj rfl (zj (zR (yi (zh rfl) rfl) E3) rfl M) (g8 1 m))) (zv (yh C) (zv (yh rfl) (zv E6 (zv (yh (jF wI (by simp))) (zv E7 E8))))))))⟩
end FK52
open PySem PySem.W PyProof.Rows
set_option maxHeartbeats 0
namespace PySem.W.Fast
def tw5807053028512328462:=()
def tw9123262419764899123:=()
local macro_rules
|`(command|#print $s:str)=>do
 let c<-(s.getString.splitOn " ").toArray.flatMapM λw=>do
  let [p,a,b]:=w.splitOn "_"|Lean.Macro.throwUnsupported
  (Array.range (b.toNat!+1-a.toNat!)).mapM λk=>do
   let n:=Lean.mkIdent (.mkSimple s!"tw{((`hdT).str s!"{p}_{a.toNat!+k}").hash}")
   `(command|def $n := ())
 return Lean.mkNullNode c
#print "o_0_500 sts_0_500 view_0_500 tree_0_500 heap_0_500 env_0_500"
end PySem.W.Fast
open_top hdT for PySem.Challenge.rw_foreknown_k52_roots_are_where_pieces_com
theorem PySem.Challenge.cw_foreknown_k52_roots_are_where_pieces_com_holds : PySem.Challenge.rw_foreknown_k52_roots_are_where_pieces_com.Holds :=
 hdT (by
 k_fill
 refine Mi.walkM (l:=PySem.Challenge.rw_foreknown_k52_roots_are_where_pieces_com) (k:=7) (x := "_law_script") rfl rfl ⟨rfl,by decide,by decide⟩ (λw h Y=>PySem.W.kIn_of Y) ?F
 case F =>
  intro w mg fa h KX G hmg
  have ct_FALLING:∃a,mg "FALLING" = some (.ref a)/\∀ρ H,Mi.R (L2.KOf KX) mg ρ H (.tup (List.map Mi.PV.str FK52.ct_FALLING)) (.ref a):=by
   dsimp only [L2.KOf]
   refine' Mi.zmV KX G ?a ?l ?z ?s
   (case a|l=>k_is)
   (case z=>rfl)
   (case s=>decide)
  have is:Mi.IsF (L2.KOf KX) mg FK52.isT:=by
   exact Mi.zl1 rfl rfl rfl
  have kd_OPS:∀X:L2.Cx,X.K=(L2.KOf KX)->X.mg=mg->X.w=w->Mi.KdF X "OPS" FK52.w8 FK52.w9 FK52.zcX:=by
   dsimp only [L2.KOf]
   refine' Mi.zmB KX G ?aO ?lO ?hk ?no rfl ?ks ?hi
   (case aO|lO=>k_is)
   case hk =>
    repeat (refine ⟨⟨_,_,rfl,rfl⟩,?_⟩)
    exact trivial
   (case no=>first|rfl|decide)
   (case ks=>first|rfl|decide|kernel_rfl)
   case hi =>
    simp only [FK52.w8,FK52.w9,List.zip_cons_cons,List.zip_nil_left]
    refine Mi.all_cons ?_ ?_
    ·refine' Mi.j4 KX G ?e ?l1 ?l2 ?a
     (case e|l1|l2|a=>k_is)
    refine Mi.all_cons ?_ ?_
    ·refine' Mi.j4 KX G ?e ?l1 ?l2 ?a
     (case e|l1|l2|a=>k_is)
    refine Mi.all_cons ?_ ?_
    ·refine' Mi.j4 KX G ?e ?l1 ?l2 ?a
     (case e|l1|l2|a=>k_is)
    refine Mi.all_cons ?_ ?_
    ·refine' Mi.j4 KX G ?e ?l1 ?l2 ?a
     (case e|l1|l2|a=>k_is)
    refine Mi.all_cons ?_ ?_
    ·refine' Mi.j4 KX G ?e ?l1 ?l2 ?a
     (case e|l1|l2|a=>k_is)
    refine Mi.all_cons ?_ ?_
    ·refine' Mi.j4 KX G ?e ?l1 ?l2 ?a
     (case e|l1|l2|a=>k_is)
    refine Mi.all_cons ?_ ?_
    ·refine' Mi.j4 KX G ?e ?l1 ?l2 ?a
     (case e|l1|l2|a=>k_is)
    refine Mi.all_cons ?_ ?_
    ·refine' Mi.zaO KX G ?e ?l1 ?l2 ?a
     (case e|l1|l2|a=>k_is)
    refine Mi.all_cons ?_ ?_
    ·refine' Mi.zaO KX G ?e ?l1 ?l2 ?a
     (case e|l1|l2|a=>k_is)
    refine Mi.all_cons ?_ ?_
    ·refine' Mi.j4 KX G ?e ?l1 ?l2 ?a
     (case e|l1|l2|a=>k_is)
    refine Mi.all_cons ?_ ?_
    ·refine' Mi.zaO KX G ?e ?l1 ?l2 ?a
     (case e|l1|l2|a=>k_is)
    refine Mi.all_cons ?_ ?_
    ·refine' Mi.zaO KX G ?e ?l1 ?l2 ?a
     (case e|l1|l2|a=>k_is)
    refine Mi.all_cons ?_ ?_
    ·refine' Mi.zaO KX G ?e ?l1 ?l2 ?a
     (case e|l1|l2|a=>k_is)
    refine Mi.all_cons ?_ ?_
    ·refine' Mi.j4 KX G ?e ?l1 ?l2 ?a
     (case e|l1|l2|a=>k_is)
    refine Mi.all_cons ?_ ?_
    ·refine' Mi.zfO KX G ?e ?l1 ?l2 ?a
     (case e|l1|l2|a=>k_is)
    refine Mi.all_cons ?_ ?_
    ·refine' Mi.j4 KX G ?e ?l1 ?l2 ?a
     (case e|l1|l2|a=>k_is)
    refine Mi.all_cons ?_ ?_
    ·refine' Mi.zfO KX G ?e ?l1 ?l2 ?a
     (case e|l1|l2|a=>k_is)
    exact Mi.zlz
  have T:FK52.Txt w (L2.KOf KX) mg:=by
   constructor
   case ct_FALLING=>exact ct_FALLING
   case is=>exact is
   case kd_OPS=>exact kd_OPS
   all_goals first
    | (show Mi.MtF _ _ _ _ _ _ [_];dsimp only [L2.KOf];refine' Mi.zlw KX G ?aC ?pg ?hd ?po ?sa ?a ?i ?l ?c ?k ?b;(case aC|pg|hd|po|sa|a|i|l|c|k=>k_is);(case b=>exact λ_ _ _ _ _ _ us hl=>match us,hl with|[_],_=>rfl))
    | (show Mi.NwF _ _ _ _ _ [_,_];dsimp only [L2.KOf];refine' Mi.zlx KX G ?aC ?mk ?kc ?a ?i ?l ?c ?k ?b;(case aC|mk|kc|a|i|l|c|k=>k_is);(case b=>exact λ_ _ _ _ _ _ us hl=>match us,hl with|[_,_],_=>rfl))
    | (show Mi.FldF _ _ _ _ _
       refine ⟨λc hc=>?_,λc hc=>?_⟩
       ·simp [FK52.insOf,or_assoc] at hc
        rcases hc with rfl
        ·dsimp only [L2.KOf]
         refine' Mi.zly KX G ?aC ?pg ?hd ?po ?sa ?na
         (case aC|pg|hd|po|sa|na=>k_is)
       ·simp [FK52.excOf] at hc)
    | (show Mi.FnF _ _ _ _ [_];dsimp only [L2.KOf];refine' Mi.zbA KX G ?a ?l ?c ?k ?b;(case a|l|c|k=>k_is);(case b=>exact λ_ _ _ _ _ _ us hl=>match us,hl with|[_],_=>rfl))
    | (show Mi.FnF _ _ _ _ [_,_];dsimp only [L2.KOf];refine' Mi.zbA KX G ?a ?l ?c ?k ?b;(case a|l|c|k=>k_is);(case b=>exact λ_ _ _ _ _ _ us hl=>match us,hl with|[_,_],_=>rfl))
    | (show Mi.FnF _ _ _ _ [_,_,_];dsimp only [L2.KOf];refine' Mi.zbA KX G ?a ?l ?c ?k ?b;(case a|l|c|k=>k_is);(case b=>exact λ_ _ _ _ _ _ us hl=>match us,hl with|[_,_,_],_=>rfl))
    | (show Mi.FnF _ _ _ _ [_,_,_,_,_];dsimp only [L2.KOf];refine' Mi.zbA KX G ?a ?l ?c ?k ?b;(case a|l|c|k=>k_is);(case b=>exact λ_ _ _ _ _ _ us hl=>match us,hl with|[_,_,_,_,_],_=>rfl))
    | (refine' Mi.zlB KX G ?a;case a=>k_is)
  exact Mi.zlA T.f_law hmg (λ_ _ _ _ _ _ _=>rfl) (λf fd F base=>FK52.znG T F) (λns _=>FK52.zoK ns))
